import PyProof.Rows.All
import Wide.All
import OpenK.AllK
import Wide.FinOn
import Lean
import PyProof.EqAt
import PyProof.EqKinds
import PyProof.TupleCall
import PyProof.NeData
import KE.KTryMore
import PyProof.ExcBaseAll.ValueError
import PyProof.ExcArgsOwn
import KE.KIntText
import PyProof.Rows.SetFrom
import PyProof.SetRoads
import PyProof.StrWalks
import PyProof.ListStr
import PyProof.Rows.StrSplitCount
import PyProof.MeetsStr
import PyProof.MeetsStr2
import PyProof.StrOps2
import PySem.Challenge.RW_countgen_k81_deeds_of_their_own
set_option Elab.async false
set_option linter.all false
set_option maxRecDepth 100000
/-! THE HAND LAYER, for ints, bools, texts, own classes, LISTS and tuples (index, slices, in, append, pop ..), calls, loops. Paste it whole ahead of your own text; what your proof does not reach may be deleted. -/
namespace L2
open PySem PySem.Spec PyProof.Rows

/-- a key: an int or a str -/
abbrev Key := Sum Int Str
def keyIs : Key → Value → Bool
  | .inl k, v => Value.isInt k v
  | .inr x, v => Value.isStrOf x v
def keyH (w : World) : Key → Int
  | .inl k => hashInt k
  | .inr x => hashStr w x
theorem keyIs_shape : ∀ {k : Key} {v : Value}, keyIs k v = true → (∃ i t, k = Sum.inl i ∧ v = Value.int i t) ∨ (∃ x t, k = Sum.inr x ∧ v = Value.str x t)
  | .inl i, v, h => by
    obtain ⟨t, e⟩ := Value.isInt_shape (k := i) (v := v) h
    exact .inl ⟨i, t, rfl, e⟩
  | .inr x, v, h => by
    obtain ⟨t, e⟩ := Value.isStrOf_shape (x := x) (v := v) h
    exact .inr ⟨x, t, rfl, e⟩
theorem key_ll (a b : Int) : decide ((Sum.inl a : Key) = Sum.inl b) = (a == b) := by
  by_cases e : a = b
  · subst e; simp
  · have h : ¬ (Sum.inl a : Key) = Sum.inl b := fun q => e (Sum.inl.inj q)
    rw [decide_eq_false h]
    exact (beq_eq_false_iff_ne.mpr e).symm
theorem key_rr (a b : Str) : decide ((Sum.inr a : Key) = Sum.inr b) = decide (a = b) := by
  by_cases e : a = b
  · subst e; simp
  · have h : ¬ (Sum.inr a : Key) = Sum.inr b := fun q => e (Sum.inr.inj q)
    rw [decide_eq_false h, decide_eq_false e]
theorem key_lr (a : Int) (b : Str) : decide ((Sum.inl a : Key) = Sum.inr b) = false := decide_eq_false (fun q => nomatch q)
theorem key_rl (a : Str) (b : Int) : decide ((Sum.inr a : Key) = Sum.inl b) = false := decide_eq_false (fun q => nomatch q)

def mixKind (prog : Program) (w : World) : PySem.KeyKind prog w Key where
  is := keyIs
  hash := keyH w
  inj := fun v a b ha hb => by
    rcases keyIs_shape ha with ⟨i, t, rfl, rfl⟩ | ⟨x, t, rfl, rfl⟩
    · rcases keyIs_shape hb with ⟨j, u, rfl, e⟩ | ⟨y, u, rfl, e⟩
      · injection e with e1 _; rw [e1]
      · exact nomatch e
    · rcases keyIs_shape hb with ⟨j, u, rfl, e⟩ | ⟨y, u, rfl, e⟩
      · exact nomatch e
      · injection e with e1 _; rw [e1]
  byValue := fun k v h => by
    rcases keyIs_shape h with ⟨i, t, rfl, rfl⟩ | ⟨x, t, rfl, rfl⟩ <;> rfl
  pyHash := fun hv h => by
    rcases keyIs_shape hv with ⟨i, t, rfl, rfl⟩ | ⟨x, t, rfl, rfl⟩
    · exact wpAny_pyHash_int h
    · exact wpAny_pyHash_str h
  eqBool := fun hu hv h => by
    rcases keyIs_shape hu with ⟨i, t, rfl, rfl⟩ | ⟨x, t, rfl, rfl⟩
    · rcases keyIs_shape hv with ⟨j, u, rfl, rfl⟩ | ⟨y, u, rfl, rfl⟩
      · rw [key_ll] at h; exact wpAny_eqBool_int h
      · rw [key_lr] at h; exact SeqAt.EqAt.int_str i t y u _ _ _ _ h
    · rcases keyIs_shape hv with ⟨j, u, rfl, rfl⟩ | ⟨y, u, rfl, rfl⟩
      · rw [key_rl] at h; exact SeqAt.EqAt.str_int x t j u _ _ _ _ h
      · rw [key_rr] at h; exact wpAny_eqBool_str h
  «strs» := fun k x t v h => by
    rcases keyIs_shape h with ⟨i, u, rfl, e⟩ | ⟨y, u, rfl, e⟩
    · exact nomatch e
    · injection e with e1 _
      subst e1
      cases v <;> rfl

end L2

namespace L2
open PySem PySem.Spec PyProof.Rows

/-- a value, without the heap -/
inductive V where
  | non | bl (b : Bool) | int (i : Int) | str (x : Str) | byt (b : Array UInt8) | flt (b : UInt64) | ref (a : Addr) | ty (n : String)
  deriving DecidableEq

def RelV : V → Value → Prop
  | .non, u => u = Value.none
  | .bl b, u => u = Value.bool b
  | .int i, u => ∃ t, u = Value.int i t
  | .str x, u => ∃ t, u = Value.str x t
  | .byt b, u => ∃ t, u = Value.bytes b t
  | .flt b, u => ∃ t, u = Value.float b t
  | .ref a, u => u = Value.ref a
  | .ty n, u => u = Value.type n

abbrev Vals : List V → List Value → Prop := Paired RelV
theorem Vals.length {xs : List V} {us : List Value} (r : Vals xs us) : xs.length = us.length := Paired.length r
theorem Vals.get : ∀ {xs : List V} {us : List Value} {i : Nat} {x : V}, Vals xs us → xs[i]? = some x → ∃ u, us[i]? = some u ∧ RelV x u
  | _, _, _, _, .nil, e => by simp at e
  | _, _, 0, _, .cons r _, e => by simp at e; subst e; exact ⟨_, rfl, r⟩
  | _, _, i + 1, x, .cons _ t, e => by
    obtain ⟨u, h1, h2⟩ := Vals.get (i := i) (x := x) t (by simpa using e)
    exact ⟨u, by simpa using h1, h2⟩
theorem Vals.append : ∀ {xs ys : List V} {us ws : List Value}, Vals xs us → Vals ys ws → Vals (xs ++ ys) (us ++ ws)
  | _, _, _, _, .nil, s => s
  | _, _, _, _, .cons r t, s => .cons r (Vals.append t s)
theorem Vals.take : ∀ {xs : List V} {us : List Value} (n : Nat), Vals xs us → Vals (xs.take n) (us.take n)
  | _, _, 0, _ => .nil
  | _, _, _ + 1, .nil => .nil
  | _, _, n + 1, .cons r t => .cons r (Vals.take n t)
theorem Vals.drop : ∀ {xs : List V} {us : List Value} (n : Nat), Vals xs us → Vals (xs.drop n) (us.drop n)
  | _, _, 0, r => r
  | _, _, _ + 1, .nil => .nil
  | _, _, n + 1, .cons _ t => Vals.drop n t
def RelO : Option V → Option Value → Prop
  | some v, some u => RelV v u
  | none, none => True
  | _, _ => False
def KV {κ : Type} : List (κ × V) → List (κ × Value) → Prop := Paired fun (p : κ × V) (q : κ × Value) => p.1 = q.1 ∧ RelV p.2 q.2

/-- a key of a dict (00_mix): an int or a text -/
def kV : Key → V
  | .inl i => .int i
  | .inr x => .str x

/-- what stands at a tracked address -/
inductive HO where
  /-- a list -/
  | lst (xs : List V)
  /-- a tuple (never changes) -/
  | tup (xs : List V)
  /-- a dict whose keys are ints and texts; one whose keys are tuples of ints and texts (the empty one is both) -/
  | dK (kvs : List (Key × V)) | dT (kvs : List (List Key × V))
  /-- a set of ints: its members, its size -/
  | set (S : Int → Bool) (n : Nat)
  /-- an instance of the class at C, its dict at dx, its attributes -/
  | ins (C dx : Addr) (fs : List (Str × V))
  /-- the dict of the instance at x -/
  | own (x : Addr)
  /-- the dict of an exception -/
  | xd (fs : List (Str × V))
  /-- a bound method, f of x -/
  | met (f x : Addr)
  /-- a range object lo, lo + 1, .. below hi -/
  | rng (lo hi : Int)
  /-- a thing that is known to the object (the script; a dict while a loop walks it): read, never written while it is so -/
  | frz (o : Obj) (u : HO)
  /-- a code object's table -/
  | tbl (ps : Array Value)
  /-- any other thing, by what is true of its one object (a def of one's own: SetO a S n := HO.ext fun h => ..) -/
  | ext (φ : Heap → Prop)

abbrev Hp := Addr → Option HO
def upd (H : Hp) (a : Addr) (o : HO) : Hp := fun b => if b = a then some o else H b
theorem upd_same {H : Hp} {a : Addr} {o : HO} : upd H a o a = some o := by unfold upd; rw [if_pos rfl]
theorem upd_ne {H : Hp} {a b : Addr} {o : HO} (h : b ≠ a) : upd H a o b = H b := by unfold upd; rw [if_neg h]
/-- two objects of different content stand apart -/
theorem ne_of {H : Hp} {a b : Addr} {o u : HO} (h : H a = some o) (h' : H b = some u) (d : o ≠ u) : a ≠ b := by
  intro e; subst e; rw [h] at h'; exact d (Option.some.inj h')
theorem ne_of_none {H : Hp} {a b : Addr} {o : HO} (h : H a = some o) (h' : H b = none) : a ≠ b := by
  intro e; subst e; rw [h] at h'; cases h'

section
variable (P : Program) (w : World)
def ObjOk (H : Hp) (h : Heap) (a : Addr) : HO → Prop
  | .lst xs => xs.length ≤ sizeLine ∧ ∃ (its : List Value) (n : Nat), Vals xs its ∧ h.get? a = some { cls := .type "list", data := .seq its.toArray n }
  | .tup xs => xs.length ≤ sizeLine ∧ ∃ its : List Value, Vals xs its ∧ IsTup h a its.toArray
  | .dK kvs => kvs.length ≤ sizeLine ∧ (a == sysModules) = false ∧ ∃ vs, KV kvs vs ∧ h.DictOf (mixKind P w) a vs
  | .dT kvs => kvs.length ≤ sizeLine ∧ (a == sysModules) = false ∧ ∃ xs : List (List Key × Addr × Value),
      Paired (fun (p : List Key × V) (q : List Key × Addr × Value) => p.1 = q.1 ∧ H q.2.1 = some (.tup (p.1.map kV)) ∧ RelV p.2 q.2.2) kvs xs ∧
      ∃ o es ep, h.get? a = some o ∧ o.ExactDict ∧ o.data = .dict es ep ∧ es.toList = xs.map (entryOfKey (tupleKind (mixKind P w))) ∧ (xs.map (·.1)).Nodup
  | .set S n => h.SetOf (intKind P w) a S n
  | .ins C dx fs => H dx = some (.own a) ∧ fs.length ≤ 1000 ∧ dx ≠ a ∧ h.get? a = some (PySem.W.instObj C dx) ∧
      ∃ mA, h.Ns1 dx mA ∧ (∀ f, RelO (fs.lookup f) (mA f)) ∧ PySem.Within mA (fs.map (·.1))
  | .own _ => ∃ o, h.get? a = some o
  | .xd fs => ∃ mA, h.Ns1 a mA ∧ ∀ f, RelO (fs.lookup f) (mA f)
  | .rng lo hi => ∃ t u v, h.get? a = some { cls := .type "range", data := .fields #[.int lo t, .int hi u, .int 1 v] }
  | .frz o u => h.get? a = some o ∧ ObjOk H h a u
  | .tbl ps => h.get? a = some { cls := .none, data := .fields ps }
  | .met f x => h.get? a = some (PySem.W.methodObj (.ref f) (.ref x))
  | .ext φ => φ h ∧ (∃ o, h.get? a = some o) ∧ ∀ h1 h2 : Heap, φ h1 → (∀ o, h1.get? a = some o → h2.get? a = some o) → φ h2
/-- the abstract heap is held -/
def HOk (H : Hp) (h : Heap) : Prop := ∀ a o, H a = some o → ObjOk P w H h a o
end

section
variable {P : Program} {w : World} {H H' : Hp} {h h' : Heap} {a : Addr} {o : HO}
theorem ObjOk.lt (x : ObjOk P w H h a o) : a < h.objs.size := by
  cases o with
  | lst xs => obtain ⟨_, _, _, _, e⟩ := x; exact Heap.lt_size e
  | tup xs => obtain ⟨_, _, _, p⟩ := x; exact p.lt
  | dK kvs => obtain ⟨_, _, _, _, o, _, _, e, _⟩ := x; exact Heap.lt_size e
  | dT kvs => obtain ⟨_, _, _, _, o, _, _, e, _⟩ := x; exact Heap.lt_size e
  | set S n => obtain ⟨o, _, _, _, e, _⟩ := x; exact Heap.lt_size e
  | ins C dx fs => obtain ⟨_, _, _, e, _⟩ := x; exact Heap.lt_size e
  | own y => obtain ⟨_, e⟩ := x; exact Heap.lt_size e
  | xd fs => obtain ⟨_, ⟨_, _, _, e, _⟩, _⟩ := x; exact Heap.lt_size e
  | rng lo hi => obtain ⟨_, _, _, e⟩ := x; exact Heap.lt_size e
  | frz ob u => obtain ⟨e, _⟩ := x; exact Heap.lt_size e
  | tbl ps => exact Heap.lt_size (show h.get? a = some _ from x)
  | met f y => exact Heap.lt_size (show h.get? a = some _ from x)
  | ext φ => obtain ⟨_, ⟨_, e⟩, _⟩ := x; exact Heap.lt_size e
theorem Paired.mapP {α β : Type} {F G : α → β → Prop} : ∀ {l₁ : List α} {l₂ : List β}, Paired F l₁ l₂ → (∀ a b, F a b → G a b) → Paired G l₁ l₂
  | _, _, .nil, _ => .nil
  | _, _, .cons r t, f => .cons (f _ _ r) (Paired.mapP t f)
/-- what an object's description leans on: its own object, its own dict, the tuples -/
theorem ObjOk.stay (x : ObjOk P w H h a o) (k : ∀ b u, (b = a ∨ H b = some (.own a)) → h.get? b = some u → h'.get? b = some u)
    (ho : ∀ b, H b = some (.own a) → H' b = some (.own a)) (ht : ∀ b xs, H b = some (.tup xs) → H' b = some (.tup xs)) : ObjOk P w H' h' a o := by
  induction o with
  | lst xs => obtain ⟨z, its, n, r, e⟩ := x; exact ⟨z, its, n, r, k _ _ (.inl rfl) e⟩
  | tup xs => obtain ⟨z, its, r, ob, e, c⟩ := x; exact ⟨z, its, r, ob, k _ _ (.inl rfl) e, c⟩
  | dK kvs => obtain ⟨z, y, vs, r, ob, es, ep, e, c⟩ := x; exact ⟨z, y, vs, r, ob, es, ep, k _ _ (.inl rfl) e, c⟩
  | dT kvs =>
    obtain ⟨z, y, xs, r, ob, es, ep, e, c⟩ := x
    exact ⟨z, y, xs, Paired.mapP r fun p q z => ⟨z.1, ht _ _ z.2.1, z.2.2⟩, ob, es, ep, k _ _ (.inl rfl) e, c⟩
  | set S n => obtain ⟨ob, es, ep, t, e, c⟩ := x; exact ⟨ob, es, ep, t, k _ _ (.inl rfl) e, c⟩
  | ins C dx fs =>
    obtain ⟨d, z, ne, e, mA, ⟨od, es, ep, e2, c⟩, r⟩ := x
    exact ⟨ho _ d, z, ne, k _ _ (.inl rfl) e, mA, ⟨od, es, ep, k _ _ (.inr d) e2, c⟩, r⟩
  | own y => obtain ⟨ob, e⟩ := x; exact ⟨ob, k _ _ (.inl rfl) e⟩
  | xd fs => obtain ⟨mA, ⟨od, es, ep, e, c⟩, r⟩ := x; exact ⟨mA, ⟨od, es, ep, k _ _ (.inl rfl) e, c⟩, r⟩
  | rng lo hi => obtain ⟨t, u, v, e⟩ := x; exact ⟨t, u, v, k _ _ (.inl rfl) e⟩
  | frz ob u ih => obtain ⟨e, q⟩ := x; exact ⟨k _ _ (.inl rfl) e, ih q⟩
  | tbl ps =>
    have e : h.get? a = some { cls := .none, data := .fields ps } := x
    show h'.get? a = some { cls := .none, data := .fields ps }
    exact k a _ (.inl rfl) e
  | met f y =>
    have e : h.get? a = some (PySem.W.methodObj (.ref f) (.ref y)) := x
    show h'.get? a = some (PySem.W.methodObj (.ref f) (.ref y))
    exact k a _ (.inl rfl) e
  | ext φ => obtain ⟨p, ⟨o, e⟩, st⟩ := x; exact ⟨st _ _ p fun o q => k _ _ (.inl rfl) q, ⟨o, k _ _ (.inl rfl) e⟩, st⟩
theorem HOk.lt (x : HOk P w H h) (e : H a = some o) : a < h.objs.size := (x a o e).lt
theorem HOk.fresh (x : HOk P w H h) (e : h.objs.size ≤ a) : H a = none := by
  cases q : H a with
  | none => rfl
  | some u => exact absurd (Nat.lt_of_lt_of_le (x.lt q) e) (Nat.lt_irrefl _)
/-- every object of the heap is kept -/
theorem HOk.kept (x : HOk P w H h) (k : ∀ b u, h.get? b = some u → h'.get? b = some u) : HOk P w H h' := fun a o e =>
  (x a o e).stay (fun b u _ q => k b u q) (fun _ q => q) fun _ _ q => q
/-- a new object is laid and tracked -/
theorem HOk.laid (x : HOk P w H h) (k : ∀ b u, h.get? b = some u → h'.get? b = some u) (hp : h.objs.size ≤ a) (new : ObjOk P w (upd H a o) h' a o) : HOk P w (upd H a o) h' := fun b u e => by
  have hn := x.fresh hp
  by_cases hb : b = a
  · subst hb; rw [upd_same] at e; cases e; exact new
  · rw [upd_ne hb] at e
    exact (x b u e).stay (fun c v _ q => k c v q) (fun c q => by rw [upd_ne (ne_of_none q hn)]; exact q) fun c xs q => by rw [upd_ne (ne_of_none q hn)]; exact q
end

/-- what may be read as u: it is u, or a known u -/
def Rd (H : Hp) (a : Addr) (u : HO) : Prop := H a = some u ∨ ∃ o, H a = some (.frz o u)
theorem Rd.ok {P : Program} {w : World} {H : Hp} {h : Heap} {a : Addr} {u : HO} (r : Rd H a u) (x : HOk P w H h) : ObjOk P w H h a u := by
  rcases r with r | ⟨o, r⟩
  · exact x a u r
  · obtain ⟨_, q⟩ := x a _ r
    exact q
/-- what may be written -/
def Mut : Option HO → Prop
  | some (.lst _) => True
  | some (.dK _) => True
  | some (.dT _) => True
  | some (.set _ _) => True
  | some (.ins _ _ _) => True
  | some (.ext _) => True
  | _ => False
section
variable {P : Program} {w : World} {H : Hp} {h h' : Heap} {x e : Addr} {o' : HO}
/-- the object at e is changed: x itself, or the dict of the instance x -/
theorem HOk.write (ok : HOk P w H h) (mu : Mut (H x)) (he : e = x ∨ H e = some (.own x)) (k : ∀ b u, b ≠ e → h.get? b = some u → h'.get? b = some u) (heo : ∃ u, h'.get? e = some u)
    (new : ObjOk P w (upd H x o') h' x o') : HOk P w (upd H x o') h' := fun b u q => by
  have nown : ∀ c y, H c = some (.own y) → c ≠ x := fun c y r z => by subst z; rw [r] at mu; exact mu
  have ntup : ∀ c xs, H c = some (.tup xs) → c ≠ x := fun c xs r z => by subst z; rw [r] at mu; exact mu
  by_cases hb : b = x
  · subst hb; rw [upd_same] at q; cases q; exact new
  · rw [upd_ne hb] at q
    by_cases hbe : b = e
    · have q' : H b = some (.own x) := by
        rcases he with z | z
        · exact absurd (hbe.trans z) hb
        · rw [hbe]; exact z
      rw [q] at q'; cases q'
      obtain ⟨v, hv⟩ := heo
      exact ⟨v, by rw [hbe]; exact hv⟩
    · refine (ok b u q).stay (fun c v hc r => k c v ?_ r) (fun c r => by rw [upd_ne (nown c b r)]; exact r) fun c xs r => by rw [upd_ne (ntup c xs r)]; exact r
      rcases hc with rfl | hc
      · exact hbe
      · rintro rfl
        rcases he with z | z
        · exact nown c b hc z
        · rw [hc] at z; cases z; exact hb rfl
end

/-! ### kept unless tracked; of the frames at fs (the callers') the slots may change (an exception that passes writes there); of the records at ex (iterators) nothing is said -/
structure Un (fs ex : List Addr) (H H' : Hp) (h h' : Heap) : Prop where
  keep : ∀ b o, h.get? b = some o → H b = none → b ∉ fs → b ∉ ex → h'.get? b = some o
  slot : ∀ b o, h.get? b = some o → H b = none → b ∈ fs → b ∉ ex → ∃ sl, h'.get? b = some { o with slots := sl }
  free : ∀ b o, h.get? b = some o → H b = none → b ∉ ex → H' b = none
  there : ∀ b o, h.get? b = some o → b ∉ ex → ∃ o', h'.get? b = some o'
  tups : ∀ b xs, H b = some (.tup xs) → H' b = some (.tup xs)
  frzs : ∀ b o u, H b = some (.frz o u) → H' b = some (.frz o u)
  tbls : ∀ b ps, H b = some (.tbl ps) → ∃ more, H' b = some (.tbl (ps ++ more))
section
variable {fs fs' ex ex' : List Addr} {H H1 H2 : Hp} {h h1 h2 h' : Heap} {a x e : Addr} {o : HO}
theorem Un.any (u : Un fs ex H H1 h h1) {b : Addr} {ob : Obj} (q : h.get? b = some ob) (n : H b = none) (hx : b ∉ ex) : ∃ sl, h1.get? b = some { ob with slots := sl } := by
  by_cases hb : b ∈ fs
  · exact u.slot b ob q n hb hx
  · exact ⟨ob.slots, u.keep b ob q n hb hx⟩
theorem Un.kept (k : ∀ b u, h.get? b = some u → h'.get? b = some u) : Un fs ex H H h h' :=
  ⟨fun b ob q _ _ _ => k b ob q, fun b ob q _ _ _ => ⟨ob.slots, k b ob q⟩, fun _ _ _ n _ => n, fun b ob q _ => ⟨ob, k b ob q⟩, fun _ _ q => q, fun _ _ _ q => q, fun _ ps q => ⟨#[], by rw [q]; simp⟩⟩
theorem Un.refl : Un fs ex H H h h := Un.kept fun _ _ q => q
theorem Un.laid (k : ∀ b u, h.get? b = some u → h'.get? b = some u) (hp : h.objs.size ≤ a) (hn : H a = none) : Un fs ex H (upd H a o) h h' where
  keep := fun b u q _ _ _ => k b u q
  slot := fun b u q _ _ _ => ⟨u.slots, k b u q⟩
  free := fun b u q n _ => by rw [upd_ne (Nat.ne_of_lt (Nat.lt_of_lt_of_le (Heap.lt_size q) hp))]; exact n
  there := fun b u q _ => ⟨u, k b u q⟩
  tups := fun b xs q => by rw [upd_ne (ne_of_none q hn)]; exact q
  frzs := fun b u xs q => by rw [upd_ne (ne_of_none q hn)]; exact q
  tbls := fun b ps q => ⟨#[], by rw [upd_ne (ne_of_none q hn), q]; simp⟩
theorem Un.write (mu : Mut (H x)) (he : e = x ∨ H e = some (.own x)) (k : ∀ b u, b ≠ e → h.get? b = some u → h'.get? b = some u) (heo : ∃ u, h'.get? e = some u) : Un fs ex H (upd H x o) h h' := by
  have hx : ∀ b, H b = none → b ≠ x := fun b n z => by subst z; rw [n] at mu; exact mu
  have hb : ∀ b, H b = none → b ≠ e := fun b n z => by
    subst z
    rcases he with r | r
    · exact hx b n r
    · rw [n] at r; cases r
  have hm : ∀ b u, H b = some u → ¬ Mut (some u) → b ≠ x := fun b u q nm z => by subst z; rw [q] at mu; exact nm mu
  refine ⟨fun b u q n _ _ => k b u (hb b n) q, fun b u q n _ _ => ⟨u.slots, k b u (hb b n) q⟩, fun b u q n _ => by rw [upd_ne (hx b n)]; exact n, fun b u q _ => ?_,
    fun b xs q => by rw [upd_ne (hm b _ q fun z => z)]; exact q, fun b u xs q => by rw [upd_ne (hm b _ q fun z => z)]; exact q, fun b ps q => ⟨#[], by rw [upd_ne (hm b _ q fun z => z), q]; simp⟩⟩
  by_cases hbe : b = e
  · subst hbe; exact heo
  · exact ⟨u, k b u hbe q⟩
end

/-! ### the heap without what is tracked -/
def trk (h : Heap) (H : Hp) : List Addr := (List.range h.objs.size).filter fun a => (H a).isSome
def hidT (h : Heap) (H : Hp) : Heap := PySem.W.hideAll h (trk h H)
theorem hidT_size (h : Heap) (H : Hp) : (hidT h H).objs.size = h.objs.size := PySem.W.hideAll_size _ _
theorem hidT_get {h : Heap} {H : Hp} {b : Addr} {o : Obj} (e : h.get? b = some o) (n : H b = none) : (hidT h H).get? b = some o :=
  PySem.W.hideAll_get _ e fun hm => by
    have q : (H b).isSome = true := (List.mem_filter.mp hm).2
    rw [n] at q; simp at q
theorem of_hidT {h : Heap} {H : Hp} {b : Addr} {o : Obj} (e : (hidT h H).get? b = some o) : h.get? b = some o ∧ H b = none := by
  have e' : h.get? b = some o := PySem.W.of_hideAll (trk h H) e
  refine ⟨e', ?_⟩
  cases q : H b with
  | none => rfl
  | some x =>
    have hm : b ∈ trk h H := List.mem_filter.mpr ⟨List.mem_range.mpr (Heap.lt_size e'), by simp [q]⟩
    have z : (hidT h H).get? b = none := PySem.W.hideAll_none (trk h H) hm
    rw [z] at e; cases e

/-! ### OpenK's ledger, filled with every new object but one -/
def allNews (g h : Heap) (L : Addr) : List (Addr × Obj) := (List.range h.objs.size).filterMap fun a => if a = L ∨ (g.get? a).isSome = true then none else (h.get? a).map fun o => (a, o)
def rest (g h : Heap) (L d : Addr) : List (Addr × Obj) := (allNews g h L).filter fun p => decide (p.1 ≠ d)
end L2

namespace L2
open PySem PySem.Spec PyProof.Rows

/-- the module's facts, over the base: the heap at the law's entry without what is tracked there -/
structure Mod (K : PySem.W.Frag) (mg : Str → Option Value) (base : Heap) : Prop where
  kin : K.In base
  glob : base.Ns mainGlobals mg
  blt : ∃ mb, base.Ns builtinsNs mb ∧ ∀ x : Str, x ≠ "__name__" → mb x = bootBuiltins x
  nolimit : base.NoLimit

/-- the context: a def's body (or a comprehension's block) running. base: fixed through the whole law; s₀, H₀: the entry; outer: the frames whose slots others may change (a def's callers); stack: all frames that run;
   ex: iterators that were made ahead of the entry and are walked here (a comprehension's); fn: the names whose cells were made at the entry (a def: all; a comprehension's block: its own); calm: not within an except suite; pn: pins that every state bears; xe: what is wanted of an exception that leaves the code -/
structure Cx where
  prog : Program
  w : World
  K : PySem.W.Frag
  mg : Str → Option Value
  base : Heap
  A : Around
  N : List Str
  s₀ : Shared
  H₀ : Hp
  env : Env
  outer : List Env
  stack : List Env
  ex : List Addr
  fn : Str → Bool
  calm : Bool
  pn : List (Addr × Obj)
  xe : Value → Shared → Prop
/-- the callers' frames -/
def frs (l : List Env) : List Addr := l.filterMap (·.frame)
abbrev Cx.fs (X : Cx) : List Addr := frs X.outer

def Vis (sc : Scope) (x : Str) : Prop := sc.names.lookup x = some .local ∨ sc.names.lookup x = some .cell ∨ sc.names.lookup x = some .free
def Loc (sc : Scope) (x : Str) : Prop := sc.names.lookup x = some .local ∨ sc.names.lookup x = some .cell
def Look (env : Env) (h : Heap) (m : Str → Option Value) (x : Str) (u : Value) : Prop :=
  (env.kindOf x = some .local ∧ m x = some u) ∨ ((env.kindOf x = some .cell ∨ env.kindOf x = some .free) ∧ ∃ c, env.cells.lookup x = some c ∧ h.IsCell c (some u))

structure Cx.Ok (X : Cx) : Prop where
  mod : Mod X.K X.mg X.base
  kind : X.env.scope.kind = .function
  glob : X.env.globals = mainGlobals
  blt : X.env.builtins = builtinsNs
  above : X.s₀.heap.objs.size ≤ X.env.locals
  inj : ∀ x y c, X.env.cells.lookup x = some c → X.env.cells.lookup y = some c → x = y
  has : ∀ x, (X.env.kindOf x = some .cell ∨ X.env.kindOf x = some .free) → ∃ c, X.env.cells.lookup x = some c
  cab : ∀ x c, X.fn x = true → X.env.cells.lookup x = some c → X.s₀.heap.objs.size ≤ c
  hd : X.calm = true → X.A.handled = none
  frames : X.A.frames = some X.stack
  stk : X.stack = X.outer ∨ (X.stack = X.env :: X.outer ∧ X.env.frame = some X.env.locals)
  exf : ∀ b ∈ X.ex, b ≠ X.env.locals ∧ ∀ x c, X.env.cells.lookup x = some c → c ≠ b
  bs : ∀ b o, X.base.get? b = some o → X.s₀.heap.get? b = some o ∧ X.H₀ b = none
  bsz : X.base.objs.size ≤ X.s₀.heap.objs.size
  noex : ∀ b o, X.base.get? b = some o → b ∉ X.ex
  exfs : ∀ b ∈ X.ex, b ∉ X.fs
  funs : X.s₀.heap.FunFrames X.base X.outer
  frf : ∀ b ∈ X.fs, X.H₀ b = none

structure Inv (X : Cx) (pins : List (Addr × Obj)) (σ : List (Option V)) (H : Hp) (s : Shared) : Prop where
  ok : X.Ok
  os : s.os = X.s₀.os
  bare : AllBare s.gens
  base : Un X.fs X.ex X.H₀ H X.s₀.heap s.heap
  loc : ∃ m, s.heap.Ns X.env.locals m ∧ ∀ (i : Nat) (x : Str) (v : V), X.N[i]? = some x → σ[i]? = some (some v) → Vis X.env.scope x → ∃ u, RelV v u ∧ Look X.env s.heap m x u
  cell : ∀ x c, X.env.cells.lookup x = some c → ∃ v, s.heap.IsCell c v
  free : H X.env.locals = none
  freeC : ∀ x c, X.env.cells.lookup x = some c → H c = none
  pin : ∀ p ∈ X.pn ++ pins, s.heap.get? p.1 = some p.2 ∧ H p.1 = none ∧ p.1 ≠ X.env.locals ∧ p.1 ∉ X.fs ∧ ∀ v, p.2.data ≠ .cell v
  hok : HOk X.prog X.w H s.heap
  len : σ.length = X.N.length

section
variable {X : Cx} {pins : List (Addr × Obj)} {σ : List (Option V)} {H H' : Hp} {s : Shared} {h' : Heap}

theorem Cx.Ok.nofr (ok : X.Ok) {b : Addr} {o : Obj} (e : X.base.get? b = some o) : b ∉ X.fs := fun hb => by
  have := (ok.funs.mem hb).1
  rw [e] at this; cases this
theorem Inv.bs (I : Inv X pins σ H s) : ∀ b o, X.base.get? b = some o → s.heap.get? b = some o ∧ H b = none := fun b o e =>
  ⟨I.base.keep b o (I.ok.bs b o e).1 (I.ok.bs b o e).2 (I.ok.nofr e) (I.ok.noex b o e), I.base.free b o (I.ok.bs b o e).1 (I.ok.bs b o e).2 (I.ok.noex b o e)⟩
theorem Inv.bk (I : Inv X pins σ H s) : ∀ b o, X.base.get? b = some o → s.heap.get? b = some o := fun b o e => (I.bs b o e).1
theorem Inv.mod (I : Inv X pins σ H s) : Mod X.K X.mg X.base := I.ok.mod
theorem Inv.kIn (I : Inv X pins σ H s) : X.K.In s.heap := I.ok.mod.kin.keeps I.bk
theorem Inv.lt (I : Inv X pins σ H s) : X.env.locals < s.heap.objs.size := let ⟨_, hn, _⟩ := I.loc; hn.lt
theorem Inv.sz (I : Inv X pins σ H s) : X.s₀.heap.objs.size ≤ s.heap.objs.size := Nat.le_trans I.ok.above (Nat.le_of_lt I.lt)
theorem Inv.nofs (I : Inv X pins σ H s) {a : Addr} (h : s.heap.objs.size ≤ a) : a ∉ X.fs := fun hb => by
  obtain ⟨_, o, ho, _⟩ := I.ok.funs.mem hb
  exact absurd (Nat.lt_of_lt_of_le (Heap.lt_size ho) (Nat.le_trans I.sz h)) (Nat.lt_irrefl _)
theorem Inv.cne (I : Inv X pins σ H s) : ∀ x c, X.env.cells.lookup x = some c → c ≠ X.env.locals := fun x c e z => by
  obtain ⟨v, o, ho, hd⟩ := I.cell x c e
  obtain ⟨m, ⟨o', es, ep, ho', hd', _⟩, _⟩ := I.loc
  rw [z, ho'] at ho; cases ho; rw [hd'] at hd; cases hd
theorem Inv.funs (I : Inv X pins σ H s) : s.heap.FunFrames X.base X.outer := by
  have all : ∀ (l : List Env), (∀ b ∈ frs l, b ∈ X.fs) → X.s₀.heap.FunFrames X.base l → s.heap.FunFrames X.base l := by
    intro l
    induction l with
    | nil => intro _ _; trivial
    | cons env r ih =>
      intro hs hl
      obtain ⟨hk, ⟨L, o, hf, hn, ho, hd⟩, hr⟩ := hl
      have hL : L ∈ X.fs := hs L (by unfold frs; rw [List.filterMap_cons, hf]; exact List.mem_cons_self)
      obtain ⟨sl, e⟩ := I.base.slot L o ho (I.ok.frf L hL) hL fun z => I.ok.exfs L z hL
      exact ⟨hk, ⟨L, _, hf, hn, e, hd⟩, ih (fun b hb => hs b (by unfold frs; rw [List.filterMap_cons, hf]; exact List.mem_cons_of_mem _ hb)) hr⟩
  exact all X.outer (fun _ hb => hb) I.ok.funs

/-- the frames that run, for a call -/
theorem Inv.stack (I : Inv X pins σ H s) : s.heap.FunFrames X.base X.stack := by
  rcases I.ok.stk with e | ⟨e, hf⟩
  · rw [e]; exact I.funs
  · rw [e]
    obtain ⟨m, hn, _⟩ := I.loc
    refine .cons (by rw [I.ok.kind]; decide) hf hn ?_ I.funs
    exact Heap.get?_none_of_le (Nat.le_trans I.ok.bsz I.ok.above)
theorem Inv.stkSub (I : Inv X pins σ H s) : ∀ b ∈ frs X.stack, b ∈ X.env.locals :: X.fs := fun b hb => by
  rcases I.ok.stk with e | ⟨e, hf⟩
  · rw [e] at hb; exact List.mem_cons_of_mem _ hb
  · rw [e] at hb
    unfold frs at hb
    rw [List.filterMap_cons, hf] at hb
    exact hb
theorem Inv.stkFree (I : Inv X pins σ H s) : ∀ b ∈ frs X.stack, H b = none := fun b hb => by
  rcases List.mem_cons.mp (I.stkSub b hb) with e | hb
  · rw [e]; exact I.free
  · obtain ⟨_, o, ho, _⟩ := I.ok.funs.mem hb
    exact I.base.free b o ho (I.ok.frf b hb) fun z => I.ok.exfs b z hb

/-- THE STEP: the untracked objects but the frame and the records at ch are kept (the callers' frames up to slots), the frame's map is kept, the new abstract heap is held -/
theorem Inv.step {g' : Array GenState} {t' : Nat} {d' : Drawn} {ch : List Addr} (I : Inv X pins σ H s)
    (hch : ∀ b ∈ ch, (b ∈ X.ex ∨ X.s₀.heap.objs.size ≤ b) ∧ b ≠ X.env.locals ∧ (∀ x c, X.env.cells.lookup x = some c → c ≠ b) ∧ ∀ p ∈ X.pn ++ pins, p.1 ≠ b)
    (keep : ∀ b o, b ≠ X.env.locals → b ∉ X.fs → b ∉ ch → s.heap.get? b = some o → H b = none → h'.get? b = some o)
    (slot : ∀ b o, b ≠ X.env.locals → b ∈ X.fs → b ∉ ch → s.heap.get? b = some o → H b = none → ∃ sl, h'.get? b = some { o with slots := sl }) (free : ∀ b o, b ∉ ch → s.heap.get? b = some o → H b = none → H' b = none)
    (there : ∀ b o, b ∉ ch → s.heap.get? b = some o → ∃ o', h'.get? b = some o')
    (tups : ∀ b xs, H b = some (.tup xs) → H' b = some (.tup xs)) (frzs : ∀ b o u, H b = some (.frz o u) → H' b = some (.frz o u)) (tbls : ∀ b ps, H b = some (.tbl ps) → ∃ more, H' b = some (.tbl (ps ++ more)))
    (ns : ∀ m, s.heap.Ns X.env.locals m → h'.Ns X.env.locals m) (hok : HOk X.prog X.w H' h') (hg : AllBare g') :
    Inv X pins σ H' { s with heap := h', gens := g', drawn := d', toks := t' } := by
  have neL : ∀ b o, X.s₀.heap.get? b = some o → b ≠ X.env.locals := fun b o e => Nat.ne_of_lt (Nat.lt_of_lt_of_le (Heap.lt_size e) I.ok.above)
  have neC : ∀ b o, X.s₀.heap.get? b = some o → b ∉ X.ex → b ∉ ch := fun b o e hx hb => by
    rcases (hch b hb).1 with z | z
    · exact hx z
    · exact absurd (Nat.lt_of_lt_of_le (Heap.lt_size e) z) (Nat.lt_irrefl _)
  have cellK : ∀ x c, X.env.cells.lookup x = some c → ∀ v, s.heap.IsCell c v → h'.IsCell c v := fun x c e v ⟨o, ho, hd⟩ => by
    have nch : c ∉ ch := fun z => (hch c z).2.2.1 x c e rfl
    by_cases hc : c ∈ X.fs
    · obtain ⟨sl, q⟩ := slot c o (I.cne x c e) hc nch ho (I.freeC x c e)
      exact ⟨_, q, hd⟩
    · exact ⟨o, keep c o (I.cne x c e) hc nch ho (I.freeC x c e), hd⟩
  refine ⟨I.ok, I.os, hg, ⟨fun b o e n hb hx => ?_, fun b o e n hb hx => ?_, fun b o e n hx => ?_, fun b o e hx => ?_, fun b xs e => tups b xs (I.base.tups b xs e), fun b o xs e => frzs b o xs (I.base.frzs b o xs e), fun b ps e => ?_⟩, ?_, fun x c e => ?_, ?_, fun x c e => ?_, fun p hp => ?_, hok, I.len⟩
  · exact keep b o (neL b o e) hb (neC b o e hx) (I.base.keep b o e n hb hx) (I.base.free b o e n hx)
  · obtain ⟨sl, e1⟩ := I.base.slot b o e n hb hx
    obtain ⟨sl', e2⟩ := slot b _ (neL b o e) hb (neC b o e hx) e1 (I.base.free b o e n hx)
    exact ⟨sl', e2⟩
  · obtain ⟨o', e1⟩ := I.base.there b o e hx
    exact free b o' (neC b o e hx) e1 (I.base.free b o e n hx)
  · obtain ⟨o', e1⟩ := I.base.there b o e hx
    exact there b o' (neC b o e hx) e1
  · obtain ⟨m1, e1⟩ := I.base.tbls b ps e
    obtain ⟨m2, e2⟩ := tbls b _ e1
    exact ⟨m1 ++ m2, by rw [e2, Array.append_assoc]⟩
  · obtain ⟨m, hn, hl⟩ := I.loc
    refine ⟨m, ns m hn, fun i x v e1 e2 e3 => ?_⟩
    obtain ⟨u, r, l⟩ := hl i x v e1 e2 e3
    refine ⟨u, r, ?_⟩
    rcases l with l | ⟨k, c, e, z⟩
    · exact .inl l
    · exact .inr ⟨k, c, e, cellK x c e _ z⟩
  · obtain ⟨v, z⟩ := I.cell x c e
    exact ⟨v, cellK x c e v z⟩
  · obtain ⟨m, ⟨o, _, _, ho, _⟩, _⟩ := I.loc
    exact free _ o (fun z => (hch _ z).2.1 rfl) ho I.free
  · obtain ⟨v, o, ho, hd⟩ := I.cell x c e
    exact free c o (fun z => (hch c z).2.2.1 x c e rfl) ho (I.freeC x c e)
  · obtain ⟨e, n, ne, nf, d⟩ := I.pin p hp
    have nch : p.1 ∉ ch := fun z => (hch p.1 z).2.2.2 p hp rfl
    exact ⟨keep p.1 p.2 ne nf nch e n, free p.1 p.2 nch e n, ne, nf, d⟩
/-- .. where the frame's own object is kept too -/
theorem Inv.un {t' : Nat} (I : Inv X pins σ H s) (u : Un X.fs [] H H' s.heap h') (hok : HOk X.prog X.w H' h') : Inv X pins σ H' { s with heap := h', toks := t' } := by
  obtain ⟨m, ⟨o, es, ep, ho, r⟩, _⟩ := id I.loc
  obtain ⟨sl, hL⟩ := u.any ho I.free (by simp)
  exact I.step (g' := s.gens) (d' := s.drawn) (ch := []) (fun _ z => nomatch z) (fun b o _ hb _ e n => u.keep b o e n hb (by simp)) (fun b o _ hb _ e n => u.slot b o e n hb (by simp)) (fun b o _ e n => u.free b o e n (by simp)) (fun b o _ e => u.there b o e (by simp)) u.tups u.frzs u.tbls (fun m' hm => by
    obtain ⟨o', es', ep', ho', r'⟩ := hm
    rw [ho] at ho'; cases ho'
    exact ⟨_, es', ep', hL, r'⟩) hok I.bare
/-- behind a call (or a comprehension's block): the slots of this frame may have changed too, the records at ch may have turned -/
theorem Inv.call {g' : Array GenState} {t' : Nat} {d' : Drawn} {ch : List Addr} (I : Inv X pins σ H s) (u : Un (frs X.stack) ch H H' s.heap h') (hok : HOk X.prog X.w H' h') (hg : AllBare g')
    (hch : ∀ b ∈ ch, (b ∈ X.ex ∨ X.s₀.heap.objs.size ≤ b) ∧ b ≠ X.env.locals ∧ (∀ x c, X.env.cells.lookup x = some c → c ≠ b) ∧ ∀ p ∈ X.pn ++ pins, p.1 ≠ b) :
    Inv X pins σ H' { s with heap := h', gens := g', drawn := d', toks := t' } := by
  obtain ⟨m, ⟨o, es, ep, ho, r⟩, _⟩ := id I.loc
  obtain ⟨sl, hL⟩ := u.any ho I.free fun z => (hch _ z).2.1 rfl
  exact I.step (ch := ch) hch (fun b o hL hb hc e n => u.keep b o e n (fun z => (List.mem_cons.mp (I.stkSub b z)).elim hL hb) hc) (fun b o _ _ hc e n => u.any e n hc) (fun b o hc e n => u.free b o e n hc) (fun b o hc e => u.there b o e hc) u.tups u.frzs u.tbls (fun m' hm => by
    obtain ⟨o', es', ep', ho', r'⟩ := hm
    rw [ho] at ho'; cases ho'
    exact ⟨_, es', ep', hL, r'⟩) hok hg
/-- an untracked record of ours (an iterator) has turned -/
theorem Inv.turned {t' : Nat} {it : Addr} (I : Inv X pins σ H s) (k : ∀ b o, b ≠ it → s.heap.get? b = some o → h'.get? b = some o) (hn : H it = none) (hL : it ≠ X.env.locals)
    (h1 : it ∈ X.ex ∨ X.s₀.heap.objs.size ≤ it) (h2 : ∀ x c, X.env.cells.lookup x = some c → c ≠ it) (h3 : ∀ p ∈ X.pn ++ pins, p.1 ≠ it) : Inv X pins σ H { s with heap := h', toks := t' } := by
  have nit : ∀ b u, H b = some u → b ≠ it := fun b u e z => by rw [z, hn] at e; cases e
  refine I.step (g' := s.gens) (d' := s.drawn) (ch := [it]) (fun b hb => ?_) (fun b o _ _ hc e _ => k b o (fun z => hc (by simp [z])) e) (fun b o _ _ hc e _ => ⟨o.slots, k b o (fun z => hc (by simp [z])) e⟩) (fun _ _ _ _ n => n)
    (fun b o hc e => ⟨o, k b o (fun z => hc (by simp [z])) e⟩) (fun _ _ e => e) (fun _ _ _ e => e) (fun b ps e => ⟨#[], by rw [e]; simp⟩) (fun m hm => ?_) (fun b u e => ?_) I.bare
  · have e : b = it := by simpa using hb
    subst e
    exact ⟨h1, hL, h2, h3⟩
  · obtain ⟨o, es, ep, ho, r⟩ := hm
    exact ⟨o, es, ep, k _ o (Ne.symm hL) ho, r⟩
  · refine (I.hok b u e).stay (fun c v hc q => k c v ?_ q) (fun _ q => q) fun _ _ q => q
    rcases hc with z | z
    · rw [z]; exact nit b u e
    · exact nit c _ z
theorem Inv.tok (I : Inv X pins σ H s) (t : Nat) : Inv X pins σ H { s with toks := t } := I.un (h' := s.heap) (t' := t) Un.refl I.hok
/-- all objects kept -/
theorem Inv.kept {t' : Nat} (I : Inv X pins σ H s) (k : ∀ b u, s.heap.get? b = some u → h'.get? b = some u) : Inv X pins σ H { s with heap := h', toks := t' } := I.un (Un.kept k) (I.hok.kept k)
/-- a new object laid and tracked -/
theorem Inv.laid {a : Addr} {o : HO} {t' : Nat} (I : Inv X pins σ H s) (k : ∀ b u, s.heap.get? b = some u → h'.get? b = some u) (hp : s.heap.objs.size ≤ a) (new : ObjOk X.prog X.w (upd H a o) h' a o) :
    Inv X pins σ (upd H a o) { s with heap := h', toks := t' } := I.un (Un.laid k hp (I.hok.fresh hp)) (I.hok.laid k hp new)
/-- an object written -/
theorem Inv.write {x e : Addr} {o : HO} {t' : Nat} (I : Inv X pins σ H s) (mu : Mut (H x)) (he : e = x ∨ H e = some (.own x)) (k : ∀ b u, b ≠ e → s.heap.get? b = some u → h'.get? b = some u) (heo : ∃ u, h'.get? e = some u)
    (new : ObjOk X.prog X.w (upd H x o) h' x o) : Inv X pins σ (upd H x o) { s with heap := h', toks := t' } := I.un (Un.write mu he k heo) (I.hok.write mu he k heo new)
theorem Inv.pins_of {pins' : List (Addr × Obj)} (I : Inv X pins σ H s) (h : ∀ p ∈ pins', s.heap.get? p.1 = some p.2 ∧ H p.1 = none ∧ p.1 ≠ X.env.locals ∧ p.1 ∉ X.fs ∧ ∀ v, p.2.data ≠ .cell v) : Inv X pins' σ H s :=
  ⟨I.ok, I.os, I.bare, I.base, I.loc, I.cell, I.free, I.freeC, fun p hp => (List.mem_append.mp hp).elim (fun z => I.pin p (List.mem_append_left _ z)) (h p), I.hok, I.len⟩

theorem nodup_ix {N : List Str} (hN : N.Nodup) {i j : Nat} {x : Str} (a : N[i]? = some x) (b : N[j]? = some x) : i = j := by
  obtain ⟨h1, e1⟩ := List.getElem?_eq_some_iff.mp a
  obtain ⟨h2, e2⟩ := List.getElem?_eq_some_iff.mp b
  exact (List.getElem_inj hN).mp (e1.trans e2.symm)

/-- a name is stored; what changed -/
theorem store_ok2 {M : Model} {A : Around} {E : Value → Shared → Prop} {i : Nat} {x : Str} {v : V} {u : Value} {Q : Unit → Shared → Prop} (I : Inv X pins σ H s) (hN : X.N.Nodup) (hi : X.N[i]? = some x) (hx : Loc X.env.scope x) (r : RelV v u)
    (h : ∀ s', Inv X pins (σ.set i (some v)) H s' → (∃ a, Heap.SameBut a s.heap s'.heap ∧ (a = X.env.locals ∨ X.env.cells.lookup x = some a)) → Q () s') (hf : X.fn x = true ∨ X.env.scope.names.lookup x = some .local := by first | exact .inl rfl | exact .inr rfl | assumption) : wpAny M A (storeName X.env x u) Q E s := by
  obtain ⟨m, hn, hl⟩ := id I.loc
  have hcls : (X.env.scope.kind == .class || (X.env.scope.kind == .module && X.env.locals != X.env.globals)) = false := by rw [I.ok.kind]; rfl
  have hiσ : i < σ.length := by rw [I.len]; exact (List.getElem?_eq_some_iff.mp hi).1
  have cne := I.cne
  have tracked : ∀ {a : Addr} {h' : Heap}, (∃ o, s.heap.get? a = some o ∧ H a = none) → Heap.SameBut a s.heap h' → HOk X.prog X.w H h' := fun {a h'} ha hs b ob e => by
    obtain ⟨_, _, hfree⟩ := ha
    refine (I.hok b ob e).stay (fun c w' hc q => (hs.2 c ?_).trans q) (fun _ q => q) fun _ _ q => q
    rintro rfl
    rcases hc with rfl | hc
    · rw [hfree] at e; cases e
    · rw [hfree] at hc; cases hc
  rcases hx with hk | hk
  · refine wpAny_storeName_local hk hn (fun h' hn' hs => ?_) hcls
    obtain ⟨oL, _, _, hoL, _⟩ := id hn
    refine h _ ⟨I.ok, I.os, I.bare, ⟨fun b o e n hb hx => ?_, fun b o e n hb hx => ?_, I.base.free, fun b o e hx => ?_, I.base.tups, I.base.frzs, I.base.tbls⟩, ⟨_, hn', fun j y v' e1 e2 e3 => ?_⟩, fun y c e => ?_, I.free, I.freeC, fun p hp => ?_, tracked ⟨oL, hoL, I.free⟩ hs, by simpa using I.len⟩ ⟨_, hs, .inl rfl⟩
    · exact (hs.2 b (Nat.ne_of_lt (Nat.lt_of_lt_of_le (Heap.lt_size e) I.ok.above))).trans (I.base.keep b o e n hb hx)
    · obtain ⟨sl, e1⟩ := I.base.slot b o e n hb hx
      exact ⟨sl, (hs.2 b (Nat.ne_of_lt (Nat.lt_of_lt_of_le (Heap.lt_size e) I.ok.above))).trans e1⟩
    · obtain ⟨o', e1⟩ := I.base.there b o e hx
      exact ⟨o', (hs.2 b (Nat.ne_of_lt (Nat.lt_of_lt_of_le (Heap.lt_size e) I.ok.above))).trans e1⟩
    · by_cases hj : j = i
      · subst hj
        rw [hi] at e1; cases e1
        rw [List.getElem?_set_self hiσ] at e2
        cases e2
        exact ⟨u, r, .inl ⟨hk, by simp⟩⟩
      · rw [List.getElem?_set_ne (Ne.symm hj)] at e2
        obtain ⟨u', r', q⟩ := hl j y v' e1 e2 e3
        refine ⟨u', r', ?_⟩
        rcases q with ⟨k, e⟩ | ⟨k, c, e, z⟩
        · refine .inl ⟨k, ?_⟩
          have : y ≠ x := fun e => hj (nodup_ix hN e1 (e ▸ hi))
          simp [this, e]
        · exact .inr ⟨k, c, e, z.sameBut hs (cne y c e)⟩
    · obtain ⟨w', z⟩ := I.cell y c e
      exact ⟨w', z.sameBut hs (cne y c e)⟩
    · obtain ⟨e, n, ne, nf, d⟩ := I.pin p hp
      exact ⟨(hs.2 p.1 ne).trans e, n, ne, nf, d⟩
  · have hfn : X.fn x = true := by
      rcases hf with z | z
      · exact z
      · rw [z] at hk; cases hk
    obtain ⟨c, hc⟩ := I.ok.has x (.inl hk)
    obtain ⟨w', z⟩ := I.cell x c hc
    refine wpAny_storeName_cell I.ok.kind hk hc z (fun h' hc' hs => ?_)
    obtain ⟨oc, hoc, hocd⟩ := id z
    refine h { s with heap := h' } ⟨I.ok, I.os, I.bare, ⟨fun b o e n hb hx => ?_, fun b o e n hb hx => ?_, I.base.free, fun b o e hx => ?_, I.base.tups, I.base.frzs, I.base.tbls⟩, ⟨m, hn.sameBut hs (Ne.symm (cne x c hc)), fun j y v' e1 e2 e3 => ?_⟩, fun y c' e => ?_, I.free, I.freeC, fun p hp => ?_, tracked ⟨oc, hoc, I.freeC x c hc⟩ hs, by simpa using I.len⟩ ⟨c, hs, .inr hc⟩
    · exact (hs.2 b (Nat.ne_of_lt (Nat.lt_of_lt_of_le (Heap.lt_size e) (I.ok.cab x c hfn hc)))).trans (I.base.keep b o e n hb hx)
    · obtain ⟨sl, e1⟩ := I.base.slot b o e n hb hx
      exact ⟨sl, (hs.2 b (Nat.ne_of_lt (Nat.lt_of_lt_of_le (Heap.lt_size e) (I.ok.cab x c hfn hc)))).trans e1⟩
    · obtain ⟨o', e1⟩ := I.base.there b o e hx
      exact ⟨o', (hs.2 b (Nat.ne_of_lt (Nat.lt_of_lt_of_le (Heap.lt_size e) (I.ok.cab x c hfn hc)))).trans e1⟩
    · by_cases hj : j = i
      · subst hj
        rw [hi] at e1; cases e1
        rw [List.getElem?_set_self hiσ] at e2
        cases e2
        exact ⟨u, r, .inr ⟨.inl hk, c, hc, hc'⟩⟩
      · rw [List.getElem?_set_ne (Ne.symm hj)] at e2
        obtain ⟨u', r', q⟩ := hl j y v' e1 e2 e3
        refine ⟨u', r', ?_⟩
        rcases q with q | ⟨k, c', e, z'⟩
        · exact .inl q
        · refine .inr ⟨k, c', e, z'.sameBut hs ?_⟩
          rintro rfl
          exact hj (nodup_ix hN e1 (I.ok.inj _ _ _ e hc ▸ hi))
    · by_cases hcc : c' = c
      · subst hcc; exact ⟨_, hc'⟩
      · obtain ⟨w2, z2⟩ := I.cell y c' e
        exact ⟨w2, z2.sameBut hs hcc⟩
    · obtain ⟨e, n, ne, nf, d⟩ := I.pin p hp
      refine ⟨(hs.2 p.1 ?_).trans e, n, ne, nf, d⟩
      intro q
      rw [q, hoc] at e
      have q' : oc = p.2 := Option.some.inj e
      exact d w' (by rw [← q']; exact hocd)
theorem store_ok {M : Model} {A : Around} {E : Value → Shared → Prop} {i : Nat} {x : Str} {v : V} {u : Value} {Q : Unit → Shared → Prop} (I : Inv X pins σ H s) (hN : X.N.Nodup) (hi : X.N[i]? = some x) (hx : Loc X.env.scope x) (r : RelV v u)
    (h : ∀ s', Inv X pins (σ.set i (some v)) H s' → Q () s') (hf : X.fn x = true ∨ X.env.scope.names.lookup x = some .local := by first | exact .inl rfl | exact .inr rfl | assumption) : wpAny M A (storeName X.env x u) Q E s :=
  store_ok2 I hN hi hx r (fun s' I' _ => h s' I') hf
/-- behind a call or a block, the state as it is -/
theorem Inv.call' {s' : Shared} {ch : List Addr} (I : Inv X pins σ H s) (ho : s'.os = s.os) (u : Un (frs X.stack) ch H H' s.heap s'.heap) (hok : HOk X.prog X.w H' s'.heap) (hg : AllBare s'.gens)
    (hch : ∀ b ∈ ch, (b ∈ X.ex ∨ X.s₀.heap.objs.size ≤ b) ∧ b ≠ X.env.locals ∧ (∀ x c, X.env.cells.lookup x = some c → c ≠ b) ∧ ∀ p ∈ X.pn ++ pins, p.1 ≠ b) : Inv X pins σ H' s' := by
  obtain ⟨h', g', d', t', o'⟩ := s'
  have e : o' = s.os := ho
  subst e
  exact I.call (g' := g') (t' := t') (d' := d') u hok hg hch
end

/-! ### the judgements -/
/-- an exception: its class, its own dict's address (where it has one), the abstract heap behind it -/
abbrev XK := Value → Option Addr → Hp → Prop
abbrev St := List (Option V)
abbrev VK := V → Hp → Prop
/-- an expression's reading; a test's; an argument list's -/
abbrev TE := St → Hp → VK → Prop
abbrev TT := St → Hp → (Bool → Hp → Prop) → Prop
abbrev TA := St → Hp → (List V → Hp → Prop) → Prop
/-- what is wanted behind a statement -/
structure Ends where
  nx : St → Hp → Prop
  rt : VK
  bk : St → Hp → Prop := fun _ _ => False
  ct : St → Hp → Prop := fun _ _ => False
abbrev TS := Ends → St → Hp → Prop

def EP (X : Cx) (pins : List (Addr × Obj)) (σ : St) (Q : VK) (u : Value) (s' : Shared) : Prop := ∃ v H', Inv X pins σ H' s' ∧ RelV v u ∧ Q v H'
def TP (X : Cx) (pins : List (Addr × Obj)) (σ : St) (Q : Bool → Hp → Prop) (b : Bool) (s' : Shared) : Prop := ∃ H', Inv X pins σ H' s' ∧ Q b H'
def AP (X : Cx) (pins : List (Addr × Obj)) (σ : St) (Q : List V → Hp → Prop) (us : List Value) (s' : Shared) : Prop := ∃ vs H', Inv X pins σ H' s' ∧ Vals vs us ∧ Q vs H'
def SP (X : Cx) (pins : List (Addr × Obj)) (D : Ends) (f : Flow) (s' : Shared) : Prop :=
  match f with
  | .next => ∃ σ' H', Inv X pins σ' H' s' ∧ D.nx σ' H'
  | .brk => ∃ σ' H', Inv X pins σ' H' s' ∧ D.bk σ' H'
  | .cont => ∃ σ' H', Inv X pins σ' H' s' ∧ D.ct σ' H'
  | .ret u => ∃ v σ' H', Inv X pins σ' H' s' ∧ RelV v u ∧ D.rt v H'

def PE (X : Cx) (e : Expr) (t : TE) : Prop :=
  ∀ (pins : List (Addr × Obj)) (s : Shared) (σ : St) (H : Hp) (Q : VK), Inv X pins σ H s → t σ H Q → wpAny (model X.prog X.w) X.A (eval e X.env) (EP X pins σ Q) X.xe s
def PT (X : Cx) (e : Expr) (t : TT) : Prop :=
  ∀ (pins : List (Addr × Obj)) (s : Shared) (σ : St) (H : Hp) (Q : Bool → Hp → Prop), Inv X pins σ H s → t σ H Q → wpAny (model X.prog X.w) X.A (isTrue e X.env (eval e X.env)) (TP X pins σ Q) X.xe s
/-- a test whatever its 'whole' is (and, or) -/
def PW (X : Cx) (e : Expr) (t : TT) : Prop :=
  ∀ (whole : Sem Value) (pins : List (Addr × Obj)) (s : Shared) (σ : St) (H : Hp) (Q : Bool → Hp → Prop), Inv X pins σ H s → t σ H Q → wpAny (model X.prog X.w) X.A (isTrue e X.env whole) (TP X pins σ Q) X.xe s
theorem PW.pt {X : Cx} {e : Expr} {t : TT} (h : PW X e t) : PT X e t := h _
/-- an argument list (no star), from the left -/
def PA (X : Cx) (es : List Expr) (t : TA) : Prop :=
  ∀ (pos : Pos) (pins : List (Addr × Obj)) (s : Shared) (σ : St) (H : Hp) (Q : List V → Hp → Prop), Inv X pins σ H s → t σ H Q → wpAny (model X.prog X.w) X.A (spliced (backTo pos (starEach es X.env))) (AP X pins σ Q) X.xe s
def PS (X : Cx) (st : Stmt) (t : TS) : Prop :=
  ∀ (pins : List (Addr × Obj)) (s : Shared) (σ : St) (H : Hp) (D : Ends), Inv X pins σ H s → t D σ H → wpAny (model X.prog X.w) X.A (exec st X.env) (SP X pins D) X.xe s
def PSs (X : Cx) (st : List Stmt) (t : TS) : Prop :=
  ∀ (pins : List (Addr × Obj)) (s : Shared) (σ : St) (H : Hp) (D : Ends), Inv X pins σ H s → t D σ H → wpAny (model X.prog X.w) X.A (execs st X.env) (SP X pins D) X.xe s
/-- weaken the end -/
theorem thn {α : Type} {t : Sem α} {Q Q' : α → Shared → Prop} {M : Model} {A : Around} {E : Value → Shared → Prop} {s : Shared} (h : wpAny M A t Q E s) (hQ : ∀ a s, Q a s → Q' a s) : wpAny M A t Q' E s := wpAny_mono h hQ fun _ _ x => x
end L2

namespace L2
open PySem PySem.Spec PyProof.Rows
section
variable {X : Cx}

/-! ### names and constants -/
def tVar (i : Nat) : TE := fun σ H Q => ∃ v, σ[i]? = some (some v) ∧ Q v H
def tC (v : V) : TE := fun _ H Q => Q v H
theorem pe_var {i : Nat} {x : Str} {pos : Pos} (hN : X.N[i]? = some x) (hv : Vis X.env.scope x) (hd : (x == ("__debug__" : Str)) = false := by decide) (hcd : (x == ("__classdict__" : Str)) = false := by decide) : PE X (.Name x pos) (tVar i) := by
  intro pins s σ H Q I h
  obtain ⟨v, e, h⟩ := h
  obtain ⟨m, hn, hl⟩ := I.loc
  obtain ⟨u, r, l⟩ := hl i x v hN e hv
  have fin : EP X pins σ Q u s := ⟨v, H, I, r, h⟩
  rcases l with ⟨hk, hm⟩ | ⟨hk, c, hc, hcell⟩
  · exact wpAny_Name (wpAny_loadName_local I.ok.kind hk hn hm fin) hd
  · rcases hk with hk | hk
    · exact wpAny_Name (wpAny_loadName_cell I.ok.kind hk hc hcell fin) hd
    · exact wpAny_Name (wpAny_loadName_free I.ok.kind hk hc hcell fin hcd) hd
theorem pe_int {i j pos} : PE X (.Constant (.int i) j pos) (tC (.int i)) := fun _ _ _ H _ I h => wpAny_Constant_int ⟨.int i, H, I.tok _, ⟨_, rfl⟩, h⟩
theorem pe_bl {b j pos} : PE X (.Constant (.bool b) j pos) (tC (.bl b)) := fun _ _ _ H _ I h => Constant_bool ⟨.bl b, H, I, rfl, h⟩
theorem pe_non {j pos} : PE X (.Constant .none j pos) (tC .non) := fun _ _ _ H _ I h => Constant_none ⟨.non, H, I, rfl, h⟩
/-- a global name of the def -/
def Gl (X : Cx) (x : Str) : Prop := X.env.kindOf x = some .globalImplicit
theorem ld_glob {E : Value → Shared → Prop} {pins : List (Addr × Obj)} {s : Shared} {σ : St} {H : Hp} {x : Str} {u : Value} {pos : Pos} {Q : Value → Shared → Prop} (I : Inv X pins σ H s) (hg : Gl X x) (hm : X.mg x = some u) (h : Q u s)
    (hd : (x == ("__debug__" : Str)) = false := by decide) : wpAny (model X.prog X.w) X.A (eval (.Name x pos) X.env) Q E s :=
  Calls.Name_function_global I.ok.kind hg (Calls.loadGlobal_global (by rw [I.ok.glob]; exact I.mod.glob.keeps I.bk) hm h) hd
theorem ld_blt {E : Value → Shared → Prop} {pins : List (Addr × Obj)} {s : Shared} {σ : St} {H : Hp} {x : Str} {u : Value} {pos : Pos} {Q : Value → Shared → Prop} (I : Inv X pins σ H s) (hg : Gl X x) (hm : X.mg x = none) (hv : bootBuiltins x = some u) (h : Q u s)
    (hn : x ≠ "__name__" := by decide) (hd : (x == ("__debug__" : Str)) = false := by decide) : wpAny (model X.prog X.w) X.A (eval (.Name x pos) X.env) Q E s := by
  obtain ⟨mb, h1, h2⟩ := I.mod.blt
  exact Calls.Name_function_global I.ok.kind hg (Calls.loadGlobal_builtin (by rw [I.ok.glob]; exact I.mod.glob.keeps I.bk) hm (by rw [I.ok.blt]; exact h1.keeps I.bk) ((h2 x hn).trans hv) h) hd
theorem pe_bltn {x : Str} {v : V} {u : Value} {pos : Pos} (hg : Gl X x) (hm : X.mg x = none) (hv : bootBuiltins x = some u) (r : RelV v u) (hn : x ≠ "__name__" := by decide) (hd : (x == ("__debug__" : Str)) = false := by decide) : PE X (.Name x pos) (tC v) :=
  fun _ _ _ H _ I h => ld_blt I hg hm hv ⟨v, H, I, r, h⟩ hn hd

/-! ### arithmetic -/
/-- two ints -/
def t2I (ta tb : TE) (k : Int → Int → Hp → Prop) : St → Hp → Prop := fun σ H => ta σ H fun x H1 => tb σ H1 fun y H2 => ∃ i j, x = .int i ∧ y = .int j ∧ k i j H2
def tAdd (ta tb : TE) : TE := fun σ H Q => t2I ta tb (fun i j H2 => Q (.int (i + j)) H2) σ H
def tSub (ta tb : TE) : TE := fun σ H Q => t2I ta tb (fun i j H2 => Q (.int (i - j)) H2) σ H
/-- the left factor below 2^64 -/
def tMul (ta tb : TE) : TE := fun σ H Q => t2I ta tb (fun i j H2 => (-(2 ^ 64) < i ∧ i < 2 ^ 64) ∧ Q (.int (i * j)) H2) σ H
variable {a b : Expr} {ta tb : TE} {pos : Pos}
/-! ### comparisons -/
def PC (X : Cx) (op : CmpOp) (a b : Expr) (t : TE) : Prop :=
  ∀ (pins : List (Addr × Obj)) (s : Shared) (σ : St) (H : Hp) (Q : VK), Inv X pins σ H s → t σ H Q →
    wpAny (model X.prog X.w) X.A (eval a X.env) (fun v s₁ => wpAny (model X.prog X.w) X.A (eval b X.env) (fun u s₂ => wpAny (model X.prog X.w) X.A (compareOp op v u) (EP X pins σ Q) X.xe s₂) X.xe s₁) X.xe s
def tCmp (p : Int → Int → Bool) (ta tb : TE) : TE := fun σ H Q => t2I ta tb (fun i j H2 => Q (.bl (p i j)) H2) σ H
abbrev tLt : TE → TE → TE := tCmp fun i j => decide (i < j)
abbrev tLe : TE → TE → TE := tCmp fun i j => decide (i ≤ j)
abbrev tGt : TE → TE → TE := tCmp fun i j => decide (j < i)
abbrev tGe : TE → TE → TE := tCmp fun i j => decide (j ≤ i)
abbrev tEqI : TE → TE → TE := tCmp fun i j => decide (i = j)
abbrev tNeI : TE → TE → TE := tCmp fun i j => !decide (i = j)
/-- is None -/
def tIsN (ta : TE) : TE := fun σ H Q => ta σ H fun x H1 => Q (.bl (decide (x = .non))) H1
def tNotN (ta : TE) : TE := fun σ H Q => ta σ H fun x H1 => Q (.bl (!decide (x = .non))) H1
/-- a comparison as a value, as a test -/
def tB (t : TE) : TT := fun σ H Q => t σ H fun x H1 => ∃ c, x = .bl c ∧ Q c H1
/-- an expression whose value is a bool, as a test -/
theorem pt_val {e : Expr} {t : TE} (h : PE X e t) (he : ∀ whole, isTrue e X.env whole = (do let v ← whole; standAt e.pos; holding [v] (truthy v)) := by intro _; rfl) : PT X e (tB t) := by
  intro pins s σ H Q I hw
  refine isTrue_plain (thn (h pins s σ H _ I hw) fun v s1 ⟨x, H1, I1, r1, q1⟩ => ?_) (he _)
  obtain ⟨d, rfl, q⟩ := q1
  cases r1
  exact wpAny_truthy_bool ⟨H1, I1, q⟩

/-! ### and, or, not -/
variable {tA tB' : TT} {rest : List Expr}
def tAnd (t u : TT) : TT := fun σ H Q => t σ H fun c H1 => if c = true then u σ H1 Q else Q false H1
def tOr (t u : TT) : TT := fun σ H Q => t σ H fun c H1 => if c = true then Q true H1 else u σ H1 Q
def tNot (t : TT) : TT := fun σ H Q => t σ H fun c H1 => Q (!c) H1
theorem pw_or1 (ha : PT X a tA) : PW X (.BoolOp .Or [a] pos) tA := by
  intro wh pins s σ H Q I h
  refine isTrue_or (thn (ha pins s σ H Q I h) fun c s1 e => ?_)
  cases c with
  | false => exact isTrue_or_nil e
  | true => exact e
theorem pw_or (ha : PT X a tA) (hb : PW X (.BoolOp .Or (b :: rest) pos) tB') : PW X (.BoolOp .Or (a :: b :: rest) pos) (tOr tA tB') := by
  intro wh pins s σ H Q I h
  refine isTrue_or (thn (ha pins s σ H _ I h) fun c s1 ⟨H1, I1, q1⟩ => ?_)
  cases c with
  | true => exact ⟨H1, I1, q1⟩
  | false => exact hb wh pins s1 σ H1 Q I1 q1
theorem pt_not (ha : PT X a tA) : PT X (.UnaryOp .Not a pos) (tNot tA) := by
  intro pins s σ H Q I h
  exact isTrue_not (ha pins s σ H (fun c H1 => Q (!c) H1) I h)
/-- .. as values (bools) -/
def tAndV (ta tb : TE) : TE := fun σ H Q => ta σ H fun x H1 => ∃ c, x = .bl c ∧ if c = true then tb σ H1 Q else Q (.bl false) H1
def tOrV (ta tb : TE) : TE := fun σ H Q => ta σ H fun x H1 => ∃ c, x = .bl c ∧ if c = true then Q (.bl true) H1 else tb σ H1 Q
def tNotV (ta : TE) : TE := fun σ H Q => ta σ H fun x H1 => ∃ c, x = .bl c ∧ Q (.bl (!c)) H1
theorem pe_one {op} {t : TE} (h : PE X a t) : PE X (.BoolOp op [a] pos) t := fun pins s σ H Q I hw => BoolOp_one (h pins s σ H Q I hw)
theorem pe_and (ha : PE X a ta) (hb : PE X (.BoolOp .And (b :: rest) pos) tb) : PE X (.BoolOp .And (a :: b :: rest) pos) (tAndV ta tb) := by
  intro pins s σ H Q I h
  refine BoolOp_and (thn (ha pins s σ H _ I h) fun v s1 ⟨x, H1, I1, r1, q1⟩ => ?_)
  obtain ⟨c, rfl, q1⟩ := q1
  cases r1
  refine wpAny_truthy_bool ?_
  cases c with
  | true => exact hb pins s1 σ H1 Q I1 q1
  | false => exact ⟨.bl false, H1, I1, rfl, q1⟩
theorem pe_not (ha : PE X a ta) : PE X (.UnaryOp .Not a pos) (tNotV ta) := by
  intro pins s σ H Q I h
  refine UnaryOp_ (thn (ha pins s σ H _ I h) fun v s1 ⟨x, H1, I1, r1, q1⟩ => ?_)
  obtain ⟨c, rfl, q1⟩ := q1
  cases r1
  exact not_of (wpAny_truthy_bool ⟨.bl (!c), H1, I1, rfl, q1⟩)
/-- a if t else b -/
def tIf (t : TT) (ta tb : TE) : TE := fun σ H Q => t σ H fun c H1 => if c = true then ta σ H1 Q else tb σ H1 Q
end
end L2

namespace L2
open PySem PySem.Spec PyProof.Rows

/-! ### a list, a tuple that is read: tracked, frozen, or an object of the module -/
def SqL (K : PySem.W.Frag) (H : Hp) (a : Addr) (xs : List V) : Prop :=
  Rd H a (.lst xs) ∨
    ∃ (o : Obj) (its : Array Value) (n : Nat), K.lookup a = some o ∧ o.cls = .type "list" ∧ o.dict = none ∧ o.data = .seq its n ∧ its.size ≤ sizeLine ∧ Vals xs its.toList
def SqT (K : PySem.W.Frag) (H : Hp) (a : Addr) (xs : List V) : Prop :=
  Rd H a (.tup xs) ∨
    ∃ (o : Obj) (its : Array Value) (n : Nat), K.lookup a = some o ∧ o.cls = .type "tuple" ∧ o.data = .seq its n ∧ its.size ≤ sizeLine ∧ Vals xs its.toList
def absV : Value → Option V
  | .none => some .non
  | .bool b => some (.bl b)
  | .int i _ => some (.int i)
  | .str x _ => some (.str x)
  | .bytes b _ => some (.byt b)
  | .float b _ => some (.flt b)
  | .ref a => some (.ref a)
  | .type n => some (.ty n)
  | _ => none
theorem RelV.abs {x : V} {u : Value} (r : RelV x u) : absV u = some x := by
  cases x with
  | non => cases r; rfl
  | bl _ => cases r; rfl
  | int _ => obtain ⟨t, rfl⟩ := r; rfl
  | str _ => obtain ⟨t, rfl⟩ := r; rfl
  | byt _ => obtain ⟨t, rfl⟩ := r; rfl
  | flt _ => obtain ⟨t, rfl⟩ := r; rfl
  | ref _ => cases r; rfl
  | ty _ => cases r; rfl
theorem RelV.inj {x y : V} {u : Value} (r : RelV x u) (q : RelV y u) : x = y := Option.some.inj (r.abs.symm.trans q.abs)
theorem Vals.inj : ∀ {xs ys : List V} {us : List Value}, Vals xs us → Vals ys us → xs = ys
  | _, _, _, .nil, .nil => rfl
  | _, _, _, .cons r t, .cons r' t' => by rw [r.inj r', Vals.inj t t']
section
variable {X : Cx} {pins : List (Addr × Obj)} {σ : St} {H : Hp} {s : Shared} {a : Addr} {xs ys : List V}
theorem SqL.of {K : PySem.W.Frag} (h : H a = some (.lst xs)) : SqL K H a xs := .inl (.inl h)
theorem SqT.of {K : PySem.W.Frag} (h : H a = some (.tup xs)) : SqT K H a xs := .inl (.inl h)
theorem Inv.list (I : Inv X pins σ H s) (h : SqL X.K H a xs) : ∃ its : List Value, Vals xs its ∧ PlainL s.heap a its.toArray ∧ xs.length ≤ sizeLine := by
  rcases h with h | ⟨o, its, n, hk, hc, hd, hs, hz, r⟩
  · obtain ⟨z, its, n, r, e⟩ := h.ok I.hok
    exact ⟨its, r, ⟨_, n, e, rfl, rfl, rfl⟩, z⟩
  · refine ⟨its.toList, r, ⟨o, n, I.kIn a o hk, hc, hd, by simpa using hs⟩, ?_⟩
    have e := r.length
    simp only [Array.length_toList] at e
    omega
theorem Inv.tuple (I : Inv X pins σ H s) (h : SqT X.K H a xs) : ∃ its : List Value, Vals xs its ∧ IsTup s.heap a its.toArray ∧ xs.length ≤ sizeLine := by
  rcases h with h | ⟨o, its, n, hk, hc, hs, hz, r⟩
  · obtain ⟨z, its, r, p⟩ := h.ok I.hok
    exact ⟨its, r, p, z⟩
  · refine ⟨its.toList, r, ⟨o, I.kIn a o hk, hc, n, by simpa using hs⟩, ?_⟩
    have e := r.length
    simp only [Array.length_toList] at e
    omega
theorem Inv.list_inj (I : Inv X pins σ H s) (h : SqL X.K H a xs) (h' : SqL X.K H a ys) : xs = ys := by
  obtain ⟨its, r, ⟨o, n, e, _, _, d⟩, _⟩ := I.list h
  obtain ⟨its', r', ⟨o', n', e', _, _, d'⟩, _⟩ := I.list h'
  rw [e] at e'; cases e'
  rw [d] at d'
  injection d' with d1 _
  have : its = its' := by simpa using congrArg Array.toList d1
  subst this
  exact r.inj r'
theorem Inv.tuple_inj (I : Inv X pins σ H s) (h : SqT X.K H a xs) (h' : SqT X.K H a ys) : xs = ys := by
  obtain ⟨its, r, ⟨o, e, _, n, d⟩, _⟩ := I.tuple h
  obtain ⟨its', r', ⟨o', e', _, n', d'⟩, _⟩ := I.tuple h'
  rw [e] at e'; cases e'
  rw [d] at d'
  injection d' with d1 _
  have : its = its' := by simpa using congrArg Array.toList d1
  subst this
  exact r.inj r'
end

/-! ### another wish about exceptions -/
abbrev Cx.wish (X : Cx) (E : Value → Shared → Prop) : Cx := { X with xe := E }
/-- no exception leaves -/
abbrev Cx.nox (X : Cx) : Cx := X.wish fun _ _ => False
theorem Cx.Ok.wish {X : Cx} (ok : X.Ok) (E : Value → Shared → Prop) : (X.wish E).Ok :=
  ⟨ok.mod, ok.kind, ok.glob, ok.blt, ok.above, ok.inj, ok.has, ok.cab, ok.hd, ok.frames, ok.stk, ok.exf, ok.bs, ok.bsz, ok.noex, ok.exfs, ok.funs, ok.frf⟩
theorem Cx.Ok.unwish {X : Cx} {E : Value → Shared → Prop} (ok : (X.wish E).Ok) : X.Ok :=
  ⟨ok.mod, ok.kind, ok.glob, ok.blt, ok.above, ok.inj, ok.has, ok.cab, ok.hd, ok.frames, ok.stk, ok.exf, ok.bs, ok.bsz, ok.noex, ok.exfs, ok.funs, ok.frf⟩
section
variable {X : Cx} {pins : List (Addr × Obj)} {σ : St} {H : Hp} {s : Shared} {E : Value → Shared → Prop}
theorem Inv.wish (I : Inv X pins σ H s) (E : Value → Shared → Prop) : Inv (X.wish E) pins σ H s := ⟨I.ok.wish E, I.os, I.bare, I.base, I.loc, I.cell, I.free, I.freeC, I.pin, I.hok, I.len⟩
theorem Inv.unwish (I : Inv (X.wish E) pins σ H s) : Inv X pins σ H s := ⟨I.ok.unwish, I.os, I.bare, I.base, I.loc, I.cell, I.free, I.freeC, I.pin, I.hok, I.len⟩
theorem SP.unwish {D : Ends} {f : Flow} {s' : Shared} (h : SP (X.wish E) pins D f s') : SP X pins D f s' := by
  cases f with
  | next => obtain ⟨σ', H', I, q⟩ := h; exact ⟨σ', H', I.unwish, q⟩
  | brk => obtain ⟨σ', H', I, q⟩ := h; exact ⟨σ', H', I.unwish, q⟩
  | cont => obtain ⟨σ', H', I, q⟩ := h; exact ⟨σ', H', I.unwish, q⟩
  | ret u => obtain ⟨v, σ', H', I, r, q⟩ := h; exact ⟨v, σ', H', I.unwish, r, q⟩
theorem PSs.nox {st : List Stmt} {t : TS} (h : PSs X.nox st t) : PSs X st t := fun pins s σ H D I hw =>
  wpAny_mono (h pins s σ H D (I.wish _) hw) (fun _ _ q => q.unwish) fun _ _ z => False.elim z
end

/-! ### blocks and small statements -/
section
variable {X : Cx} {st : Stmt} {rest : List Stmt} {t u : TS} {e : Expr} {te : TE} {pos : Pos}
def tNext : TS := fun D σ H => D.nx σ H
def tSeq (t u : TS) : TS := fun D σ H => t { D with nx := u D } σ H
theorem pss_nil : PSs X [] tNext := fun _ _ σ H _ I h => wpAny_execs_nil ⟨σ, H, I, h⟩
theorem pss_cons (h1 : PS X st t) (h2 : PSs X rest u) : PSs X (st :: rest) (tSeq t u) := by
  intro pins s σ H D I h
  refine wpAny_execs_cons (thn (h1 pins s σ H { D with nx := u D } I h) fun f s1 q => ?_)
  cases f with
  | next =>
    obtain ⟨σ', H', I', q⟩ := q
    exact h2 pins s1 σ' H' D I' q
  | ret v => exact q
  | brk => exact q
  | cont => exact q
theorem pss_one (h1 : PS X st t) : PSs X [st] t := by
  intro pins s σ H D I h
  refine wpAny_execs_cons (thn (h1 pins s σ H D I h) fun f s1 q => ?_)
  cases f with
  | next => exact wpAny_execs_nil q
  | ret v => exact q
  | brk => exact q
  | cont => exact q
def tBreak : TS := fun D σ H => D.bk σ H
def tCont : TS := fun D σ H => D.ct σ H
/-- in a def's body nothing is shown -/
theorem Inv.quiet {pins : List (Addr × Obj)} {σ : St} {H : Hp} {s : Shared} (I : Inv X pins σ H s) : interactive X.env = false := by simp [interactive, I.ok.kind]
/-- an expression whose value is dropped -/
def tDrop (te : TE) : TS := fun D σ H => te σ H fun _ H1 => D.nx σ H1
theorem ps_expr (he : PE X e te) (hs : swapsWith e none pos.line X.env = pure false := by rfl) : PS X (.Expr e pos) (tDrop te) := by
  intro pins s σ H D I h
  exact wpAny_Expr_any (thn (he pins s σ H _ I h) fun v s1 ⟨x, H1, I1, r1, q1⟩ => ⟨σ, H1, I1, q1⟩) I.quiet hs
def tRet (te : TE) : TS := fun D σ H => te σ H D.rt
theorem ps_ret (he : PE X e te) : PS X (.Return (some e) pos) (tRet te) := by
  intro pins s σ H D I h
  exact wpAny_Return_some (thn (he pins s σ H _ I h) fun v s1 ⟨x, H1, I1, r1, q1⟩ => ⟨x, σ, H1, I1, r1, q1⟩)
def tRetN : TS := fun D _ H => D.rt .non H
def tIfS (c : TT) (t u : TS) : TS := fun D σ H => c σ H fun b H1 => if b = true then t D σ H1 else u D σ H1
theorem ps_if {c : Expr} {a b : List Stmt} {tc : TT} (hc : PT X c tc) (ha : PSs X a t) (hb : PSs X b u) : PS X (.If c a b pos) (tIfS tc t u) := by
  intro pins s σ H D I h
  refine wpAny_If (thn (hc pins s σ H _ I h) fun d s1 ⟨H1, I1, q1⟩ => ?_)
  cases d with
  | true => exact ha pins s1 σ H1 D I1 q1
  | false => exact hb pins s1 σ H1 D I1 q1
/-- code that the proof never comes to -/
def tNever : TS := fun _ _ _ => False
theorem ps_never : PS X st tNever := fun _ _ _ _ _ _ h => h.elim
end

/-! ### targets -/
abbrev TG := V → St → Hp → (St → Hp → Prop) → Prop
abbrev TGs := List V → St → Hp → (St → Hp → Prop) → Prop
def PG (X : Cx) (target : Expr) (t : TG) : Prop :=
  ∀ (pins : List (Addr × Obj)) (s : Shared) (σ : St) (H : Hp) (v : V) (u : Value) (Q : St → Hp → Prop), Inv X pins σ H s → RelV v u → t v σ H Q →
    wpAny (model X.prog X.w) X.A (assign target X.env u) (fun _ s' => ∃ σ' H', Inv X pins σ' H' s' ∧ Q σ' H') X.xe s
/-- several targets, one after another -/
def PGs (X : Cx) (ts : List Expr) (t : TGs) : Prop :=
  ∀ (pins : List (Addr × Obj)) (s : Shared) (σ : St) (H : Hp) (vs : List V) (us : List Value) (Q : St → Hp → Prop), Inv X pins σ H s → Vals vs us → t vs σ H Q →
    wpAny (model X.prog X.w) X.A (assignInOrder ((assignEach ts X.env).map (·.2)) us) (fun _ s' => ∃ σ' H', Inv X pins σ' H' s' ∧ Q σ' H') X.xe s
/-- o[i] = v, by values -/
abbrev TSet := V → V → V → Hp → (Hp → Prop) → Prop
def PSet (X : Cx) (t : TSet) : Prop :=
  ∀ (pins : List (Addr × Obj)) (s : Shared) (σ : St) (H : Hp) (o i v : V) (ov iv u : Value) (Q : Hp → Prop), Inv X pins σ H s → RelV o ov → RelV i iv → RelV v u → t o i v H Q →
    wpAny (model X.prog X.w) X.A (setItem ov iv u) (fun _ s' => ∃ H', Inv X pins σ H' s' ∧ Q H') X.xe s
/-- a op= b, by values -/
abbrev TIp := V → V → Hp → VK → Prop
def PIp (X : Cx) (op : Operator) (t : TIp) : Prop :=
  ∀ (pins : List (Addr × Obj)) (s : Shared) (σ : St) (H : Hp) (x y : V) (v u : Value) (Q : VK), Inv X pins σ H s → RelV x v → RelV y u → t x y H Q →
    wpAny (model X.prog X.w) X.A (inplaceOp op v u) (EP X pins σ Q) X.xe s
section
variable {X : Cx} {pos : Pos}
def gName (i : Nat) : TG := fun v σ H Q => Q (σ.set i (some v)) H
theorem pg_name {i : Nat} {x : Str} (hN : X.N.Nodup) (hi : X.N[i]? = some x) (hx : Loc X.env.scope x) (hf : X.fn x = true ∨ X.env.scope.names.lookup x = some .local := by first | exact .inl rfl | exact .inr rfl | assumption) : PG X (.Name x pos) (gName i) := by
  intro pins s σ H v u Q I r h
  exact wpAny_assign_Name (store_ok I hN hi hx r (fun s' I' => ⟨_, H, I', h⟩) hf)
def gNil : TGs := fun vs σ H Q => vs = [] ∧ Q σ H
def gCons (t : TG) (u : TGs) : TGs := fun vs σ H Q => ∃ v r, vs = v :: r ∧ t v σ H fun σ' H' => u r σ' H' Q
theorem pgs_nil : PGs X [] gNil := by
  intro pins s σ H vs us Q I r h
  obtain ⟨e, h⟩ := h
  subst e
  cases r
  exact assignInOrder_nil ⟨σ, H, I, h⟩
theorem pgs_cons {e : Expr} {es : List Expr} {t : TG} {u : TGs} (h1 : PG X e t) (h2 : PGs X es u)
    (hs : (assignEach (e :: es) X.env).map (·.2) = assign e X.env :: (assignEach es X.env).map (·.2) := by rfl) : PGs X (e :: es) (gCons t u) := by
  intro pins s σ H vs us Q I r h
  obtain ⟨v, vr, e1, h⟩ := h
  subst e1
  cases r with
  | cons r rr =>
    rw [hs]
    refine assignInOrder_cons (thn (h1 pins s σ H _ _ _ I r h) fun _ s1 ⟨σ1, H1, I1, q1⟩ => ?_)
    exact h2 pins s1 σ1 H1 _ _ Q I1 rr q1
/-- (a, b, ..) = a tuple of that length -/
def gTup (K : PySem.W.Frag) (n : Nat) (t : TGs) : TG := fun v σ H Q => ∃ a xs, v = .ref a ∧ SqT K H a xs ∧ xs.length = n ∧ t xs σ H Q
theorem pg_tup {es : List Expr} {k : Nat} {t : TGs} {n : Nat} (hc : X.calm = true) (h : PGs X es t)
    (hn : (assignEach es X.env).length = n := by rfl) (hst : (assignEach es X.env).findIdx? (·.1) = none := by rfl) : PG X (.Tuple es k pos) (gTup X.K n t) := by
  intro pins s σ H v u Q I r hw
  obtain ⟨a, xs, e1, hq, hl, hw⟩ := hw
  subst e1
  cases r
  obtain ⟨its, rv, ht, hz⟩ := I.tuple hq
  refine assign_Tuple_tuple (I.ok.hd hc) ht (by simp [hn, ← hl, rv.length]) hst fun h' hx => ?_
  have I1 : Inv X pins σ H { s with heap := h' } := I.kept (t' := s.toks) fun b o e => hx b o (Nat.ne_of_lt (Heap.lt_size e)) e
  exact h pins _ σ H xs _ Q I1 (by simpa using rv) hw
/-- o[i] = .. -/
def gSub (to ti : TE) (t : TSet) : TG := fun v σ H Q => to σ H fun o H1 => ti σ H1 fun i H2 => t o i v H2 fun H3 => Q σ H3
/-- target = value -/
def tAsg (te : TE) (g : TG) : TS := fun D σ H => te σ H fun x H1 => g x σ H1 D.nx
/-- name = value -/
theorem ps_set {i : Nat} {x : Str} {e : Expr} {te : TE} {pos' : Pos} (hN : X.N.Nodup) (hi : X.N[i]? = some x) (hx : Loc X.env.scope x) (he : PE X e te) (hs : swapsWith e (some (.Name x pos')) pos.line X.env = pure false := by rfl) (hf : X.fn x = true ∨ X.env.scope.names.lookup x = some .local := by first | exact .inl rfl | exact .inr rfl | assumption) :
    PS X (.Assign [.Name x pos'] e pos) (tAsg te (gName i)) := by
  intro pins s σ H D I h
  refine wpAny_Assign_Name (thn (he pins s σ H _ I h) fun v s1 ⟨y, H1, I1, r1, q1⟩ => ?_) hs
  exact store_ok I1 hN hi hx r1 (fun s2 I2 => ⟨_, H1, I2, q1⟩) hf
/-- a, b = x, y with plain local names: stored from the right; the pair itself is not tracked (the opening rows as in PyProof/Rows/TupAssign.lean:23) -/
def tPar (i j : Nat) (ta : TA) : TS := fun D σ H => ta σ H fun vs H1 => ∃ v w, vs = [v, w] ∧ D.nx ((σ.set i (some v)).set j (some w)) H1
/-- name op= e -/
def tAug (i : Nat) (te : TE) (ti : TIp) : TS := fun D σ H => ∃ x, σ[i]? = some (some x) ∧ te σ H fun y H1 => ti x y H1 fun z H2 => D.nx (σ.set i (some z)) H2
/-- o[i] op= e -/
def tAugS (to ti te : TE) (tget : V → V → Hp → VK → Prop) (tip : TIp) (tset : TSet) : TS := fun D σ H => to σ H fun o H1 => ti σ H1 fun i H2 => tget o i H2 fun x H3 => te σ H3 fun y H4 => tip x y H4 fun z H5 => tset o i z H5 fun H6 => D.nx σ H6
/-- o[i], by values -/
def PGet (X : Cx) (t : V → V → Hp → VK → Prop) : Prop :=
  ∀ (pins : List (Addr × Obj)) (s : Shared) (σ : St) (H : Hp) (o i : V) (ov iv : Value) (Q : VK), Inv X pins σ H s → RelV o ov → RelV i iv → t o i H Q →
    wpAny (model X.prog X.w) X.A (getItem ov iv) (EP X pins σ Q) X.xe s
/-- ints -/
def ipI (f : Int → Int → Int) : TIp := fun x y H Q => ∃ i j, x = .int i ∧ y = .int j ∧ Q (.int (f i j)) H
end

/-! ### while -/
section
variable {X : Cx} {pos : Pos}
/-- the invariant W with its measure -/
def tWhile (c : TT) (tb : TS) : TS := fun D σ H => ∃ W : Nat → St → Hp → Prop, (∃ m, W m σ H) ∧ ∀ m σ H, W m σ H →
  c σ H fun b H1 => if b = true then ∃ N : St → Hp → Prop, (∀ σ' H', N σ' H' → ∃ m', m' < m ∧ W m' σ' H') ∧ tb { D with nx := N, ct := N, bk := D.nx } σ H1 else D.nx σ H1
end

/-! ### what a loop or a comprehension walks -/
/-- at turn i: it yields x (the heap may grow), or it stops -/
structure It where
  go : Nat → Hp → Prop
  yld : Nat → Hp → V → Hp → Prop
  stop : Nat → Hp → Prop
/-- the iterator's own objects may turn: they are not the frame's, not pinned, younger than the entry (or a comprehension's own) -/
def FpOk (X : Cx) (pins : List (Addr × Obj)) (H : Hp) (b : Addr) : Prop :=
  H b = none ∧ b ≠ X.env.locals ∧ b ∉ X.fs ∧ (b ∈ X.ex ∨ X.s₀.heap.objs.size ≤ b) ∧ (∀ x c, X.env.cells.lookup x = some c → c ≠ b) ∧ ∀ p ∈ X.pn ++ pins, p.1 ≠ b
theorem Inv.fpOk {X : Cx} {pins : List (Addr × Obj)} {σ : St} {H H' : Hp} {s : Shared} {b : Addr} (I : Inv X pins σ H s) (hb : s.heap.objs.size ≤ b) (hn : H' b = none) : FpOk X pins H' b := by
  refine ⟨hn, Nat.ne_of_gt (Nat.lt_of_lt_of_le I.lt hb), I.nofs hb, .inr (Nat.le_trans I.sz hb), fun x c e z => ?_, fun p hp z => ?_⟩
  · obtain ⟨v, q⟩ := I.cell x c e
    exact absurd (Nat.lt_of_lt_of_le q.lt (by rw [z]; exact hb)) (Nat.lt_irrefl _)
  · exact absurd (Nat.lt_of_lt_of_le (Heap.lt_size (I.pin p hp).1) (by rw [z]; exact hb)) (Nat.lt_irrefl _)
structure Turn (P : Program) (w : World) (K : PySem.W.Frag) (tg : Expr) (J : It) (fp : List Addr) (it : Addr) (tn : Nat → Heap → Prop) : Prop where
  mem : it ∈ fp
  obj : ∀ i h, tn i h → ∀ b ∈ fp, ∃ o, h.get? b = some o ∧ ∀ v, o.data ≠ .cell v
  keep : ∀ i h h', tn i h → (∀ b ∈ fp, ∀ o, h.get? b = some o → h'.get? b = some o) → tn i h'
  item : ∀ (X : Cx), X.prog = P → X.w = w → X.K = K → X.calm = true → ∀ (i : Nat) (pins : List (Addr × Obj)) (s : Shared) (σ : St) (H : Hp) (E : Value → Shared → Prop), Inv X pins σ H s → (∀ b ∈ fp, FpOk X pins H b) → tn i s.heap → J.go i H →
    wpAny (model P w) X.A (pyNext (.ref it)) (fun r s1 => ∃ u, r = some u ∧
      wpAny (model P w) X.A (letOwnedTupleGo tg (.ref it) u) (fun _ s2 => ∃ x H', Inv X pins σ H' s2 ∧ RelV x u ∧ J.yld i H x H' ∧ tn (i + 1) s2.heap ∧ ∀ b ∈ fp, H' b = none) E s1) E s
  done : ∀ (X : Cx), X.prog = P → X.w = w → X.K = K → X.calm = true → ∀ (i : Nat) (pins : List (Addr × Obj)) (s : Shared) (σ : St) (H : Hp) (E : Value → Shared → Prop), Inv X pins σ H s → (∀ b ∈ fp, FpOk X pins H b) → tn i s.heap → J.stop i H →
    wpAny (model P w) X.A (pyNext (.ref it)) (fun r s1 => r = none ∧ Inv X pins σ H s1) E s
  self : ∀ (A : Around) (i : Nat) (s : Shared) (Q : Value → Shared → Prop) (E : Value → Shared → Prop), tn i s.heap → Q (.ref it) s → wpAny (model P w) A (pyIter (.ref it)) Q E s
abbrev TI := St → Hp → (It → Hp → Prop) → Prop
/-- an iterator has come -/
def PIE (X : Cx) (pins : List (Addr × Obj)) (σ : St) (tg : Expr) (R : It → Hp → Prop) (itv : Value) (s2 : Shared) : Prop :=
  ∃ (it : Addr) (fp : List Addr) (tn : Nat → Heap → Prop) (J : It) (H' : Hp), itv = .ref it ∧ Inv X pins σ H' s2 ∧ Turn X.prog X.w X.K tg J fp it tn ∧ tn 0 s2.heap ∧ (∀ b ∈ fp, FpOk X pins H' b) ∧ R J H'
def PI (X : Cx) (tg iter : Expr) (wi : TI) : Prop :=
  ∀ (pins : List (Addr × Obj)) (s : Shared) (σ : St) (H : Hp) (R : It → Hp → Prop), Inv X pins σ H s → wi σ H R →
    wpAny (model X.prog X.w) X.A (eval iter X.env) (fun v s1 => wpAny (model X.prog X.w) X.A (pyIter v) (PIE X pins σ tg R) X.xe s1) X.xe s

/-- the step ahead of the store is nothing for an iterator that keeps no tuple -/
theorem go_of {M : Model} {A : Around} {E : Value → Shared → Prop} {s : Shared} {tg : Expr} {it : Addr} {u : Value} {o : Obj} {n : String} {vs : Array Value} {Q : Unit → Shared → Prop} (ho : s.heap.get? it = some o) (hc : o.cls = .type n) (hd : o.data = .fields vs)
    (hn : ["enumerate", "zip", "dict_itemiterator", "dict_reverseitemiterator", "odict_iterator", "itertools.zip_longest", "itertools.pairwise"].contains n = false) (hQ : Q () s) : wpAny M A (letOwnedTupleGo tg (.ref it) u) Q E s := by
  unfold letOwnedTupleGo
  cases tg <;> first
    | exact wpAny_pure hQ
    | (cases u <;> first
        | exact wpAny_pure hQ
        | (refine wpAny_bind (wpAny_load ho ?_)
           rw [hc, hd]
           show wpAny M A (if (["enumerate", "zip", "dict_itemiterator", "dict_reverseitemiterator", "odict_iterator", "itertools.zip_longest", "itertools.pairwise"].contains n && vs[0]? == some (rawInt _)) = true then _ else _) Q E s
           rw [if_neg (by intro h; rw [hn, Bool.false_and] at h; cases h)]
           exact wpAny_pure hQ))

/-- the list at a, as it stands at each turn (a loop may append to it) -/
def Itl (K : PySem.W.Frag) (a : Addr) : It :=
  ⟨fun i H => ∃ xs x, SqL K H a xs ∧ xs[i]? = some x, fun i H x H' => H' = H ∧ ∀ xs, SqL K H a xs → xs[i]? = some x, fun i H => ∃ xs, SqL K H a xs ∧ xs.length ≤ i⟩
def Itt (K : PySem.W.Frag) (a : Addr) : It :=
  ⟨fun i H => ∃ xs x, SqT K H a xs ∧ xs[i]? = some x, fun i H x H' => H' = H ∧ ∀ xs, SqT K H a xs → xs[i]? = some x, fun i H => ∃ xs, SqT K H a xs ∧ xs.length ≤ i⟩
/-- lo, lo + 1, .. (n of them) -/
def Itr (lo : Int) (n : Nat) : It := ⟨fun i _ => i < n, fun i H x H' => H' = H ∧ x = .int (lo + i), fun i _ => n ≤ i⟩
theorem turn_list {P : Program} {w : World} {K : PySem.W.Frag} {tg : Expr} (a it : Addr) : Turn P w K tg (Itl K a) [it] it (fun i h => h.IsListIter it a i) where
  mem := by simp
  obj := fun i h st b hb => by
    have e : b = it := by simpa using hb
    subst e
    obtain ⟨o, e, c, d⟩ := st
    exact ⟨o, e, fun v z => by rw [d] at z; cases z⟩
  keep := fun i h h' st k => st.at fun o e => k it (by simp) o e
  item := by
    intro X hP hw hK hc i pins s σ H E I hf st hg
    subst hP hw hK
    obtain ⟨xs, x, hq, hx⟩ := hg
    obtain ⟨its, rv, p, hz⟩ := I.list hq
    obtain ⟨u, hu, ru⟩ := rv.get hx
    obtain ⟨f0, f1, f2, f3, f4, f5⟩ := hf it (by simp)
    refine wpAny_pyNext_list_item st p.isList (x := u) (by simpa using hu) fun h' st' sb => ?_
    have I1 : Inv X pins σ H { s with heap := h' } := I.turned (t' := s.toks) (fun b o hb e => (sb.2 b hb).trans e) f0 f1 f3 f4 f5
    obtain ⟨o, e, c, d⟩ := id st'
    exact ⟨u, rfl, go_of (s := { s with heap := h' }) e c d (by decide) ⟨x, H, I1, ru, ⟨rfl, fun ys hy => by rw [I.list_inj hy hq]; exact hx⟩, st', fun b hb => (hf b hb).1⟩⟩
  done := by
    intro X hP hw hK hc i pins s σ H E I hf st hg
    subst hP hw hK
    obtain ⟨xs, hq, hx⟩ := hg
    obtain ⟨its, rv, p, hz⟩ := I.list hq
    obtain ⟨f0, f1, f2, f3, f4, f5⟩ := hf it (by simp)
    have hl := rv.length
    exact wpAny_pyNext_list_end (I.ok.hd hc) st p.isList (by simp; omega) fun h' eb => ⟨rfl, I.turned (t' := s.toks) (fun b o hb e => eb b o hb e) f0 f1 f3 f4 f5⟩
  self := fun _ _ _ _ _ st h => wpAny_pyIter_listiter st h
theorem turn_tuple {P : Program} {w : World} {K : PySem.W.Frag} {tg : Expr} (a it : Addr) : Turn P w K tg (Itt K a) [it] it (fun i h => h.IsTupleIter it a i) where
  mem := by simp
  obj := fun i h st b hb => by
    have e : b = it := by simpa using hb
    subst e
    obtain ⟨o, e, c, d⟩ := st
    exact ⟨o, e, fun v z => by rw [d] at z; cases z⟩
  keep := fun i h h' st k => st.at fun o e => k it (by simp) o e
  item := by
    intro X hP hw hK hc i pins s σ H E I hf st hg
    subst hP hw hK
    obtain ⟨xs, x, hq, hx⟩ := hg
    obtain ⟨its, rv, p, hz⟩ := I.tuple hq
    obtain ⟨u, hu, ru⟩ := rv.get hx
    obtain ⟨f0, f1, f2, f3, f4, f5⟩ := hf it (by simp)
    refine wpAny_pyNext_tuple_item st (show s.heap.IsTuple a its.toArray from p) (x := u) (by simpa using hu) fun h' st' sb => ?_
    have I1 : Inv X pins σ H { s with heap := h' } := I.turned (t' := s.toks) (fun b o hb e => (sb.2 b hb).trans e) f0 f1 f3 f4 f5
    obtain ⟨o, e, c, d⟩ := id st'
    exact ⟨u, rfl, go_of (s := { s with heap := h' }) e c d (by decide) ⟨x, H, I1, ru, ⟨rfl, fun ys hy => by rw [I.tuple_inj hy hq]; exact hx⟩, st', fun b hb => (hf b hb).1⟩⟩
  done := by
    intro X hP hw hK hc i pins s σ H E I hf st hg
    subst hP hw hK
    obtain ⟨xs, hq, hx⟩ := hg
    obtain ⟨its, rv, p, hz⟩ := I.tuple hq
    obtain ⟨f0, f1, f2, f3, f4, f5⟩ := hf it (by simp)
    have hl := rv.length
    exact wpAny_pyNext_tuple_end (I.ok.hd hc) st (show s.heap.IsTuple a its.toArray from p) (by simp; omega) fun h' eb => ⟨rfl, I.turned (t' := s.toks) (fun b o hb e => eb b o hb e) f0 f1 f3 f4 f5⟩
  self := fun _ _ _ _ _ st h => wpAny_pyIter_tupleiter st h
theorem turn_range {P : Program} {w : World} {K : PySem.W.Frag} {tg : Expr} (it : Addr) (lo : Int) (n : Nat) : Turn P w K tg (Itr lo n) [it] it (fun i h => IsRangeIter h it (lo + (i : Nat) * 1) ((n : Int) - (i : Nat)) 1) where
  mem := by simp
  obj := fun i h st b hb => by
    have e : b = it := by simpa using hb
    subst e
    exact ⟨_, st, fun v z => by
      have z' : Data.fields _ = Data.cell v := z
      cases z'⟩
  keep := fun i h h' st k => k it (by simp) _ st
  item := by
    intro X hP hw hK hc i pins s σ H E I hf st hg
    subst hP hw hK
    obtain ⟨f0, f1, f2, f3, f4, f5⟩ := hf it (by simp)
    have W := Walks.range (prog := X.prog) (w := X.w) (I.ok.hd hc) it lo 1 n
    refine W.item i s _ _ hg st fun v h' tk hv st' kk => ?_
    obtain ⟨t, rfl⟩ := hv
    have I1 : Inv X pins σ H { s with heap := h', toks := tk } := I.turned (fun b o hb e => kk b o (by simpa using hb) e) f0 f1 f3 f4 f5
    refine ⟨_, rfl, go_of (s := { s with heap := h', toks := tk }) (n := "range_iterator") st' rfl rfl (by decide) ⟨.int (lo + i), H, I1, ⟨t, ?_⟩, ⟨rfl, rfl⟩, st', fun b hb => (hf b hb).1⟩⟩
    rw [Int.mul_one]
  done := by
    intro X hP hw hK hc i pins s σ H E I hf st hg
    subst hP hw hK
    obtain ⟨f0, f1, f2, f3, f4, f5⟩ := hf it (by simp)
    exact wpAny_pyNext_range_end (I.ok.hd hc) st (by have : n ≤ i := hg; omega) fun h' eb => ⟨rfl, I.turned (t' := s.toks) (fun b o hb e => eb b o hb e) f0 f1 f3 f4 f5⟩
  self := fun _ _ _ _ _ st h => wpAny_pyIter_rangeiter st h
end L2

namespace L2
open PySem PySem.Spec PyProof.Rows
section
variable {X : Cx} {tg : Expr}
def iList (K : PySem.W.Frag) (tl : TE) : TI := fun σ H R => tl σ H fun x H1 => ∃ a, x = .ref a ∧ (∃ xs, SqL K H1 a xs) ∧ R (Itl K a) H1
def iTup (K : PySem.W.Frag) (tl : TE) : TI := fun σ H R => tl σ H fun x H1 => ∃ a, x = .ref a ∧ (∃ xs, SqT K H1 a xs) ∧ R (Itt K a) H1
theorem pi_list {l : Expr} {tl : TE} (hl : PE X l tl) : PI X tg l (iList X.K tl) := by
  intro pins s σ H R I h
  refine thn (hl pins s σ H _ I h) fun v s1 ⟨x, H1, I1, r1, q1⟩ => ?_
  obtain ⟨a, e, ⟨xs, hq⟩, q⟩ := q1
  subst e
  cases r1
  obtain ⟨its, rv, p, hz⟩ := I1.list hq
  refine wpAny_pyIter_list p.isList ?_
  refine ⟨s1.heap.objs.size, [s1.heap.objs.size], _, _, H1, rfl, I1.kept (t' := s1.toks) fun b o e => Heap.get?_push_of_some _ e, turn_list a _, ⟨_, Heap.get?_push_size _ rfl, rfl, rfl⟩, fun b hb => ?_, q⟩
  have e : b = s1.heap.objs.size := by simpa using hb
  subst e
  exact I1.fpOk (Nat.le_refl _) (I1.hok.fresh (Nat.le_refl _))
theorem pi_tup {l : Expr} {tl : TE} (hl : PE X l tl) : PI X tg l (iTup X.K tl) := by
  intro pins s σ H R I h
  refine thn (hl pins s σ H _ I h) fun v s1 ⟨x, H1, I1, r1, q1⟩ => ?_
  obtain ⟨a, e, ⟨xs, hq⟩, q⟩ := q1
  subst e
  cases r1
  obtain ⟨its, rv, p, hz⟩ := I1.tuple hq
  refine wpAny_pyIter_tuple (show s1.heap.IsTuple a its.toArray from p) ?_
  refine ⟨s1.heap.objs.size, [s1.heap.objs.size], _, _, H1, rfl, I1.kept (t' := s1.toks) fun b o e => Heap.get?_push_of_some _ e, turn_tuple a _, ⟨_, Heap.get?_push_size _ rfl, rfl, rfl⟩, fun b hb => ?_, q⟩
  have e : b = s1.heap.objs.size := by simpa using hb
  subst e
  exact I1.fpOk (Nat.le_refl _) (I1.hok.fresh (Nat.le_refl _))
/-- a range object just made, walked -/
theorem range_it {pins : List (Addr × Obj)} {σ : St} {H : Hp} {s : Shared} {R : It → Hp → Prop} {E : Value → Shared → Prop} {lo hi : Int} {t u v : Tok} {tk : Nat} (I : Inv X pins σ H s) (h1 : -(2 ^ 62) ≤ lo) (h2 : lo < 2 ^ 62) (h3 : -(2 ^ 62) ≤ hi) (h4 : hi < 2 ^ 62)
    (q : R (Itr lo (hi - lo).toNat) H) : wpAny (model X.prog X.w) X.A (pyIter (.ref s.heap.objs.size)) (PIE X pins σ tg R) E { s with heap := s.heap.push { cls := .type "range", data := .fields #[.int lo t, .int hi u, .int 1 v] }, toks := tk } := by
  refine wpAny_pyIter_range (IsRange.new ..) (small_one h1 h2 h3 h4) ?_
  have I1 : Inv X pins σ H { s with heap := s.heap.push { cls := .type "range", data := .fields #[.int lo t, .int hi u, .int 1 v] }, toks := tk } := I.kept fun b o e => Heap.get?_push_of_some _ e
  refine ⟨(s.heap.push { cls := .type "range", data := .fields #[.int lo t, .int hi u, .int 1 v] }).objs.size, [(s.heap.push { cls := .type "range", data := .fields #[.int lo t, .int hi u, .int 1 v] }).objs.size], _, _, H, rfl,
    I1.kept (t' := tk) fun b o e => Heap.get?_push_of_some _ e, turn_range _ lo (hi - lo).toNat, ?_, fun b hb => ?_, q⟩
  · have e1 : lo + ((0 : Nat) : Int) * 1 = lo := by simp
    have e2 : (((hi - lo).toNat : Nat) : Int) - ((0 : Nat) : Int) = Builtin.Range.rangeSize lo hi 1 := by rw [rangeSize_one]; split <;> omega
    show IsRangeIter _ _ (lo + ((0 : Nat) : Int) * 1) ((((hi - lo).toNat : Nat) : Int) - ((0 : Nat) : Int)) 1
    rw [e1, e2]
    exact Heap.get?_push_size _ rfl
  · have e : b = (s.heap.push { cls := .type "range", data := .fields #[.int lo t, .int hi u, .int 1 v] }).objs.size := by simpa using hb
    subst e
    exact I1.fpOk (Nat.le_refl _) (I1.hok.fresh (Nat.le_refl _))
def iRng1 (ta : TA) : TI := fun σ H R => ta σ H fun vs H1 => ∃ j : Int, vs = [.int j] ∧ -(2 ^ 62) ≤ j ∧ j < 2 ^ 62 ∧ R (Itr 0 j.toNat) H1
def iRng2 (ta : TA) : TI := fun σ H R => ta σ H fun vs H1 => ∃ i j : Int, vs = [.int i, .int j] ∧ (-(2 ^ 62) ≤ i ∧ i < 2 ^ 62 ∧ -(2 ^ 62) ≤ j ∧ j < 2 ^ 62) ∧ R (Itr i (j - i).toNat) H1
theorem pi_range1 {a : Expr} {ta : TA} {p pos : Pos} (hg : Gl X "range") (hm : X.mg "range" = none) (ha : PA X [a] ta) (hs : starEach [a] X.env = [(false, eval a X.env)] := by rfl) : PI X tg (.Call (.Name "range" p) [a] [] pos) (iRng1 ta) := by
  intro pins s σ H R I h
  refine Call_ (ld_blt I hg hm boot_range (PyProof.Rows.callWith_type1 (thn (ha pos pins s σ H _ I h) fun us s1 ⟨vs, H1, I1, r1, q1⟩ => ?_) hs rfl))
  obtain ⟨j, e, q1, q2, q⟩ := q1
  subst e
  cases r1 with
  | cons r rr =>
    cases rr
    obtain ⟨t, rfl⟩ := r
    exact call_range_1 (range_it I1 (by omega) (by omega) q1 q2 (by simpa using q))
/-! ### for -/
/-- W: the invariant by the turn and a measure; N: what the body is to reach -/
def tFor (wi : TI) (g : TG) (tb : TS) : TS := fun D σ H => wi σ H fun J H1 => ∃ W : Nat → Nat → St → Hp → Prop, (∃ m, W 0 m σ H1) ∧ ∀ i m σ H, W i m σ H →
  (J.stop i H ∧ D.nx σ H) ∨ (J.go i H ∧ ∃ N : St → Hp → Prop, (∀ σ' H', N σ' H' → ∃ m', m' < m ∧ W (i + 1) m' σ' H') ∧ ∀ x H', J.yld i H x H' → g x σ H' fun σ2 H2 => tb { D with nx := N, ct := N, bk := D.nx } σ2 H2)
/-- the records at fp as they stand -/
def pinsAt (fp : List Addr) (h : Heap) : List (Addr × Obj) := fp.filterMap fun b => (h.get? b).map fun o => (b, o)
theorem mem_pinsAt {fp : List Addr} {h : Heap} {b : Addr} {o : Obj} (hb : b ∈ fp) (e : h.get? b = some o) : (b, o) ∈ pinsAt fp h := List.mem_filterMap.mpr ⟨b, hb, by rw [e]; rfl⟩
theorem of_pinsAt {fp : List Addr} {h : Heap} {p : Addr × Obj} (hp : p ∈ pinsAt fp h) : p.1 ∈ fp ∧ h.get? p.1 = some p.2 := by
  obtain ⟨b, hb, e⟩ := List.mem_filterMap.mp hp
  cases q : h.get? b with
  | none => rw [q] at e; cases e
  | some o =>
    rw [q] at e
    have e' : (b, o) = p := Option.some.inj e
    subst e'
    exact ⟨hb, q⟩
theorem Inv.pinned {pins : List (Addr × Obj)} {σ : St} {H : Hp} {s : Shared} {fp : List Addr} (I : Inv X pins σ H s) (hf : ∀ b ∈ fp, FpOk X pins H b) (ho : ∀ b ∈ fp, ∃ o, s.heap.get? b = some o ∧ ∀ v, o.data ≠ .cell v) : Inv X (pins ++ pinsAt fp s.heap) σ H s :=
  I.pins_of fun p hp => (List.mem_append.mp hp).elim (fun z => I.pin p (List.mem_append_right _ z)) fun z => by
    obtain ⟨hb, e⟩ := of_pinsAt z
    obtain ⟨f0, f1, f2, _⟩ := hf p.1 hb
    obtain ⟨o, e', d⟩ := ho p.1 hb
    rw [e] at e'; cases e'
    exact ⟨e, f0, f1, f2, d⟩
theorem Inv.unpinned {pins pl : List (Addr × Obj)} {σ : St} {H : Hp} {s : Shared} (I : Inv X (pins ++ pl) σ H s) : Inv X pins σ H s := I.pins_of fun p hp => I.pin p (List.mem_append_right _ (List.mem_append_left _ hp))
theorem ps_for {iter : Expr} {body : List Stmt} {wi : TI} {g : TG} {tb : TS} {pos : Pos} (hp : PassesOwn (model X.prog X.w) X.A X.env X.xe) (hc : X.calm = true) (hi : PI X tg iter wi) (hg : PG X tg g) (hb : PSs X body tb)
    (hs : ∀ x, foldedSetIterable iter X.env x = pure x := by intro _; rfl) : PS X (.For tg iter body [] pos) (tFor wi g tb) := by
  intro pins s σ H D I h
  refine wpAny_For (thn (hi pins s σ H _ I h) fun v s1 h1 => thn h1 fun itv s2 h2 => ?_) hs
  obtain ⟨it, fp, tn, J, H2, e, I2, T, st2, f2, W, ⟨m0, w0⟩, turn⟩ := h2
  subst e
  -- what stays true of the iterator's objects through the loop
  have stat : ∀ {H' : Hp}, (∀ b ∈ fp, H' b = none) → ∀ b ∈ fp, FpOk X pins H' b := fun hn b hb => ⟨hn b hb, (f2 b hb).2⟩
  refine codeAny_forLoop_any (fun n s' => ∃ i σ' H', Inv X pins σ' H' s' ∧ tn i s'.heap ∧ (∀ b ∈ fp, H' b = none) ∧ W i n σ' H') ?_ m0 ⟨0, σ, H2, I2, st2, fun b hb => (f2 b hb).1, w0⟩
  rintro n s3 ⟨i, σ3, H3, I3, st3, fr3, w3⟩
  rcases turn i n σ3 H3 w3 with ⟨stop, qn⟩ | ⟨go, N, hN, step⟩
  · refine wpAny_passesOwn hp (thn (T.done X rfl rfl rfl hc i pins s3 σ3 H3 X.xe I3 (stat fr3) st3 stop) fun r s4 ⟨hr, I4⟩ => ?_)
    subst hr
    exact wpAny_execs_nil ⟨σ3, H3, I4, qn⟩
  · refine wpAny_passesOwn hp (thn (T.item X rfl rfl rfl hc i pins s3 σ3 H3 X.xe I3 (stat fr3) st3 go) fun r s4 ⟨u, hr, h4⟩ => ?_)
    subst hr
    refine wpAny_passesOwn hp (thn h4 fun _ s5 ⟨x, H5, I5, r5, y5, st5, fr5⟩ => ?_)
    have I5' := I5.pinned (stat fr5) (T.obj _ _ st5)
    refine wpAny_passesOwn hp (thn (hg _ s5 σ3 H5 x u _ I5' r5 (step x H5 y5)) fun _ s6 ⟨σ6, H6, I6, q6⟩ => ?_)
    refine wpAny_passesOwn hp (thn (hb _ s6 σ6 H6 _ I6 q6) fun f s7 q7 => ?_)
    have again : ∀ {σ7 : St} {H7 : Hp}, Inv X (pins ++ pinsAt fp s5.heap) σ7 H7 s7 → N σ7 H7 → ∃ m, m < n ∧ ∃ i σ' H', Inv X pins σ' H' s7 ∧ tn i s7.heap ∧ (∀ b ∈ fp, H' b = none) ∧ W i m σ' H' := fun {σ7 H7} I7 n7 => by
      obtain ⟨m', hm, w7⟩ := hN σ7 H7 n7
      refine ⟨m', hm, i + 1, σ7, H7, I7.unpinned, T.keep _ _ _ st5 fun b hb o e => (I7.pin (b, o) (List.mem_append_right _ (List.mem_append_right _ (mem_pinsAt hb e)))).1, fun b hb => ?_, w7⟩
      obtain ⟨o, e, d⟩ := T.obj _ _ st5 b hb
      exact (I7.pin (b, o) (List.mem_append_right _ (List.mem_append_right _ (mem_pinsAt hb e)))).2.1
    cases f with
    | next => obtain ⟨σ7, H7, I7, n7⟩ := q7; exact again I7 n7
    | cont => obtain ⟨σ7, H7, I7, n7⟩ := q7; exact again I7 n7
    | brk => obtain ⟨σ7, H7, I7, q7⟩ := q7; exact ⟨σ7, H7, I7.unpinned, q7⟩
    | ret v => obtain ⟨x7, σ7, H7, I7, r7, q7⟩ := q7; exact ⟨x7, σ7, H7, I7.unpinned, r7, q7⟩
end

/-! ### the forms one uses -/
/-- over a list that the body leaves as it is -/
theorem for_list {K : PySem.W.Frag} {a : Addr} {xs : List V} {g : TG} {tb : TS} {D : Ends} {σ : St} {H : Hp} (Pv : Nat → St → Hp → Prop) (h0 : Pv 0 σ H) (hl : ∀ i σ H, i ≤ xs.length → Pv i σ H → SqL K H a xs)
    (hs : ∀ i x σ H, xs[i]? = some x → Pv i σ H → g x σ H fun σ2 H2 => tb { D with nx := Pv (i + 1), ct := Pv (i + 1), bk := D.nx } σ2 H2) (hd : ∀ σ H, Pv xs.length σ H → D.nx σ H) :
    ∃ W : Nat → Nat → St → Hp → Prop, (∃ m, W 0 m σ H) ∧ ∀ i m σ H, W i m σ H →
      ((Itl K a).stop i H ∧ D.nx σ H) ∨ ((Itl K a).go i H ∧ ∃ N : St → Hp → Prop, (∀ σ' H', N σ' H' → ∃ m', m' < m ∧ W (i + 1) m' σ' H') ∧ ∀ x H', (Itl K a).yld i H x H' → g x σ H' fun σ2 H2 => tb { D with nx := N, ct := N, bk := D.nx } σ2 H2) := by
  refine ⟨fun i m σ H => m = xs.length - i ∧ i ≤ xs.length ∧ Pv i σ H, ⟨xs.length, by simp, Nat.zero_le _, h0⟩, ?_⟩
  rintro i m σ H ⟨rfl, hi, p⟩
  have q := hl i σ H hi p
  by_cases hlt : i < xs.length
  · refine .inr ⟨⟨xs, xs[i], q, by simp [hlt]⟩, Pv (i + 1), fun σ' H' p' => ⟨xs.length - (i + 1), by omega, rfl, hlt, p'⟩, fun x H' y => ?_⟩
    obtain ⟨e, y⟩ := y
    subst e
    exact hs i x σ _ (y xs q) p
  · have e : i = xs.length := by omega
    subst e
    exact .inl ⟨⟨xs, q, Nat.le_refl _⟩, hd σ H p⟩
theorem for_tup {K : PySem.W.Frag} {a : Addr} {xs : List V} {g : TG} {tb : TS} {D : Ends} {σ : St} {H : Hp} (Pv : Nat → St → Hp → Prop) (h0 : Pv 0 σ H) (hl : ∀ i σ H, i ≤ xs.length → Pv i σ H → SqT K H a xs)
    (hs : ∀ i x σ H, xs[i]? = some x → Pv i σ H → g x σ H fun σ2 H2 => tb { D with nx := Pv (i + 1), ct := Pv (i + 1), bk := D.nx } σ2 H2) (hd : ∀ σ H, Pv xs.length σ H → D.nx σ H) :
    ∃ W : Nat → Nat → St → Hp → Prop, (∃ m, W 0 m σ H) ∧ ∀ i m σ H, W i m σ H →
      ((Itt K a).stop i H ∧ D.nx σ H) ∨ ((Itt K a).go i H ∧ ∃ N : St → Hp → Prop, (∀ σ' H', N σ' H' → ∃ m', m' < m ∧ W (i + 1) m' σ' H') ∧ ∀ x H', (Itt K a).yld i H x H' → g x σ H' fun σ2 H2 => tb { D with nx := N, ct := N, bk := D.nx } σ2 H2) := by
  refine ⟨fun i m σ H => m = xs.length - i ∧ i ≤ xs.length ∧ Pv i σ H, ⟨xs.length, by simp, Nat.zero_le _, h0⟩, ?_⟩
  rintro i m σ H ⟨rfl, hi, p⟩
  have q := hl i σ H hi p
  by_cases hlt : i < xs.length
  · refine .inr ⟨⟨xs, xs[i], q, by simp [hlt]⟩, Pv (i + 1), fun σ' H' p' => ⟨xs.length - (i + 1), by omega, rfl, hlt, p'⟩, fun x H' y => ?_⟩
    obtain ⟨e, y⟩ := y
    subst e
    exact hs i x σ _ (y xs q) p
  · have e : i = xs.length := by omega
    subst e
    exact .inl ⟨⟨xs, q, Nat.le_refl _⟩, hd σ H p⟩
theorem for_range {lo : Int} {n : Nat} {g : TG} {tb : TS} {D : Ends} {σ : St} {H : Hp} (Pv : Nat → St → Hp → Prop) (h0 : Pv 0 σ H)
    (hs : ∀ i σ H, i < n → Pv i σ H → g (.int (lo + i)) σ H fun σ2 H2 => tb { D with nx := Pv (i + 1), ct := Pv (i + 1), bk := D.nx } σ2 H2) (hd : ∀ σ H, Pv n σ H → D.nx σ H) :
    ∃ W : Nat → Nat → St → Hp → Prop, (∃ m, W 0 m σ H) ∧ ∀ i m σ H, W i m σ H →
      ((Itr lo n).stop i H ∧ D.nx σ H) ∨ ((Itr lo n).go i H ∧ ∃ N : St → Hp → Prop, (∀ σ' H', N σ' H' → ∃ m', m' < m ∧ W (i + 1) m' σ' H') ∧ ∀ x H', (Itr lo n).yld i H x H' → g x σ H' fun σ2 H2 => tb { D with nx := N, ct := N, bk := D.nx } σ2 H2) := by
  refine ⟨fun i m σ H => m = n - i ∧ i ≤ n ∧ Pv i σ H, ⟨n, by simp, Nat.zero_le _, h0⟩, ?_⟩
  rintro i m σ H ⟨rfl, hi, p⟩
  by_cases hlt : i < n
  · refine .inr ⟨hlt, Pv (i + 1), fun σ' H' p' => ⟨n - (i + 1), by omega, rfl, hlt, p'⟩, fun x H' y => ?_⟩
    obtain ⟨e, y⟩ := y
    subst e y
    exact hs i σ _ hlt p
  · have e : i = n := by omega
    subst e
    exact .inl ⟨Nat.le_refl _, hd σ H p⟩
end L2

namespace L2
open PySem PySem.Spec PyProof.Rows

abbrev R2 := V → V → Hp → VK → Prop
/-- a two-place operation on values: f is binaryOp op, inplaceOp op or compareOp op -/
def OpR (X : Cx) (f : Value → Value → Sem Value) (r : R2) : Prop :=
  ∀ (pins : List (Addr × Obj)) (s : Shared) (σ : St) (H : Hp) (x y : V) (v u : Value) (Q : VK), Inv X pins σ H s → RelV x v → RelV y u → r x y H Q →
    wpAny (model X.prog X.w) X.A (f v u) (EP X pins σ Q) X.xe s
/-- a one-place operation -/
def UnR (X : Cx) (f : Value → Sem Value) (r : V → Hp → VK → Prop) : Prop :=
  ∀ (pins : List (Addr × Obj)) (s : Shared) (σ : St) (H : Hp) (x : V) (v : Value) (Q : VK), Inv X pins σ H s → RelV x v → r x H Q →
    wpAny (model X.prog X.w) X.A (f v) (EP X pins σ Q) X.xe s
/-- a call of a value that is known (a builtin, a type) with values -/
def CallR (X : Cx) (f : Value) (r : List V → Hp → VK → Prop) : Prop :=
  ∀ (pins : List (Addr × Obj)) (s : Shared) (σ : St) (H : Hp) (xs : List V) (us : List Value) (Q : VK), Inv X pins σ H s → Vals xs us → r xs H Q →
    wpAny (model X.prog X.w) X.A (call f us) (EP X pins σ Q) X.xe s
/-- a value's truth -/
def TruR (X : Cx) (r : V → Hp → (Bool → Hp → Prop) → Prop) : Prop :=
  ∀ (pins : List (Addr × Obj)) (s : Shared) (σ : St) (H : Hp) (x : V) (v : Value) (Q : Bool → Hp → Prop), Inv X pins σ H s → RelV x v → r x H Q →
    wpAny (model X.prog X.w) X.A (truthy v) (TP X pins σ Q) X.xe s

def tOp (r : R2) (ta tb : TE) : TE := fun σ H Q => ta σ H fun x H1 => tb σ H1 fun y H2 => r x y H2 Q
def tUn (r : V → Hp → VK → Prop) (ta : TE) : TE := fun σ H Q => ta σ H fun x H1 => r x H1 Q
/-- ints in, under C, and a value out -/
def rI (C : Int → Int → Prop) (g : Int → Int → V) : R2 := fun x y H Q => ∃ i j, x = .int i ∧ y = .int j ∧ C i j ∧ Q (g i j) H
def rI0 (g : Int → Int → V) : R2 := fun x y H Q => ∃ i j, x = .int i ∧ y = .int j ∧ Q (g i j) H
def rU (g : Int → V) : V → Hp → VK → Prop := fun x H Q => ∃ i, x = .int i ∧ Q (g i) H

section
variable {X : Cx} {a b c : Expr} {ta tb tc : TE} {pos : Pos}

theorem binT (ha : PE X a ta) (hb : PE X b tb) {pins : List (Addr × Obj)} {s : Shared} {σ : St} {H : Hp} {R : V → V → Hp → Prop} (I : Inv X pins σ H s)
    (h : ta σ H fun x H1 => tb σ H1 fun y H2 => R x y H2) {Q : Value → Shared → Prop} {f : Value → Value → Sem Value}
    (hf : ∀ v u s2 x y H2, Inv X pins σ H2 s2 → RelV x v → RelV y u → R x y H2 → wpAny (model X.prog X.w) X.A (f v u) Q X.xe s2) :
    wpAny (model X.prog X.w) X.A (eval a X.env) (fun v s₁ => wpAny (model X.prog X.w) X.A (eval b X.env) (fun u s₂ => wpAny (model X.prog X.w) X.A (f v u) Q X.xe s₂) X.xe s₁) X.xe s := by
  refine thn (ha pins s σ H _ I h) fun v s1 ⟨x, H1, I1, r1, q1⟩ => ?_
  refine thn (hb pins s1 σ H1 _ I1 q1) fun u s2 ⟨y, H2, I2, r2, q2⟩ => ?_
  exact hf v u s2 x y H2 I2 r1 r2 q2

theorem pe_op {op : Operator} {r : R2} (ho : OpR X (binaryOp op) r) (ha : PE X a ta) (hb : PE X b tb) : PE X (.BinOp a op b pos) (tOp r ta tb) := by
  intro pins s σ H Q I h
  exact wpAny_BinOp (binT ha hb I h fun v u s2 x y H2 I2 rx ry q => ho pins s2 σ H2 x y v u Q I2 rx ry q)
theorem pe_un {op : UnaryOp} {r : V → Hp → VK → Prop} (ho : UnR X (unaryOp op) r) (ha : PE X a ta) : PE X (.UnaryOp op a pos) (tUn r ta) := by
  intro pins s σ H Q I h
  exact UnaryOp_ (thn (ha pins s σ H _ I h) fun v s1 ⟨x, H1, I1, r1, q1⟩ => ho pins s1 σ H1 x v Q I1 r1 q1)
/-! ### ints -/
theorem opI {f : Value → Value → Sem Value} {C : Int → Int → Prop} {g : Int → Int → Int}
    (rule : ∀ (i j : Int) (t u : Tok) (s : Shared) (Q : Value → Shared → Prop) (E : Value → Shared → Prop), C i j → Q (.int (g i j) s.toks) { s with toks := s.toks + 1 } → wpAny (model X.prog X.w) X.A (f (.int i t) (.int j u)) Q E s) :
    OpR X f (rI C fun i j => .int (g i j)) := by
  intro pins s σ H x y v u Q I rx ry h
  obtain ⟨i, j, rfl, rfl, hc, q⟩ := h
  obtain ⟨t, rfl⟩ := rx
  obtain ⟨t', rfl⟩ := ry
  exact rule i j t t' s _ _ hc ⟨.int (g i j), H, I.tok _, ⟨_, rfl⟩, q⟩
theorem opI0 {f : Value → Value → Sem Value} {g : Int → Int → Int}
    (rule : ∀ (i j : Int) (t u : Tok) (s : Shared) (Q : Value → Shared → Prop) (E : Value → Shared → Prop), Q (.int (g i j) s.toks) { s with toks := s.toks + 1 } → wpAny (model X.prog X.w) X.A (f (.int i t) (.int j u)) Q E s) :
    OpR X f (rI0 fun i j => .int (g i j)) := by
  intro pins s σ H x y v u Q I rx ry h
  obtain ⟨i, j, rfl, rfl, q⟩ := h
  obtain ⟨t, rfl⟩ := rx
  obtain ⟨t', rfl⟩ := ry
  exact rule i j t t' s _ _ ⟨.int (g i j), H, I.tok _, ⟨_, rfl⟩, q⟩
theorem opB0 {f : Value → Value → Sem Value} {g : Int → Int → Bool}
    (rule : ∀ (i j : Int) (t u : Tok) (s : Shared) (Q : Value → Shared → Prop) (E : Value → Shared → Prop), Q (.bool (g i j)) s → wpAny (model X.prog X.w) X.A (f (.int i t) (.int j u)) Q E s) :
    OpR X f (rI0 fun i j => .bl (g i j)) := by
  intro pins s σ H x y v u Q I rx ry h
  obtain ⟨i, j, rfl, rfl, q⟩ := h
  obtain ⟨t, rfl⟩ := rx
  obtain ⟨t', rfl⟩ := ry
  exact rule i j t t' s _ _ ⟨.bl (g i j), H, I, rfl, q⟩

def CDiv (i j : Int) : Prop := 0 < j ∧ j < 1073741824
def CDivN (i j : Int) : Prop := j ≠ 0 ∧ j.natAbs < 1073741824
def CPow (i j : Int) : Prop := 0 ≤ j ∧ j ≤ 1000000 ∧ i.natAbs < 2 ^ 64
def CMul (i j : Int) : Prop := (-(2 ^ 64) < i ∧ i < 2 ^ 64) ∨ (-(2 ^ 64) < j ∧ j < 2 ^ 64)
theorem CMul.ok {i j : Int} (h : CMul i j) : IntMulOk i j := by
  rcases h with ⟨h1, h2⟩ | ⟨h1, h2⟩
  · exact .of_left (intBits_le_64 h1 h2)
  · exact .of_right (intBits_le_64 h1 h2)
theorem op_add : OpR X (binaryOp .Add) (rI0 fun i j => .int (i + j)) := opI0 fun _ _ _ _ _ _ _ q => add_int q
/-- % by a positive divisor of any size -/
theorem op_mod : OpR X (binaryOp .Mod) (rI (fun _ j => 0 < j) fun i j => .int (i % j)) := opI fun i j _ _ _ _ _ hc q => by
  have h1 : (0 : Int) < j := hc
  exact mod_int' (by omega) (by rw [Int.fmod_eq_emod_of_nonneg i (by omega)]; exact q)
theorem op_pow : OpR X (binaryOp .Pow) (rI CPow fun i j => .int (i ^ j.toNat)) := opI fun _ _ _ _ _ _ _ hc q => pow_int_small hc.1 hc.2.1 hc.2.2 q
theorem unI {f : Value → Sem Value} {g : Int → Int}
    (rule : ∀ (i : Int) (t : Tok) (s : Shared) (Q : Value → Shared → Prop) (E : Value → Shared → Prop), Q (.int (g i) s.toks) { s with toks := s.toks + 1 } → wpAny (model X.prog X.w) X.A (f (.int i t)) Q E s) :
    UnR X f (rU fun i => .int (g i)) := by
  intro pins s σ H x v Q I rx h
  obtain ⟨i, rfl, q⟩ := h
  obtain ⟨t, rfl⟩ := rx
  exact rule i t s _ _ ⟨.int (g i), H, I.tok _, ⟨_, rfl⟩, q⟩
theorem un_neg : UnR X (unaryOp .USub) (rU fun i => .int (-i)) := unI fun _ _ _ _ _ q => neg_int q
/-! ### bools among ints: n += (a < b) -/
end

/-! ### comparisons -/
/-- the scalars that == tells apart as data does -/
def scal : V → V → Bool
  | .non, .non => true | .non, .int _ => true | .int _, .non => true | .non, .bl _ => true | .bl _, .non => true | .non, .str _ => true | .str _, .non => true
  | .int _, .int _ => true | .bl _, .bl _ => true | .str _, .str _ => true | .byt _, .byt _ => true
  | .int _, .str _ => true | .str _, .int _ => true | .bl _, .str _ => true | .str _, .bl _ => true
  | _, _ => false
def rEq : R2 := fun x y H Q => scal x y = true ∧ Q (.bl (decide (x = y))) H
def rNe : R2 := fun x y H Q => scal x y = true ∧ Q (.bl (!decide (x = y))) H

theorem dec_int {i j : Int} : decide (V.int i = V.int j) = (i == j) := by
  rw [Bool.eq_iff_iff]
  simp
theorem dec_bl {i j : Bool} : decide (V.bl i = V.bl j) = (i == j) := by
  rw [Bool.eq_iff_iff]
  simp
theorem dec_str {i j : Str} : decide (V.str i = V.str j) = (i == j) := by
  rw [Bool.eq_iff_iff]
  simp
theorem dec_byt {i j : Array UInt8} : decide (V.byt i = V.byt j) = (i.toList == j.toList) := by
  rw [Bool.eq_iff_iff]
  cases i
  cases j
  simp

section
variable {X : Cx} {a b c : Expr} {ta tb tc : TE} {pos : Pos}
theorem fin_bl {pins : List (Addr × Obj)} {σ : St} {H : Hp} {s : Shared} {Q : VK} {k k' : Bool} (I : Inv X pins σ H s) (q : Q (.bl k) H) (e : k = k') : EP X pins σ Q (.bool k') s := by
  subst e
  exact ⟨.bl k, H, I, rfl, q⟩
theorem op_eq : OpR X (compareOp .Eq) rEq := by
  intro pins s σ H x y v u Q I rx ry h
  obtain ⟨hs, q⟩ := h
  cases x with
  | non =>
    cases rx
    cases y with
    | non => cases ry; exact PySem.EqNone.eq_none_none (fin_bl I q (by simp))
    | bl j => cases ry; exact PySem.EqNone.eq_none_bool (fin_bl I q (by simp))
    | int j => obtain ⟨t', rfl⟩ := ry; exact PySem.EqNone.eq_none_int (fin_bl I q (by simp))
    | str j => obtain ⟨t', rfl⟩ := ry; exact PySem.EqNone.eq_none_str (fin_bl I q (by simp))
    | _ => exact absurd (show false = true from hs) Bool.false_ne_true
  | bl i =>
    cases rx
    cases y with
    | non => cases ry; exact PySem.EqNone.eq_bool_none (fin_bl I q (by simp))
    | bl j => cases ry; exact eq_bool (fin_bl I q dec_bl)
    | str j => obtain ⟨t', rfl⟩ := ry; exact PySem.EqMixed.eq_bool_str (fin_bl I q (by simp))
    | _ => exact absurd (show false = true from hs) Bool.false_ne_true
  | int i =>
    obtain ⟨t, rfl⟩ := rx
    cases y with
    | non => cases ry; exact PySem.EqNone.eq_int_none (fin_bl I q (by simp))
    | int j => obtain ⟨t', rfl⟩ := ry; exact eq_int (fin_bl I q dec_int)
    | str j => obtain ⟨t', rfl⟩ := ry; exact PySem.EqMixed.eq_int_str (fin_bl I q (by simp))
    | _ => exact absurd (show false = true from hs) Bool.false_ne_true
  | str i =>
    obtain ⟨t, rfl⟩ := rx
    cases y with
    | non => cases ry; exact PySem.EqNone.eq_str_none (fin_bl I q (by simp))
    | bl j => cases ry; exact PySem.EqMixed.eq_str_bool (fin_bl I q (by simp))
    | int j => obtain ⟨t', rfl⟩ := ry; exact PySem.EqMixed.eq_str_int (fin_bl I q (by simp))
    | str j => obtain ⟨t', rfl⟩ := ry; exact eq_str (fin_bl I q dec_str)
    | _ => exact absurd (show false = true from hs) Bool.false_ne_true
  | byt i =>
    obtain ⟨t, rfl⟩ := rx
    cases y with
    | byt j => obtain ⟨t', rfl⟩ := ry; exact PySem.W.eq_bytes (fin_bl I q dec_byt)
    | _ => exact absurd (show false = true from hs) Bool.false_ne_true
  | _ => cases y <;> exact absurd (show false = true from hs) Bool.false_ne_true
theorem op_ne : OpR X (compareOp .NotEq) rNe := by
  intro pins s σ H x y v u Q I rx ry h
  obtain ⟨hs, q⟩ := h
  cases x with
  | non =>
    cases rx
    cases y with
    | non => cases ry; exact PySem.EqNone.ne_none_none (fin_bl I q (by simp))
    | bl j => cases ry; exact PySem.EqNone.ne_none_bool (fin_bl I q (by simp))
    | int j => obtain ⟨t', rfl⟩ := ry; exact PySem.EqNone.ne_none_int (fin_bl I q (by simp))
    | str j => obtain ⟨t', rfl⟩ := ry; exact PySem.EqNone.ne_none_str (fin_bl I q (by simp))
    | _ => exact absurd (show false = true from hs) Bool.false_ne_true
  | bl i =>
    cases rx
    cases y with
    | non => cases ry; exact PySem.EqNone.ne_bool_none (fin_bl I q (by simp))
    | bl j => cases ry; exact ne_bool (fin_bl I q (congrArg not dec_bl))
    | str j => obtain ⟨t', rfl⟩ := ry; exact PySem.EqMixed.ne_bool_str (fin_bl I q (by simp))
    | _ => exact absurd (show false = true from hs) Bool.false_ne_true
  | int i =>
    obtain ⟨t, rfl⟩ := rx
    cases y with
    | non => cases ry; exact PySem.EqNone.ne_int_none (fin_bl I q (by simp))
    | int j => obtain ⟨t', rfl⟩ := ry; exact ne_int (fin_bl I q (congrArg not dec_int))
    | str j => obtain ⟨t', rfl⟩ := ry; exact PySem.EqMixed.ne_int_str (fin_bl I q (by simp))
    | _ => exact absurd (show false = true from hs) Bool.false_ne_true
  | str i =>
    obtain ⟨t, rfl⟩ := rx
    cases y with
    | non => cases ry; exact PySem.EqNone.ne_str_none (fin_bl I q (by simp))
    | bl j => cases ry; exact PySem.EqMixed.ne_str_bool (fin_bl I q (by simp))
    | int j => obtain ⟨t', rfl⟩ := ry; exact PySem.EqMixed.ne_str_int (fin_bl I q (by simp))
    | str j => obtain ⟨t', rfl⟩ := ry; exact ne_str (fin_bl I q (congrArg not dec_str))
    | _ => exact absurd (show false = true from hs) Bool.false_ne_true
  | byt i =>
    obtain ⟨t, rfl⟩ := rx
    cases y with
    | byt j => obtain ⟨t', rfl⟩ := ry; exact PySem.W.ne_bytes (fin_bl I q (congrArg not dec_byt))
    | _ => exact absurd (show false = true from hs) Bool.false_ne_true
  | _ => cases y <;> exact absurd (show false = true from hs) Bool.false_ne_true

theorem op_lt : OpR X (compareOp .Lt) (rI0 fun i j => .bl (decide (i < j))) := opB0 fun _ _ _ _ _ _ _ q => lt_int q
/-- is None, is not None: the right side a value none -/
theorem op_isN : OpR X (compareOp .Is) (fun x y H Q => y = .non ∧ Q (.bl (decide (x = .non))) H) := by
  intro pins s σ H x y v u Q I rx ry h
  obtain ⟨rfl, q⟩ := h
  cases ry
  refine is_none_gen (fin_bl I q ?_)
  cases x <;> first
    | (cases rx; rfl)
    | (obtain ⟨t, rfl⟩ := rx; rfl)
theorem op_notN : OpR X (compareOp .IsNot) (fun x y H Q => y = .non ∧ Q (.bl (!decide (x = .non))) H) := by
  intro pins s σ H x y v u Q I rx ry h
  obtain ⟨rfl, q⟩ := h
  cases ry
  refine isnot_none_gen (fin_bl I q ?_)
  cases x <;> first
    | (cases rx; rfl)
    | (obtain ⟨t, rfl⟩ := rx; rfl)

/-- is, is not of two objects that are tracked lists or instances -/
def isObj : HO → Bool
  | .lst _ => true
  | .ins _ _ _ => true
  | _ => false
theorem nomark (b : Expr) {op : CmpOp} (h : op ≠ .In := by decide) (h2 : op ≠ .NotIn := by decide) : behindInMarks op b = false := by
  have e1 : (op == CmpOp.In) = false := by cases op <;> first | rfl | exact absurd rfl h
  have e2 : (op == CmpOp.NotIn) = false := by cases op <;> first | rfl | exact absurd rfl h2
  cases b <;> simp [behindInMarks, e1, e2]
/-- a comparison as a value; hm: nomark b, or (for in, not in) by with_unfolding_all rfl -/
theorem pe_cmpR {op : CmpOp} {r : R2} (ho : OpR X (compareOp op) r) (ha : PE X a ta) (hb : PE X b tb) (hm : behindInMarks op b = false) : PE X (.Compare a [op] [b] pos) (tOp r ta tb) := by
  intro pins s σ H Q I h
  exact wpAny_Compare1 (binT ha hb I h fun v u s2 x y H2 I2 rx ry q => ho pins s2 σ H2 x y v u Q I2 rx ry q) hm
/-- a reading of a value as a test -/
def tTest (t : TE) : TT := fun σ H Q => t σ H fun x H' => ∃ k, x = .bl k ∧ Q k H'
theorem pt_cmpR {op : CmpOp} {r : R2} (ho : OpR X (compareOp op) r) (ha : PE X a ta) (hb : PE X b tb) (hm : behindInMarks op b = false) : PT X (.Compare a [op] [b] pos) (tTest (tOp r ta tb)) := by
  intro pins s σ H Q I h
  refine wpAny_isTrue_Compare1 (thn (ha pins s σ H _ I h) fun v s1 ⟨x, H1, I1, r1, q1⟩ => thn (hb pins s1 σ H1 _ I1 q1) fun u s2 ⟨y, H2, I2, r2, q2⟩ =>
    thn (ho pins s2 σ H2 x y v u _ I2 r1 r2 q2) fun c s3 ⟨z, H3, I3, r3, k, e, q3⟩ => ?_) hm
  subst e
  cases r3
  exact wpAny_truthy_bool ⟨H3, I3, q3⟩
/-- a op1 b op2 c -/
def tChain (r r' : R2) (ta tb tc : TE) : TE := fun σ H Q => ta σ H fun x H1 => tb σ H1 fun y H2 => r x y H2 fun z H3 => ∃ k, z = .bl k ∧
  (if k = true then tc σ H3 fun w' H4 => r' y w' H4 Q else Q (.bl false) H3)
/-! ### truth -/
/-- a value's truth by the abstract heap -/
def TruV (K : PySem.W.Frag) (x : V) (H : Hp) (k : Bool) : Prop :=
  match x with
  | .non => k = false
  | .bl b => k = b
  | .int i => k = (i != 0)
  | .str y => y.length ≤ sizeLine ∧ k = ((y.length : Int) != 0)
  | .byt y => y.size ≤ sizeLine ∧ k = ((y.size : Int) != 0)
  | .ref p => (∃ xs, SqL K H p xs ∧ k = !xs.isEmpty) ∨ (∃ xs, SqT K H p xs ∧ k = !xs.isEmpty) ∨ ∃ kvs, H p = some (.dK kvs) ∧ k = !kvs.isEmpty
  | _ => False
theorem line63 : (sizeLine : Nat) < 2 ^ 63 := by rw [sizeLine_eq]; decide
/-! ### strs and bytes -/
def PlainIxT (b : Expr) : Prop := ∀ o i, subscripted b false o i = operate [o, i] (getItem o i)
/-! ### scalar builtins, by CallR -/
theorem vals1 {x : V} {us : List Value} (r : Vals [x] us) : ∃ u, us = [u] ∧ RelV x u := by
  cases r with
  | cons r1 r2 => cases r2; exact ⟨_, rfl, r1⟩
theorem vals2 {x y : V} {us : List Value} (r : Vals [x, y] us) : ∃ u w', us = [u, w'] ∧ RelV x u ∧ RelV y w' := by
  cases r with
  | cons r1 r2 =>
    cases r2 with
    | cons r3 r4 => cases r4; exact ⟨_, _, rfl, r1, r3⟩
theorem call_int1 : CallR X (.type "int") (fun xs H Q => (∃ i, xs = [.int i] ∧ Q (.int i) H) ∨ ∃ k, xs = [.bl k] ∧ Q (.int (if k then 1 else 0)) H) := by
  intro pins s σ H xs us Q I r h
  rcases h with ⟨i, rfl, q⟩ | ⟨k, rfl, q⟩
  · obtain ⟨u, rfl, t, rfl⟩ := vals1 r
    exact call_int_int ⟨.int i, H, I, ⟨_, rfl⟩, q⟩
  · obtain ⟨u, rfl, r1⟩ := vals1 r
    cases r1
    exact call_int_bool ⟨.int (if k then 1 else 0), H, I.tok _, ⟨_, rfl⟩, q⟩
/-- len of a str, a bytes, a list, a tuple -/
def LenV (K : PySem.W.Frag) (x : V) (H : Hp) (n : Nat) : Prop :=
  match x with
  | .str y => y.length ≤ sizeLine ∧ n = y.length
  | .byt y => y.size ≤ sizeLine ∧ n = y.size
  | .ref p => (∃ xs, SqL K H p xs ∧ n = xs.length) ∨ ∃ xs, SqT K H p xs ∧ n = xs.length
  | _ => False
end
end L2

namespace L2
open PySem PySem.Spec PyProof.Rows

/-! ### an instance, its attributes a map -/
structure ObjM (h : Heap) (x dx C : Addr) (mA : Str → Option Value) : Prop where
  obj : h.get? x = some (PySem.W.instObj C dx)
  ns : h.Ns1 dx mA
  ne : dx ≠ x

theorem lookIn_ns {h : Heap} {dx : Addr} {mA : Str → Option Value} (n : h.Ns1 dx mA) : ∃ od, h.get? dx = some od ∧ ∀ name, PySem.W.lookIn name od = some (mA name) := by
  obtain ⟨o, es, ep, ho, hd, hk, _, hm⟩ := n
  refine ⟨o, ho, fun name => ?_⟩
  have e := hm name
  unfold nsFind findBy at e
  rw [← Array.find?_toList] at e
  unfold PySem.W.lookIn
  rw [hd]
  dsimp only
  split
  · rename_i y q
    rw [q] at e
    exact congrArg some e
  · rename_i q
    rw [q] at e
    have a : es.toList.any (·.refKey) = false := by
      rw [List.any_eq_false]
      intro y hy
      obtain ⟨z, t, hkey⟩ := hk y (Array.mem_toList_iff.mp hy)
      simp [DictEntry.refKey, hkey]
    have a' : ¬ es.toList.any (·.refKey) = true := by rw [a]; exact Bool.false_ne_true
    rw [if_neg a']
    exact congrArg some e

theorem ObjM.look {h : Heap} {x dx C : Addr} {mA : Str → Option Value} (I : ObjM h x dx C mA) : ∃ od, PySem.W.InstAt h x (PySem.W.instObj C dx) C (some od) ∧ ∀ name, PySem.W.lookIn name od = some (mA name) :=
  let ⟨od, ho, hl⟩ := lookIn_ns I.ns
  ⟨od, ⟨I.obj, rfl, rfl, ho⟩, hl⟩

section
variable {prog : Program} {w : World} {A : Around} {E : Value → Shared → Prop} {s : Shared} {K : PySem.W.Frag} {x dx C f : Addr} {mA : Str → Option Value} {name : Str} {v : Value}

end

/-! ### the attributes as a list of pairs -/
def putF (f : Str) (v : V) : List (Str × V) → List (Str × V)
  | [] => [(f, v)]
  | (g, x) :: r => if g = f then (g, v) :: r else (g, x) :: putF f v r
section
variable {P : Program} {w : World} {H H' : Hp} {h h' : Heap} {a C dx : Addr} {fs fs' : List (Str × V)}
theorem ins_get (hok : HOk P w H h) (e : H a = some (.ins C dx fs)) : ∃ mA, ObjM h a dx C mA ∧ (∀ f, RelO (fs.lookup f) (mA f)) ∧ PySem.Within mA (fs.map (·.1)) ∧ fs.length ≤ 1000 ∧ H dx = some (.own a) := by
  obtain ⟨d, z, ne, ob, mA, n, r, q⟩ := (show ObjOk P w H h a (.ins C dx fs) from hok a _ e)
  exact ⟨mA, ⟨ob, n, ne⟩, r, q, z, d⟩
end

/-! ### what of the text a class must have -/
structure Cls (K : PySem.W.Frag) (C : Addr) : Prop where
  pg : PySem.W.plainGet K C Str.empty = true
  hd : PySem.W.hasDictIn K C = true
  po : PySem.W.plainOver K C = true
  sa : PySem.W.findIn K (.ref C) "__setattr__" = some (some (.builtin "object.__setattr__"))
theorem Cls.get {K : PySem.W.Frag} {C : Addr} (c : Cls K C) (f : Str) : PySem.W.plainGet K C f = true := c.pg
/-- no class of it has the name -/
def NoAttr (K : PySem.W.Frag) (C : Addr) (f : Str) : Prop := PySem.W.findIn K (.ref C) f = some none
/-- a constant of the class -/
structure Con (K : PySem.W.Frag) (C : Addr) (f : Str) (v : V) (u : Value) : Prop where
  at_ : PySem.W.findIn K (.ref C) f = some (some u)
  rel : RelV v u
  get : PySem.W.specialIn K u "__get__" = some none
  cp : PySem.W.copiedNames.contains f = false
/-- a method: a plain def of the class or of one above it -/
structure Meth (K : PySem.W.Frag) (C : Addr) (m : Str) (f : Addr) : Prop where
  at_ : PySem.W.findIn K (.ref C) m = some (some (.ref f))
  fn : PySem.W.isFn K (.ref f) = true
  kp : PySem.W.keepIn K (.ref f) = true

section
variable {X : Cx} {pins : List (Addr × Obj)} {σ : St} {H : Hp} {s : Shared} {a C dx : Addr} {fs : List (Str × V)} {f : Str} {v : V} {A : Around} {E : Value → Shared → Prop}

end

/-! ### readings and rules -/
/-- e.f, an attribute of the instance -/
def tFld (K : PySem.W.Frag) (ta : TE) (f : Str) : TE := fun σ H Q => ta σ H fun x H1 => ∃ a C dx fs v, x = .ref a ∧ H1 a = some (.ins C dx fs) ∧ Cls K C ∧ NoAttr K C f ∧ fs.lookup f = some v ∧ Q v H1
/-- e.f, a constant of the class -/
def tCon (K : PySem.W.Frag) (ta : TE) (f : Str) : TE := fun σ H Q => ta σ H fun x H1 => ∃ a C dx fs v u, x = .ref a ∧ H1 a = some (.ins C dx fs) ∧ Cls K C ∧ Con K C f v u ∧ fs.lookup f = none ∧ Q v H1
/-- e.f = value -/
def sFld (K : PySem.W.Frag) (ta tv : TE) (f : Str) : TS := fun D σ H => tv σ H fun y H1 => ta σ H1 fun x H2 => ∃ a C dx fs, x = .ref a ∧ H2 a = some (.ins C dx fs) ∧ Cls K C ∧ NoAttr K C f ∧ fs.length < 1000 ∧
  D.nx σ (upd H2 a (.ins C dx (putF f y fs)))
/-- an augmented operator on two values -/
def InOp (X : Cx) (op : Operator) (rd : V → V → Hp → VK → Prop) : Prop :=
  ∀ (pins : List (Addr × Obj)) (s : Shared) (σ : St) (H : Hp) (x y : V) (u v : Value) (Q : VK), Inv X pins σ H s → RelV x u → RelV y v → rd x y H Q → wpAny (model X.prog X.w) X.A (inplaceOp op u v) (EP X pins σ Q) X.xe s
/-- e.f op= value -/
def sFldAug (K : PySem.W.Frag) (ta tv : TE) (rd : V → V → Hp → VK → Prop) (f : Str) : TS := fun D σ H => ta σ H fun x H1 => ∃ a C dx fs v, x = .ref a ∧ H1 a = some (.ins C dx fs) ∧ Cls K C ∧ NoAttr K C f ∧ fs.lookup f = some v ∧
  tv σ H1 fun y H2 => rd v y H2 fun z H3 => ∃ dx' fs', H3 a = some (.ins C dx' fs') ∧ fs'.length < 1000 ∧ D.nx σ (upd H3 a (.ins C dx' (putF f z fs')))

section
variable {X : Cx} {o e value : Expr} {f : Str} {pos pos' tpos : Pos} {ta tv : TE}
def rAdd : V → V → Hp → VK → Prop := fun x y H Q => ∃ i j, x = .int i ∧ y = .int j ∧ Q (.int (i + j)) H
def rSub : V → V → Hp → VK → Prop := fun x y H Q => ∃ i j, x = .int i ∧ y = .int j ∧ Q (.int (i - j)) H
end

/-! ### isinstance -/
section
variable {X : Cx} {pins : List (Addr × Obj)} {σ : St} {H : Hp} {s : Shared} {A : Around} {E : Value → Shared → Prop} {Q : Value → Shared → Prop} {c : Value} {b : Bool}
/-- the type of a value, as the fragment's deciders take it; for an instance its class -/
inductive TyOf (K : PySem.W.Frag) (H : Hp) : V → Value → Prop where
  | non : TyOf K H .non (.type "NoneType")
  | bl (x : Bool) : TyOf K H (.bl x) (.type "bool")
  | int (i : Int) : TyOf K H (.int i) (.type "int")
  | str (x : Str) : TyOf K H (.str x) (.type "str")
  | flt (x : UInt64) : TyOf K H (.flt x) (.type "float")
  | lst {a : Addr} {xs : List V} (e : H a = some (.lst xs)) : TyOf K H (.ref a) (.type "list")
  | frz {a : Addr} {o : Obj} {xs : List V} (e : H a = some (.frz o (.lst xs))) : TyOf K H (.ref a) (.type "list")
  | tup {a : Addr} {xs : List V} (e : H a = some (.tup xs)) : TyOf K H (.ref a) (.type "tuple")
  | dK {a : Addr} {kvs : List (Key × V)} (e : H a = some (.dK kvs)) : TyOf K H (.ref a) (.type "dict")
  | dT {a : Addr} {kvs : List (List Key × V)} (e : H a = some (.dT kvs)) : TyOf K H (.ref a) (.type "dict")
  | ins {a C dx : Addr} {fs : List (Str × V)} (e : H a = some (.ins C dx fs)) (cl : Cls K C) (ha : PySem.W.findIn K (.ref C) "__class__" = some (some (.builtin "object.__class__")))
      (hn : PySem.W.specialIn K (.builtin "object.__class__") "__get__" = some (some (.builtin "getset_descriptor.__get__"))) (htk : PySem.W.takesIn K (.builtin "object.__class__") = some true)
      (hm : PySem.W.mroIn K C (.type "object") = some true) : TyOf K H (.ref a) (.ref C)
/-- isinstance(x, c) for one class c, a built-in or an own one: kitOne's answer -/
theorem isinst_ok {x : V} {u t : Value} (I : Inv X pins σ H s) (rx : RelV x u) (ty : TyOf X.K H x t) (e : PySem.W.kitOne X.K t c = some b) (h : ∀ tk, Q (.bool b) { s with toks := tk }) :
    wpAny (model X.prog X.w) A (call (.builtin "isinstance") [u, c]) Q E s := by
  cases ty with
  | non => cases (show u = Value.none from rx); exact PySem.W.kia_one PySem.W.kitx_none I.kIn True.intro e (fun z => nomatch z) h
  | bl y => cases (show u = Value.bool y from rx); exact PySem.W.kia_one PySem.W.kitx_bool I.kIn True.intro e (fun z => nomatch z) h
  | int i => obtain ⟨t, q⟩ := (show ∃ t, u = Value.int i t from rx); cases q; exact PySem.W.kia_one PySem.W.kitx_int I.kIn True.intro e (fun z => nomatch z) h
  | str y => obtain ⟨t, q⟩ := (show ∃ t, u = Value.str y t from rx); cases q; exact PySem.W.kia_one PySem.W.kitx_str I.kIn True.intro e (fun z => nomatch z) h
  | flt y => obtain ⟨t, q⟩ := (show ∃ t, u = Value.float y t from rx); cases q; exact PySem.W.kia_one PySem.W.kitx_float I.kIn True.intro e (fun z => nomatch z) h
  | @lst a xs ea =>
    cases (show u = Value.ref a from rx)
    obtain ⟨_, _, n, _, h1⟩ := (show ObjOk X.prog X.w H s.heap a (.lst xs) from I.hok a _ ea)
    exact PySem.W.kia_one PySem.W.kitx_list I.kIn ⟨_, h1, rfl⟩ e (fun z => nomatch z) h
  | @frz a ob xs ea =>
    cases (show u = Value.ref a from rx)
    obtain ⟨_, _, _, n, _, h1⟩ := (show ObjOk X.prog X.w H s.heap a (.frz ob (.lst xs)) from I.hok a _ ea)
    exact PySem.W.kia_one PySem.W.kitx_list I.kIn ⟨_, h1, rfl⟩ e (fun z => nomatch z) h
  | @tup a xs ea =>
    cases (show u = Value.ref a from rx)
    obtain ⟨_, _, _, p⟩ := (show ObjOk X.prog X.w H s.heap a (.tup xs) from I.hok a _ ea)
    obtain ⟨o, h1, h2, _⟩ := p
    exact PySem.W.kia_one PySem.W.kitx_tuple I.kIn ⟨o, h1, h2⟩ e (fun z => nomatch z) h
  | @dK a kvs ea =>
    cases (show u = Value.ref a from rx)
    obtain ⟨_, _, vs, _, p⟩ := (show ObjOk X.prog X.w H s.heap a (.dK kvs) from I.hok a _ ea)
    obtain ⟨o, es, ep, h1, h2, _⟩ := p
    exact PySem.W.kia_one PySem.W.kitx_dict I.kIn ⟨o, h1, h2.1⟩ e (fun z => nomatch z) h
  | @dT a kvs ea =>
    cases (show u = Value.ref a from rx)
    obtain ⟨_, _, xs, _, o, es, ep, h1, h2, _⟩ := (show ObjOk X.prog X.w H s.heap a (.dT kvs) from I.hok a _ ea)
    exact PySem.W.kia_one PySem.W.kitx_dict I.kIn ⟨o, h1, h2.1⟩ e (fun z => nomatch z) h
  | @ins a C dx fs ea cl ha hn htk hm =>
    cases (show u = Value.ref a from rx)
    obtain ⟨mA, O, _⟩ := ins_get I.hok ea
    obtain ⟨od, J, _⟩ := O.look
    exact PySem.W.kia_one (PySem.W.kitx_own (cl.get _) cl.hd ha hn htk hm) I.kIn J e (fun z => nomatch z) h
end
end L2

namespace L2
open PySem PySem.Spec PyProof.Rows

/-! ### room -/
structure Room (k : Nat) (A : Around) : Prop where
  hd : A.handled = none
  dp : A.depth + 3 * k + 5 < recursionLimit
  un : A.units + 16 * k + 200 < cLine
theorem Room.mono {j k : Nat} {A : Around} (r : Room k A) (h : j ≤ k) : Room j A := ⟨r.hd, by have := r.dp; omega, by have := r.un; omega⟩
theorem Room.deeper {k : Nat} {A : Around} (r : Room (k + 1) A) (env : Env) : Room k (A.deeper env) :=
  ⟨r.hd, by have := r.dp; show A.depth + 1 + 3 * k + 5 < _; omega, by have := r.un; show A.units + 3 + 16 * k + 200 < _; omega⟩
theorem Room.depth {k : Nat} {A : Around} (r : Room k A) : A.depth < recursionLimit := by have := r.dp; omega
theorem Room.units {k : Nat} {A : Around} (r : Room k A) : A.units + 64 < cLine := by have := r.un; omega
/-! ### argument lists and displays -/
def tNil : TA := fun _ H Q => Q [] H
def tCons (ta : TE) (tr : TA) : TA := fun σ H Q => ta σ H fun x H1 => tr σ H1 fun xs H2 => Q (x :: xs) H2
section
variable {X : Cx} {e : Expr} {es : List Expr} {te : TE} {t : TA} {pos : Pos}
theorem pa_nil : PA X [] tNil := fun _ _ _ _ H Q I h => Calls.spliced_nil ⟨[], H, I, .nil, h⟩
theorem pa_cons (ha : PE X e te) (hr : PA X es t) (hs : starEach (e :: es) X.env = (false, eval e X.env) :: starEach es X.env := by rfl) : PA X (e :: es) (tCons te t) := by
  intro pos pins s σ H Q I h
  rw [hs]
  show wpAny _ _ (spliced ((false, eval e X.env) :: backTo pos (starEach es X.env))) _ _ s
  refine Calls.spliced_cons (thn (ha pins s σ H _ I h) fun u s1 ⟨x, H1, I1, r1, q1⟩ => ?_)
  exact thn (hr pos pins s1 σ H1 _ I1 q1) fun us s2 ⟨xs, H2, I2, r2, q2⟩ => ⟨x :: xs, H2, I2, .cons r1 r2, q2⟩

/-- a tuple, a list of written items -/
def tTup (t : TA) : TE := fun σ H Q => t σ H fun xs H1 => xs.length ≤ sizeLine ∧ ∀ p, H1 p = none → Q (.ref p) (upd H1 p (.tup xs))
def tLst (t : TA) : TE := fun σ H Q => t σ H fun xs H1 => xs.length ≤ sizeLine ∧ ∀ p, H1 p = none → Q (.ref p) (upd H1 p (.lst xs))
theorem pe_tup {x1} (h : PA X es t) : PE X (.Tuple es x1 pos) (tTup t) := by
  intro pins s σ H Q I hq
  refine wpAny_Tuple_spliced (thn (h pos pins s σ H _ I hq) fun us s1 ⟨xs, H1, I1, r, z, q⟩ => ⟨by rw [← r.length]; exact z, ?_⟩)
  have hf : H1 s1.heap.objs.size = none := I1.hok.fresh (Nat.le_refl _)
  refine ⟨.ref s1.heap.objs.size, upd H1 s1.heap.objs.size (.tup xs), I1.laid (t' := s1.toks) (fun b u e => Heap.get?_push_of_some _ e) (Nat.le_refl _) ?_, rfl, q _ hf⟩
  exact ⟨z, us, r, ⟨_, Heap.get?_push_size _ rfl, rfl, _, rfl⟩⟩
theorem pe_lst (h : PA X es t) : PE X (.List es pos) (tLst t) := by
  intro pins s σ H Q I hq
  refine wpAny_List_spliced (thn (h pos pins s σ H _ I hq) fun us s1 ⟨xs, H1, I1, r, z, q⟩ => ⟨by rw [← r.length]; exact z, ?_⟩)
  have hf : H1 s1.heap.objs.size = none := I1.hok.fresh (Nat.le_refl _)
  refine ⟨.ref s1.heap.objs.size, upd H1 s1.heap.objs.size (.lst xs), I1.laid (t' := s1.toks) (fun b u e => Heap.get?_push_of_some _ e) (Nat.le_refl _) ?_, rfl, q _ hf⟩
  exact ⟨z, us, 0, r, Heap.get?_push_size _ rfl⟩
end

/-! ### what a def promises -/
/-- a def's promise: the bound arguments in the parameters' order, the heap, the wanted end, the wanted exception -/
abbrev Sp := List V → Hp → VK → XK → Prop
/-- how an exception lies behind a call (file 08 gives it): the callers' frames, abstract heap and state ahead of the call, the wish, the exception, the state -/
abbrev CXT := List Env → Hp → Shared → XK → Value → Shared → Prop

/-- the state at a call -/
structure Env0 (P : Program) (w : World) (K : PySem.W.Frag) (mg : Str → Option Value) (base : Heap) (A : Around) (outer : List Env) (s : Shared) (H : Hp) : Prop where
  frames : A.frames = some outer
  mod : Mod K mg base
  bs : ∀ b o, base.get? b = some o → s.heap.get? b = some o ∧ H b = none
  bsz : base.objs.size ≤ s.heap.objs.size
  funs : s.heap.FunFrames base outer
  frf : ∀ b ∈ frs outer, H b = none
  hok : HOk P w H s.heap
  bare : AllBare s.gens
/-- a call's end -/
def CE (outer : List Env) (P : Program) (w : World) (H : Hp) (s : Shared) (Q : VK) (u : Value) (s' : Shared) : Prop :=
  ∃ v H', s'.os = s.os ∧ AllBare s'.gens ∧ Un (frs outer) [] H H' s.heap s'.heap ∧ HOk P w H' s'.heap ∧ RelV v u ∧ Q v H'
def CR (CX : CXT) (outer : List Env) (P : Program) (w : World) (H : Hp) (s : Shared) (Q : VK) (E : XK) (r : Result) (s' : Shared) : Prop :=
  match r with
  | .ok (.ret u) => CE outer P w H s Q u s'
  | .ok _ => False
  | .error e => CX outer H s E e s'
structure FnOk (P : Program) (w : World) (K : PySem.W.Frag) (mg : Str → Option Value) (base : Heap) (CX : CXT) (k : Nat) (f : Addr) (fd : FuncData) (ps : List Str) (sp : Sp) : Prop where
  len : ∀ vs H Q E, sp vs H Q E → vs.length = ps.length
  run : ∀ (A : Around) (outer : List Env) (s : Shared) (H : Hp) (args : Args) (us : List Value) (vs : List V) (Q : VK) (E : XK), Room k A → Env0 P w K mg base A outer s H → BindsTo s fd args (ps.zip us) → Vals vs us → sp vs H Q E →
    codeAny (model P w) A (.call (.ref f) args) (CR CX outer P w H s Q E) s
theorem FnOk.mono {P : Program} {w : World} {K : PySem.W.Frag} {mg : Str → Option Value} {base : Heap} {CX : CXT} {j k : Nat} {f : Addr} {fd : FuncData} {ps : List Str} {sp : Sp} (F : FnOk P w K mg base CX j f fd ps sp) (h : j ≤ k) :
    FnOk P w K mg base CX k f fd ps sp := ⟨F.len, fun A outer s H args us vs Q E hr => F.run A outer s H args us vs Q E (hr.mono h)⟩
section
variable {X : Cx} {pins : List (Addr × Obj)} {σ : St} {H : Hp} {s s' : Shared}
/-- from a body: what a callee wants -/
theorem Inv.env0 (I : Inv X pins σ H s) : Env0 X.prog X.w X.K X.mg X.base X.A X.stack s H :=
  ⟨I.ok.frames, I.ok.mod, I.bs, Nat.le_trans I.ok.bsz I.sz, I.stack, I.stkFree, I.hok, I.bare⟩
/-- behind a call -/
theorem Inv.after {Q : VK} {u : Value} (I : Inv X pins σ H s) (h : CE X.stack X.prog X.w H s Q u s') : EP X pins σ Q u s' := by
  obtain ⟨v, H', os, bare, un, hok, r, q⟩ := h
  obtain ⟨hh, g, d, t, os'⟩ := s'
  obtain rfl : os' = s.os := os
  exact ⟨v, H', I.call (h' := hh) (g' := g) (d' := d) (t' := t) (ch := []) un hok bare (fun b z => absurd z (by simp)), r, q⟩
end

/-! ### calls -/
/-- f(..): the written arguments, then the defaults dvs; E: what is wanted of an exception -/
def tCall (sp : Sp) (dvs : List V) (E : XK) (t : TA) : TE := fun σ H Q => t σ H fun vs H1 => sp (vs ++ dvs) H1 Q E
/-- o.m(..) of an instance of the class at C -/
def tMeth (C : Addr) (m : Str) (sp : Sp) (dvs : List V) (E : XK) (ta : TE) (t : TA) : TE := fun σ H Q => ta σ H fun x H1 => ∃ a dx fs, x = .ref a ∧ H1 a = some (.ins C dx fs) ∧ fs.lookup m = none ∧
  t σ H1 fun vs H2 => sp (x :: (vs ++ dvs)) H2 Q E
/-- C(..): a new instance and its dict, then __init__ -/
def tMake (C : Addr) (sp : Sp) (dvs : List V) (E : XK) (t : TA) : TE := fun σ H Q => t σ H fun vs H1 => ∀ x dx, H1 x = none → H1 dx = none → dx ≠ x →
  sp (.ref x :: (vs ++ dvs)) (upd (upd H1 dx (.own x)) x (.ins C dx [])) (fun v H2 => v = .non ∧ Q (.ref x) H2) E

/-- how the parameters are bound: us the positional arguments, kw the keywords' values by name, ds the defaults that fill up -/
def Binds (K : PySem.W.Frag) (fd : FuncData) (ps : List Str) (ds : List Value) : Prop :=
  ∀ (s : Shared) (us : List Value), K.In s.heap → (us ++ ds).length = ps.length → BindsTo s fd ⟨us, []⟩ (ps.zip (us ++ ds))
/-- every parameter is given -/
theorem Binds.all {K : PySem.W.Frag} {fd : FuncData} {ps : List Str} (h : ∀ us : List Value, us.length = ps.length → bindArgs fd ⟨us, []⟩ = pure (ps.zip us)) : Binds K fd ps [] := fun s us _ hl => by
  rw [List.append_nil] at hl ⊢
  exact .of_eq (h us hl)

/-- an exception of a callee reaches what this body wants of exceptions -/
def Passes (CX : CXT) (X : Cx) (E : XK) : Prop := ∀ (pins : List (Addr × Obj)) (σ : St) (H : Hp) (s : Shared) (e : Value) (s' : Shared), Inv X pins σ H s → CX X.stack H s E e s' → X.xe e s'

section
variable {X : Cx} {CX : CXT} {k : Nat} {f C : Addr} {fd : FuncData} {ps : List Str} {sp : Sp} {dvs : List V} {ds : List Value} {E : XK} {x m : Str} {p pos apos : Pos} {e o : Expr} {es : List Expr} {ta : TE} {t : TA}

/-- the callee runs -/
theorem run_fn {pins : List (Addr × Obj)} {σ : St} {H : Hp} {s : Shared} {Q : VK} {us : List Value} {vs : List V} (F : FnOk X.prog X.w X.K X.mg X.base CX k f fd ps sp) (hr : Room k X.A) (hb : Binds X.K fd ps ds) (hd : Vals dvs ds) (hx : Passes CX X E)
    (I : Inv X pins σ H s) (r : Vals vs us) (h : sp (vs ++ dvs) H Q E) : wpAny (model X.prog X.w) X.A (call (.ref f) us) (EP X pins σ Q) X.xe s := by
  have r2 : Vals (vs ++ dvs) (us ++ ds) := r.append hd
  have hl : (us ++ ds).length = ps.length := by rw [← r2.length]; exact F.len _ _ _ _ h
  refine wpAny_call (codeAny_mono (F.run X.A X.stack s H ⟨us, []⟩ (us ++ ds) (vs ++ dvs) Q E hr I.env0 (hb s us I.kIn hl) r2 h) fun r s' hq => ?_)
  cases r with
  | error e => exact hx pins σ H s e s' I hq
  | ok fl =>
    cases fl with
    | ret u => exact I.after hq
    | next => exact False.elim hq
    | brk => exact False.elim hq
    | cont => exact False.elim hq

theorem pe_call (F : FnOk X.prog X.w X.K X.mg X.base CX k f fd ps sp) (hr : Room k X.A) (hg : Gl X x) (hm : X.mg x = some (.ref f)) (hk : PySem.W.keepIn X.K (.ref f) = true) (hb : Binds X.K fd ps ds) (hd : Vals dvs ds) (hx : Passes CX X E)
    (ha : PA X (e :: es) t) (hdb : (x == ("__debug__" : Str)) = false := by decide) (he : starEach (e :: es) X.env = (false, eval e X.env) :: starEach es X.env := by rfl) (hpl : (backTo pos (starEach es X.env)).any (·.1) = false := by rfl) :
    PE X (.Call (.Name x p) (e :: es) [] pos) (tCall sp dvs E t) := by
  intro pins s σ H Q I h
  refine wpAny_Call_Name_kw (ld_glob I hg hm ?_ hdb)
  refine PySem.W.callWith_K (h₀ := X.base) I.ok.mod.kin hk (thn (ha pos pins s σ H _ I h) fun us s1 ⟨vs, H1, I1, r, q⟩ => ⟨I1.kIn, ?_⟩) he hpl
  exact run_fn F hr hb hd hx I1 r q
theorem pe_call0 (F : FnOk X.prog X.w X.K X.mg X.base CX k f fd ps sp) (hr : Room k X.A) (hg : Gl X x) (hm : X.mg x = some (.ref f)) (hk : PySem.W.keepIn X.K (.ref f) = true) (hb : Binds X.K fd ps ds) (hd : Vals dvs ds) (hx : Passes CX X E)
    (hdb : (x == ("__debug__" : Str)) = false := by decide) : PE X (.Call (.Name x p) [] [] pos) (tCall sp dvs E tNil) := by
  intro pins s σ H Q I h
  refine wpAny_Call_Name_kw (ld_glob I hg hm ?_ hdb)
  exact PySem.W.callWith_K0 I.kIn hk (run_fn (us := []) F hr hb hd hx I .nil h)

/-- what a class must have to be made -/
structure Mk (K : PySem.W.Frag) (C f : Addr) : Prop where
  makes : PySem.W.makesIn K C = true
  init : PySem.W.findIn K (.ref C) "__init__" = some (some (.ref f))
  fn : PySem.W.isFn K (.ref f) = true
  kp : PySem.W.keepIn K (.ref C) = true

end

/-! ### keywords -/
/-- the values of the keywords, from the left -/
def PK (X : Cx) (kws : List Keyword) (t : TA) : Prop :=
  ∀ (pos : Pos) (pins : List (Addr × Obj)) (s : Shared) (σ : St) (H : Hp) (Q : List V → Hp → Prop), Inv X pins σ H s → t σ H Q → wpAny (model X.prog X.w) X.A (evalAll ((backToKw pos (keywordEach kws X.env)).map (·.2))) (AP X pins σ Q) X.xe s
section
variable {X : Cx} {CX : CXT} {k : Nat} {f C : Addr} {fd : FuncData} {ps ks : List Str} {sp : Sp} {E : XK} {x m : Str} {p pos apos kpos : Pos} {e o : Expr} {es : List Expr} {kws : List Keyword} {te ta : TE} {t tk : TA} {nm : Option Str}
/-- how a call with keywords binds: g puts the positional values us and the keywords' values ws (names ks) in the parameters' order, defaults among them -/
structure KBinds (K : PySem.W.Frag) (fd : FuncData) (ps ks : List Str) (g : List Value → List Value → List Value) (gV : List V → List V → List V) : Prop where
  to : ∀ (s : Shared) (us ws : List Value), K.In s.heap → (g us ws).length = ps.length → BindsTo s fd ⟨us, ks.zip ws⟩ (ps.zip (g us ws))
  rel : ∀ {vs : List V} {us : List Value} {zs : List V} {ws : List Value}, Vals vs us → Vals zs ws → Vals (gV vs zs) (g us ws)
def tCallK (sp : Sp) (gV : List V → List V → List V) (E : XK) (t tk : TA) : TE := fun σ H Q => t σ H fun vs H1 => tk σ H1 fun zs H2 => sp (gV vs zs) H2 Q E
variable {g : List Value → List Value → List Value} {gV : List V → List V → List V}
end

/-! ### a def's body keeps its promise -/
/-- names: the parameters first -/
structure FnScope (N P : List Str) (sc : Scope) : Prop where
  kind : sc.kind = .function
  co : sc.isCoroutine = false
  gen : sc.isGenerator = false
  nd : N.Nodup
  pre : N.take P.length = P
  par : ∀ x ∈ P, sc.names.lookup x = some .local ∨ sc.names.lookup x = some .cell
  nofree : ∀ y ∈ sc.names, y.2 ≠ .free

theorem bindL_out {kindOf : Str → Option NameKind} {x : Str} : ∀ {binds : List (Str × Value)} {m : Str → Option Value}, (∀ v, (x, v) ∉ binds) → bindL kindOf binds m x = m x
  | [], _, _ => rfl
  | (n, v) :: r, m, h => by
    unfold bindL
    rw [bindL_out fun w hw => h w (List.mem_cons_of_mem _ hw)]
    split
    · have : x ≠ n := by rintro rfl; exact h v List.mem_cons_self
      simp [this]
    · rfl
theorem bindC_out {kindOf : Str → Option NameKind} {x : Str} : ∀ {binds : List (Str × Value)} {m : Str → Option Value}, (∀ v, (x, v) ∉ binds) → bindC kindOf binds m x = m x
  | [], _, _ => rfl
  | (n, v) :: r, m, h => by
    unfold bindC
    rw [bindC_out fun w hw => h w (List.mem_cons_of_mem _ hw)]
    split
    · rfl
    · have : x ≠ n := by rintro rfl; exact h v List.mem_cons_self
      simp [this]
theorem bindL_get {kindOf : Str → Option NameKind} {x : Str} {v : Value} : ∀ {P : List Str} {vs : List Value} {i : Nat} {m : Str → Option Value}, P.Nodup → P[i]? = some x → vs[i]? = some v → kindOf x = some .local →
    bindL kindOf (P.zip vs) m x = some v
  | [], _, _, _, _, h, _, _ => by simp at h
  | _ :: _, [], _, _, _, _, h, _ => by simp at h
  | p :: P, w :: vs, 0, m, nd, h1, h2, hk => by
    simp at h1 h2; subst h1; subst h2
    show bindL kindOf ((p, w) :: P.zip vs) m p = _
    unfold bindL
    rw [bindL_out fun v hv => (List.nodup_cons.mp nd).1 (List.of_mem_zip hv).1, if_pos hk]
    simp
  | p :: P, w :: vs, i + 1, m, nd, h1, h2, hk => by
    show bindL kindOf ((p, w) :: P.zip vs) m x = _
    unfold bindL
    exact bindL_get (i := i) (List.nodup_cons.mp nd).2 (by simpa using h1) (by simpa using h2) hk
theorem bindC_get {kindOf : Str → Option NameKind} {x : Str} {v : Value} : ∀ {P : List Str} {vs : List Value} {i : Nat} {m : Str → Option Value}, P.Nodup → P[i]? = some x → vs[i]? = some v → kindOf x ≠ some .local →
    bindC kindOf (P.zip vs) m x = some v
  | [], _, _, _, _, h, _, _ => by simp at h
  | _ :: _, [], _, _, _, _, h, _ => by simp at h
  | p :: P, w :: vs, 0, m, nd, h1, h2, hk => by
    simp at h1 h2; subst h1; subst h2
    show bindC kindOf ((p, w) :: P.zip vs) m p = _
    unfold bindC
    rw [bindC_out fun v hv => (List.nodup_cons.mp nd).1 (List.of_mem_zip hv).1, if_neg hk]
    simp
  | p :: P, w :: vs, i + 1, m, nd, h1, h2, hk => by
    show bindC kindOf ((p, w) :: P.zip vs) m x = _
    unfold bindC
    exact bindC_get (i := i) (List.nodup_cons.mp nd).2 (by simpa using h1) (by simpa using h2) hk

/-- the names' values at the entry -/
def start (N : List Str) (vs : List V) : St := vs.map some ++ List.replicate (N.length - vs.length) none

/-- the context of a def's body, at its entry; an exception leaves the frame, then lies as CX says -/
def cxOf (CX : CXT) (P : Program) (w : World) (K : PySem.W.Frag) (mg : Str → Option Value) (base : Heap) (N : List Str) (qual : Str) (scope : Scope) (f : Addr) (cd : Value) (A : Around) (outer : List Env) (s : Shared) (H : Hp) (E : XK) : Cx where
  prog := P
  w := w
  K := K
  mg := mg
  base := base
  A := A.deeper (envOfC qual scope s.heap.objs.size f cd)
  N := N
  s₀ := s
  H₀ := H
  env := envOfC qual scope s.heap.objs.size f cd
  outer := outer
  stack := envOfC qual scope s.heap.objs.size f cd :: outer
  ex := []
  calm := true
  fn := fun _ => true
  pn := []
  xe := fun e s' => wpAny (model P w) (A.deeper (envOfC qual scope s.heap.objs.size f cd)) (leaving (envOfC qual scope s.heap.objs.size f cd) e) (fun _ s'' => CX outer H s E e s'') (fun e' s'' => CX outer H s E e' s'') s'

theorem cell_has {sc : Scope} {n : Nat} {x : Str} (h : sc.names.lookup x = some .cell) : ∃ c, (cellsFrom n sc.names []).lookup x = some c := by
  have q := PySem.W.cellsFrom_some sc.names n [] (.inl h)
  exact Option.isSome_iff_exists.mp q

theorem inv_start {CX : CXT} {P : Program} {w : World} {K : PySem.W.Frag} {mg : Str → Option Value} {base : Heap} {N ps : List Str} {qual : Str} {scope : Scope} {f : Addr} {cd : Value} {A : Around} {outer : List Env} {s s1 : Shared} {H : Hp} {E : XK} {us : List Value} {vs : List V}
    (S : FnScope N ps scope) (hd : A.handled = none) (e0 : Env0 P w K mg base A outer s H) (hl : vs.length = ps.length) (r : Vals vs us)
    (x : InCallC s s.heap.objs.size (bindL (envOfC qual scope s.heap.objs.size f cd).kindOf (ps.zip us) fun _ => none) (cellsFrom (s.heap.objs.size + 1) scope.names []) (bindC (envOfC qual scope s.heap.objs.size f cd).kindOf (ps.zip us) fun _ => none) s1) :
    Inv (cxOf CX P w K mg base N qual scope f cd A outer s H E) [] (start N vs) H s1 := by
  have hpl : ps.length ≤ N.length := by have := congrArg List.length S.pre; rw [List.length_take] at this; omega
  obtain ⟨h1, tk, rfl, hk⟩ := x.done
  have noA : ∀ b : Addr, b ∉ (cxOf CX P w K mg base N qual scope f cd A outer s H E).ex := fun b z => absurd (show b ∈ ([] : List Addr) from z) (by simp)
  refine ⟨⟨e0.mod, S.kind, rfl, rfl, Nat.le_refl _, fun y z c h1 h2 => ?_, fun y hy => ?_, fun y c _ h => ?_, fun _ => hd, Around.frames_deeper e0.frames, .inr ⟨rfl, rfl⟩, fun b z => absurd z (noA b), e0.bs, e0.bsz, fun b _ _ => noA b, fun b z => absurd z (noA b), e0.funs, e0.frf⟩,
    rfl, e0.bare, Un.kept hk, ⟨_, x.toInCall.ns, fun i y v h1 h2 h3 => ?_⟩, fun y c h => ⟨_, x.cell y c h⟩, e0.hok.fresh (Nat.le_refl _), fun y c h => ?_, fun p hp => absurd (show p ∈ ([] : List (Addr × Obj)) from hp) (by simp), e0.hok.kept hk, ?_⟩
  · exact name_of_addr x.apart (PySem.mem_of_lookup h1) (PySem.mem_of_lookup h2)
  · have hy : scope.names.lookup y = some .cell ∨ scope.names.lookup y = some .free := hy
    rcases hy with hy | hy
    · exact cell_has hy
    · exact absurd rfl (S.nofree _ (PySem.mem_of_lookup hy))
  · exact Nat.le_of_lt (x.above y c (PySem.mem_of_lookup h))
  · have hi : i < vs.length := by
      unfold start at h2
      by_cases hi : i < vs.length
      · exact hi
      · rw [List.getElem?_append_right (by simpa using hi)] at h2
        rw [List.getElem?_replicate] at h2
        split at h2 <;> cases h2
    have ha : vs[i]? = some v := by
      unfold start at h2
      rw [List.getElem?_append_left (by simpa using hi), List.getElem?_map] at h2
      cases e : vs[i]? with
      | none => rw [e] at h2; cases h2
      | some a => rw [e] at h2; cases h2; rfl
    obtain ⟨u, hu, rv⟩ := r.get ha
    have hp : ps[i]? = some y := by
      rw [← S.pre, List.getElem?_take_of_lt (by omega)]; exact h1
    have ndP : ps.Nodup := by rw [← S.pre]; exact S.nd.sublist (List.take_sublist _ _)
    refine ⟨u, rv, ?_⟩
    rcases S.par y (List.mem_of_getElem? hp) with k | k
    · exact .inl ⟨k, bindL_get ndP hp hu k⟩
    · obtain ⟨c, e⟩ := cell_has (n := s.heap.objs.size + 1) k
      refine .inr ⟨.inl k, c, e, ?_⟩
      have q := x.cell y c e
      rw [bindC_get ndP hp hu (by show scope.names.lookup y ≠ _; rw [k]; decide)] at q
      exact q
  · exact e0.hok.fresh (Nat.le_of_lt (x.above y c (PySem.mem_of_lookup h)))
  · unfold start
    show _ = N.length
    rw [List.length_append, List.length_map, List.length_replicate]
    omega

/-- THE RULE: a def (or a method) of the text, by its body. The body's reading t is chosen for each entry; it is run at the parameters' values -/
theorem fn_of {CX : CXT} {P : Program} {w : World} {K : PySem.W.Frag} {mg : Str → Option Value} {base : Heap} {k : Nat} {f : Addr} {name qual : Str} {params : Arguments} {body : List Stmt} {scope : Scope} {dV kV doc pm cdv ct oc : Value} {an od : Option Addr}
    {osl : Array (Option Value)} {N ps : List Str} {sp : Sp} (lk : K.lookup f = some ⟨oc, od, .func (PySem.W.fnOf name qual params body scope dV kV doc pm an cdv ct), osl⟩) (hcd : PySem.W.codeIn K cdv qual = true) (S : FnScope N ps scope)
    (len : ∀ vs H Q E, sp vs H Q E → vs.length = ps.length)
    (hbody : ∀ (A : Around) (outer : List Env) (s : Shared) (H : Hp) (vs : List V) (Q : VK) (E : XK), Room k (A.deeper (envOfC qual scope s.heap.objs.size f cdv)) → sp vs H Q E →
      ∃ t, PSs (cxOf CX P w K mg base N qual scope f cdv A outer s H E) body t ∧ t { nx := fun _ H' => Q .non H', rt := Q } (start N vs) H) :
    FnOk P w K mg base CX (k + 1) f (PySem.W.fnOf name qual params body scope dV kV doc pm an cdv ct) ps sp := by
  refine ⟨len, fun A outer s H args us vs Q E hr e0 hb r hsp => ?_⟩
  have hl := len _ _ _ _ hsp
  have KX : K.In s.heap := e0.mod.kin.keeps fun b o e => (e0.bs b o e).1
  have lim : s.heap.NoLimit := e0.mod.nolimit.keeps fun b o e => (e0.bs b o e).1
  have hkind : ∀ y ∈ ps.zip us, scope.names.lookup y.1 = some .local ∨ (scope.names.lookup y.1 = some .cell ∧ ((cellsFrom (s.heap.objs.size + 1) scope.names []).lookup y.1).isSome = true) := fun ⟨n, v⟩ hy => by
    rcases S.par n (List.of_mem_zip hy).1 with q | q
    · exact .inl q
    · exact .inr ⟨q, PySem.W.cellsFrom_some _ _ _ (.inl q)⟩
  refine codeAny_call_function hr.depth (KX _ _ lk) rfl S.co S.gen rfl (PySem.W.codeRec_of KX hcd) (hb _ _ _ _ ?_)
  refine wpAny_newFunctionEnv_cells S.kind hkind fun env he s1 x => ?_
  subst he
  refine ⟨lim.keeps x.toInCall.keep, codeAny_func ?_⟩
  obtain ⟨t, ht, hq⟩ := hbody A outer s H vs Q E (hr.deeper _) hsp
  have I : Inv (cxOf CX P w K mg base N qual scope f cdv A outer s H E) [] (start N vs) H s1 := inv_start S hr.hd e0 hl r x
  refine wpAny_mono (ht [] s1 (start N vs) H _ I hq) (fun fl s' hs => ?_) fun e s' hs => hs
  have fin : ∀ {σ' : St} {H' : Hp} {v : V} {u : Value}, Inv (cxOf CX P w K mg base N qual scope f cdv A outer s H E) [] σ' H' s' → RelV v u → Q v H' → CE outer P w H s Q u s' :=
    fun {σ' H' v u} J rv q => ⟨v, H', J.os, J.bare, J.base, J.hok, rv, q⟩
  cases fl with
  | ret u =>
    obtain ⟨v, σ', H', J, rv, q⟩ := hs
    exact fin J rv q
  | next =>
    obtain ⟨σ', H', J, q⟩ := hs
    exact fin (v := V.non) (u := Value.none) J rfl q
  | brk =>
    obtain ⟨_, _, _, q⟩ := hs
    exact False.elim q
  | cont =>
    obtain ⟨_, _, _, q⟩ := hs
    exact False.elim q
end L2

namespace L2
open PySem PySem.Spec PyProof.Rows
section
variable {X : Cx} {x : Str} {p pos : Pos} {e : Expr} {es : List Expr} {t : TA} {id T : String} {r : List V → Hp → VK → Prop}

def tCB (r : List V → Hp → VK → Prop) (t : TA) : TE := fun σ H Q => t σ H fun vs H1 => r vs H1 Q
/-- f(e, ..), f a built-in function -/
theorem pe_callB (hc : CallR X (.builtin id) r) (hg : Gl X x) (hm : X.mg x = none) (hv : bootBuiltins x = some (.builtin id)) (ha : PA X (e :: es) t) (hn : x ≠ "__name__" := by decide) (hdb : (x == ("__debug__" : Str)) = false := by decide)
    (he : starEach (e :: es) X.env = (false, eval e X.env) :: starEach es X.env := by rfl) (hpl : (backTo pos (starEach es X.env)).any (·.1) = false := by rfl) : PE X (.Call (.Name x p) (e :: es) [] pos) (tCB r t) := by
  intro pins s σ H Q I h
  refine wpAny_Call_Name_kw (ld_blt I hg hm hv ?_ hn hdb)
  exact PyProof.Rows.callWith_builtin1 (thn (ha pos pins s σ H _ I h) fun us s1 ⟨vs, H1, I1, r1, q1⟩ => hc pins s1 σ H1 vs us Q I1 r1 q1) he hpl
/-- T(e, ..), T a built-in type -/
theorem pe_callTy (hc : CallR X (.type T) r) (hg : Gl X x) (hm : X.mg x = none) (hv : bootBuiltins x = some (.type T)) (ha : PA X (e :: es) t) (hn : x ≠ "__name__" := by decide) (hdb : (x == ("__debug__" : Str)) = false := by decide)
    (he : starEach (e :: es) X.env = (false, eval e X.env) :: starEach es X.env := by rfl) (hpl : (backTo pos (starEach es X.env)).any (·.1) = false := by rfl) : PE X (.Call (.Name x p) (e :: es) [] pos) (tCB r t) := by
  intro pins s σ H Q I h
  refine wpAny_Call_Name_kw (ld_blt I hg hm hv ?_ hn hdb)
  exact PyProof.Rows.callWith_type1 (thn (ha pos pins s σ H _ I h) fun us s1 ⟨vs, H1, I1, r1, q1⟩ => hc pins s1 σ H1 vs us Q I1 r1 q1) he hpl
end
end L2

namespace HT
open PySem PyProof.Rows

/-- t < u of tuples of ints -/
def lexLt : List Int → List Int → Bool
  | [], [] => false
  | [], _ :: _ => true
  | _ :: _, [] => false
  | x :: xs, y :: ys => if x = y then lexLt xs ys else decide (x < y)
section
open PySem.SeqAt
open PySem.AutoSeq1 (wpAny_loadPart')
open PySem.MeetsSeq PySem.MeetsSeq2 PySem.MeetsSeq3

end

section
variable {prog : Program} {w : World} {A : Around} {E : Value → Shared → Prop} {s : Shared}

/-! ### t[a:b], not the whole -/
/-- a slice's bound as a place among n (d where it is left out) -/
def sIx (n d : Nat) : Option Int → Nat
  | none => d
  | some v => if v < 0 then (v + (n : Int)).toNat else min v.toNat n
theorem sIx_none (n d : Nat) : sIx n d none = d := rfl
theorem sIx_nat (n d k : Nat) : sIx n d (some (k : Int)) = min k n := by
  show (if (k : Int) < 0 then ((k : Int) + (n : Int)).toNat else min (k : Int).toNat n) = min k n
  rw [if_neg (by omega), Int.toNat_natCast]
end
end HT

namespace L2
open PySem PySem.Spec PyProof.Rows

/-! ### the parts of a slice -/
abbrev TO := St → Hp → (Option Int → Hp → Prop) → Prop
/-- a slice's part (left out, or an int) -/
def PO (X : Cx) (e : Option Expr) (t : TO) : Prop :=
  ∀ (pins : List (Addr × Obj)) (s : Shared) (σ : St) (H : Hp) (Q : Option Int → Hp → Prop), Inv X pins σ H s → t σ H Q →
    wpAny (model X.prog X.w) X.A (evalPart e X.env) (fun u s' => ∃ o H', Inv X pins σ H' s' ∧ IsPart u o ∧ Q o H') X.xe s
def tNoPart : TO := fun _ H Q => Q none H
def tPart (t : TE) : TO := fun σ H Q => t σ H fun x H1 => ∃ i, x = .int i ∧ Q (some i) H1

theorem intsAre_of {ns : List Int} : ∀ {us : List Value}, Vals (ns.map V.int) us → IntsAre us ns := by
  induction ns with
  | nil => intro us r; rw [List.map_nil] at r; cases r; exact .nil
  | cons n ns ih =>
    intro us r
    rw [List.map_cons] at r
    cases r with
    | cons r1 r2 =>
      obtain ⟨t, e⟩ := r1
      subst e
      exact .cons n t (ih r2)

section
variable {X : Cx} {e : Expr} {te : TE} {lo hi : Option Expr} {tl th : TO} {pos p2 : Pos}

theorem po_none : PO X none tNoPart := by
  intro pins s σ H Q I h
  rw [evalPart_none]
  exact wpAny_pure ⟨none, H, I, .none, h⟩
theorem po_some (h : PE X e te) : PO X (some e) (tPart te) := by
  intro pins s σ H Q I hw
  rw [evalPart_some]
  refine thn (h pins s σ H _ I hw) fun u s1 ⟨x, H1, I1, r1, q1⟩ => ?_
  obtain ⟨i, rfl, q⟩ := q1
  obtain ⟨t, rfl⟩ := r1
  exact ⟨some i, H1, I1, .int i t, q⟩

/-- what a slice of a value is, by values: the slice object stands at sl -/
def SlR (X : Cx) (r : V → Option Int → Option Int → Hp → VK → Prop) : Prop :=
  ∀ (pins : List (Addr × Obj)) (s : Shared) (σ : St) (H : Hp) (x : V) (v vl vu : Value) (lo hi : Option Int) (sl : Addr) (Q : VK), Inv X pins σ H s → RelV x v → s.heap.IsSliceOf sl vl vu .none → IsPart vl lo → IsPart vu hi → r x lo hi H Q →
    ∃ T id, typeLookup (.type T) "__getitem__" = pure (some (.builtin id)) ∧ s.TypeIs v T ∧ wpAny (model X.prog X.w) X.A (getItem v (.ref sl)) (EP X pins σ Q) X.xe s
def tSl (r : V → Option Int → Option Int → Hp → VK → Prop) (te : TE) (tl th : TO) : TE := fun σ H Q => te σ H fun x H1 => tl σ H1 fun l H2 => th σ H2 fun u H3 => r x l u H3 Q
/-- a[lo:hi], any a -/
theorem pe_slice {r : V → Option Int → Option Int → Hp → VK → Prop} (hr : SlR X r) (he : PE X e te) (hl : PO X lo tl) (hu : PO X hi th) : PE X (.Subscript e (.Slice lo hi none p2) pos) (tSl r te tl th) := by
  intro pins s σ H Q I h
  refine Subscript_ (thn (he pins s σ H _ I h) fun v s1 ⟨x, H1, I1, r1, q1⟩ => ?_)
  refine wpAny_Slice (thn (hl pins s1 σ H1 _ I1 q1) fun vl s2 ⟨l, H2, I2, pl, q2⟩ => thn (hu pins s2 σ H2 _ I2 q2) fun vu s3 ⟨u, H3, I3, pu, q3⟩ => ?_)
  rw [evalPart_none]
  refine wpAny_pure ?_
  have I4 : Inv X pins σ H3 { s3 with heap := s3.heap.push { cls := .type "slice", data := .fields #[vl, vu, .none] } } := I3.kept (t' := s3.toks) fun b ob q => Heap.get?_push_of_some _ q
  obtain ⟨T, id, hT, ht, hg⟩ := hr pins { s3 with heap := s3.heap.push { cls := .type "slice", data := .fields #[vl, vu, .none] } } σ H3 x v vl vu l u s3.heap.objs.size Q I4 r1 (Heap.IsSliceOf.new ..) pl pu q3
  show wpAny (model X.prog X.w) X.A (subscriptTail e (.Slice lo hi none p2) v (.ref s3.heap.objs.size)) (EP X pins σ Q) X.xe { s3 with heap := s3.heap.push { cls := .type "slice", data := .fields #[vl, vu, .none] } }
  exact tail_any (ops := [.ref s3.heap.objs.size, v]) ht hT hg (by with_unfolding_all rfl)

/-- the items of xs[lo:hi] -/
def cutV (xs : List V) (lo hi : Option Int) : List V := (xs.drop (HT.sIx xs.length 0 lo)).take (HT.sIx xs.length xs.length hi - HT.sIx xs.length 0 lo)
theorem cutV_length (xs : List V) (lo hi : Option Int) : (cutV xs lo hi).length ≤ xs.length := by
  unfold cutV
  rw [List.length_take, List.length_drop]
  omega
/-- t[lo:hi], not the whole of it (the whole would be t itself) -/
def rSlT (K : PySem.W.Frag) : V → Option Int → Option Int → Hp → VK → Prop := fun x lo hi H Q => ∃ a xs, x = .ref a ∧ SqT K H a xs ∧
  ¬ (HT.sIx xs.length 0 lo = 0 ∧ HT.sIx xs.length xs.length hi = xs.length) ∧ ∀ p, H p = none → Q (.ref p) (upd H p (.tup (cutV xs lo hi)))
/-! ### t < u, t + u -/
def rLtT (K : PySem.W.Frag) : R2 := fun x y H Q => ∃ a b ns ms, x = .ref a ∧ y = .ref b ∧ SqT K H a (ns.map V.int) ∧ SqT K H b (ms.map V.int) ∧ Q (.bl (HT.lexLt ns ms)) H
/-- t + u, t not empty: u empty gives t itself -/
def rCatT (K : PySem.W.Frag) : R2 := fun x y H Q => ∃ a b xs ys, x = .ref a ∧ y = .ref b ∧ SqT K H a xs ∧ SqT K H b ys ∧ xs ≠ [] ∧ xs.length + ys.length ≤ sizeLine ∧
  (ys = [] → Q (.ref a) H) ∧ (ys ≠ [] → ∀ p, H p = none → Q (.ref p) (upd H p (.tup (xs ++ ys))))
end
end L2

namespace L2
open PySem PySem.Spec PyProof.Rows

/-! ### places -/
/-- the place that an index of any sign means -/
def ixN (n : Nat) (i : Int) : Option Nat := if 0 ≤ i then (if i < n then some i.toNat else none) else if -(n : Int) ≤ i then some (i + n).toNat else none
def atI {α : Type} (xs : List α) (i : Int) : Option α := (ixN xs.length i).bind fun j => xs[j]?
theorem ixN_seq {n : Nat} {i : Int} {j : Nat} (h : ixN n i = some j) : seqIndex? i n = some j ∧ j < n ∧ -(n : Int) ≤ i ∧ i < n := by
  unfold ixN at h
  by_cases h0 : 0 ≤ i
  · rw [if_pos h0] at h
    by_cases h1 : i < n
    · rw [if_pos h1] at h
      have e : i.toNat = j := Option.some.inj h
      exact ⟨by rw [seqIndex_of h0 h1, e], by omega, by omega, h1⟩
    · rw [if_neg h1] at h; cases h
  · rw [if_neg h0] at h
    by_cases h1 : -(n : Int) ≤ i
    · rw [if_pos h1] at h
      have e : (i + n).toNat = j := Option.some.inj h
      exact ⟨by rw [seqIndex_neg (by omega) h1, e], by omega, h1, by omega⟩
    · rw [if_neg h1] at h; cases h
theorem atI_get {α : Type} {xs : List α} {i : Int} {v : α} (h : atI xs i = some v) : ∃ j, seqIndex? i xs.length = some j ∧ xs[j]? = some v ∧ j < xs.length ∧ -(xs.length : Int) ≤ i ∧ i < xs.length := by
  unfold atI at h
  cases e : ixN xs.length i with
  | none => rw [e] at h; cases h
  | some j =>
    rw [e] at h
    obtain ⟨h1, h2, h3, h4⟩ := ixN_seq e
    exact ⟨j, h1, h, h2, h3, h4⟩
theorem atI_nat {α : Type} {xs : List α} {j : Nat} {v : α} (h : xs[j]? = some v) : atI xs (j : Int) = some v := by
  have hj : j < xs.length := (List.getElem?_eq_some_iff.mp h).1
  have e : ixN xs.length (j : Int) = some j := by
    unfold ixN
    rw [if_pos (by omega), if_pos (by omega)]; simp
  unfold atI; rw [e]; exact h
/-! ### what may be subscripted -/
/-- what stands as an index of a plain subscript -/
def PlainIx (b : Expr) : Prop := ∀ o i, subscripted b false o i = operate [o, i] (getItem o i)
/-- a subscript by values -/
def IxR (X : Cx) (r : R2) : Prop :=
  ∀ (value slice : Expr) (pins : List (Addr × Obj)) (s : Shared) (σ : St) (H : Hp) (x y : V) (v u : Value) (Q : VK), Inv X pins σ H s → RelV x v → RelV y u → r x y H Q →
    subscripted slice false v u = operate [v, u] (getItem v u) → wpAny (model X.prog X.w) X.A (subscriptTail value slice v u) (EP X pins σ Q) X.xe s
/-- a call of a builtin's method by values: the receiver, the arguments -/
def MtR (X : Cx) (id : String) (r : V → List V → Hp → VK → Prop) : Prop :=
  ∀ (pins : List (Addr × Obj)) (s : Shared) (σ : St) (H : Hp) (x : V) (xs : List V) (v : Value) (us : List Value) (Q : VK), Inv X pins σ H s → RelV x v → Vals xs us → r x xs H Q →
    wpAny (model X.prog X.w) X.A (call (.builtin id) (v :: us)) (EP X pins σ Q) X.xe s
section
variable {X : Cx} {a b : Expr} {ta tb : TE} {pos : Pos}
/-- a[b] -/
theorem pe_ix {r : R2} (hr : IxR X r) (ha : PE X a ta) (hb : PE X b tb) (hs : PlainIx b) : PE X (.Subscript a b pos) (tOp r ta tb) := by
  intro pins s σ H Q I h
  exact Subscript_ (binT ha hb I h fun v u s2 x y H2 I2 rx ry q => hr a b pins s2 σ H2 x y v u Q I2 rx ry q (hs _ _))

def rIxL (K : PySem.W.Frag) : R2 := fun x y H Q => ∃ p xs i v, x = .ref p ∧ y = .int i ∧ SqL K H p xs ∧ atI xs i = some v ∧ Q v H
def rIxT (K : PySem.W.Frag) : R2 := fun x y H Q => ∃ p xs i v, x = .ref p ∧ y = .int i ∧ SqT K H p xs ∧ atI xs i = some v ∧ Q v H
def rIxS : R2 := fun x y H Q => ∃ z i c, x = .str z ∧ y = .int i ∧ z.length ≤ sizeLine ∧ atI z.cps.toList i = some c ∧ Q (.str ⟨#[c]⟩) H
theorem ix_list : IxR X (rIxL X.K) := by
  intro value slice pins s σ H x y v u Q I rx ry h hs
  obtain ⟨p, xs, i, z, rfl, rfl, hq, he, q⟩ := h
  cases rx
  obtain ⟨t, rfl⟩ := ry
  obtain ⟨its, r, pl, hz⟩ := I.list hq
  obtain ⟨j, h1, h2, h3, h4, h5⟩ := atI_get he
  obtain ⟨w, ew, rw'⟩ := r.get h2
  have hl := r.length
  have hn := line63
  have fin : EP X pins σ Q w s := ⟨z, H, I, rw', q⟩
  by_cases h0 : 0 ≤ i
  · have hj : i.toNat = j := by
      rw [seqIndex_of h0 h5] at h1
      exact Option.some.inj h1
    exact item_listR pl.isList h0 (by omega) (by rw [hj]; simpa using ew) fin hs
  · have hj : (i + (its.toArray.size : Int)).toNat = j := by
      rw [seqIndex_neg (by omega) h4] at h1
      rw [List.size_toArray, ← hl]
      exact Option.some.inj h1
    exact subscriptTail_builtinR (x := w) pl.isList.typeIs slot_list_getitem.lookup
      (wpAny_getItem_list_neg (Q := fun r s' => r = w ∧ EP X pins σ Q r s') pl.isList (by omega) (by rw [List.size_toArray] <;> omega) (by omega) (by rw [hj]; simpa using ew) ⟨rfl, fin⟩) hs
theorem ix_tup : IxR X (rIxT X.K) := by
  intro value slice pins s σ H x y v u Q I rx ry h hs
  obtain ⟨p, xs, i, z, rfl, rfl, hq, he, q⟩ := h
  cases rx
  obtain ⟨t, rfl⟩ := ry
  obtain ⟨its, r, pl, hz⟩ := I.tuple hq
  obtain ⟨j, h1, h2, h3, h4, h5⟩ := atI_get he
  obtain ⟨w, ew, rw'⟩ := r.get h2
  have hl := r.length
  have hn := line63
  have fin : EP X pins σ Q w s := ⟨z, H, I, rw', q⟩
  exact subscriptTail_builtinR (x := w) pl.typeIs slot_tuple_getitem.lookup
    (getItem_tuple (j := j) (Q := fun r s' => r = w ∧ EP X pins σ Q r s') pl (by omega) (by omega) (by rw [List.size_toArray, ← hl]; exact h1) (by simpa using ew) ⟨rfl, fin⟩) hs
/-- list, tuple or str -/
def rIx (K : PySem.W.Frag) : R2 := fun x y H Q => rIxL K x y H Q ∨ rIxT K x y H Q ∨ rIxS x y H Q
/-! ### xs[i] = v, any sign -/
def rSetL : V → V → V → Hp → (Hp → Prop) → Prop := fun o i v H Q => ∃ p xs k j, o = .ref p ∧ i = .int k ∧ H p = some (.lst xs) ∧ ixN xs.length k = some j ∧ Q (upd H p (.lst (xs.set j v)))
/-! ### slices -/
theorem slice_bounds (lo hi : Option Int) (n : Nat) : (sliceBounds lo hi none n).1 = ((HT.sIx n 0 lo : Nat) : Int) ∧ (sliceBounds lo hi none n).2.1 = ((HT.sIx n n hi : Nat) : Int) ∧ (sliceBounds lo hi none n).2.2 = 1 := by
  refine ⟨?_, ?_, rfl⟩
  · cases lo with
    | none => simp [sliceBounds, HT.sIx]
    | some i =>
      simp only [sliceBounds, HT.sIx, Option.getD_none, show (1 : Int) > 0 by decide, if_true]
      by_cases h : i < 0
      · simp only [h, if_true] <;> omega
      · simp only [h, if_false] <;> omega
  · cases hi with
    | none => simp [sliceBounds, HT.sIx]
    | some i =>
      simp only [sliceBounds, HT.sIx, Option.getD_none, show (1 : Int) > 0 by decide, if_true]
      by_cases h : i < 0
      · simp only [h, if_true] <;> omega
      · simp only [h, if_false] <;> omega
theorem slicePick_cut (its : List Value) (lo hi : Option Int) : slicePick its.toArray lo hi none = ((its.drop (HT.sIx its.length 0 lo)).take (HT.sIx its.length its.length hi - HT.sIx its.length 0 lo)).toArray := by
  obtain ⟨h1, h2, h3⟩ := slice_bounds lo hi its.toArray.size
  unfold slicePick
  rw [h1, h2, h3]
  simp only [sliceRange_one, pick_run, List.size_toArray] <;> rfl
/-- xs[lo:hi] of a list: a new list -/
def rSlL (K : PySem.W.Frag) : V → Option Int → Option Int → Hp → VK → Prop := fun x lo hi H Q => ∃ a xs, x = .ref a ∧ SqL K H a xs ∧ ∀ p, H p = none → Q (.ref p) (upd H p (.lst (cutV xs lo hi)))
theorem sl_list : SlR X (rSlL X.K) := by
  intro pins s σ H x v vl vu lo hi sl Q I rx hs pl pu h
  obtain ⟨a, xs, rfl, hx, q⟩ := h
  cases rx
  obtain ⟨its, r, ht, hz⟩ := I.list hx
  have hlen := r.length
  refine ⟨"list", _, slot_list_getitem.lookup, ht.isList.typeIs, ?_⟩
  refine wpAny_getItem_list_slice ht.isList hs pl pu .none (by simp) ?_ (by rw [List.size_toArray] <;> omega)
  rw [slicePick_cut, ← hlen]
  refine ⟨.ref s.heap.objs.size, _, I.laid (t' := s.toks) (o := .lst (cutV xs lo hi)) (fun b ob q => Heap.get?_push_of_some _ q) (Nat.le_refl _) ?_, rfl, q _ (I.hok.fresh (Nat.le_refl _))⟩
  exact ⟨Nat.le_trans (cutV_length xs lo hi) hz, _, 0, (r.drop (HT.sIx xs.length 0 lo)).take (HT.sIx xs.length xs.length hi - HT.sIx xs.length 0 lo), Heap.get?_push_size _ rfl⟩

/-! ### in, not in: flat items -/
def flatV : V → Bool
  | .non => true
  | .bl _ => true
  | .int _ => true
  | .str _ => true
  | _ => false
/-- == of flat values -/
def eqV : V → V → Bool
  | .non, .non => true
  | .bl a, .bl b => a == b
  | .bl a, .int b => (if a then 1 else 0) == b
  | .int a, .bl b => a == (if b then 1 else 0)
  | .int a, .int b => a == b
  | .str a, .str b => a == b
  | _, _ => false
/-- the items' answers, read off the values (a value's own answer does not lean on its token) -/
def eqU (x : V) (u : Value) : Bool := match u with
  | .none => eqV .non x
  | .bool b => eqV (.bl b) x
  | .int i _ => eqV (.int i) x
  | .str z _ => eqV (.str z) x
  | _ => false
def inV (x : V) (xs : List V) : Bool := xs.any fun y => eqV y x
/-- x in a list or tuple of flat items -/
def rIn (K : PySem.W.Frag) (neg : Bool) : R2 := fun x y H Q => ∃ p xs, y = .ref p ∧ (SqL K H p xs ∨ SqT K H p xs) ∧ flatV x = true ∧ xs.all flatV = true ∧ Q (.bl (if neg then !inV x xs else inV x xs)) H
/-! ### len, list(x), tuple(x) of any list or tuple that is read -/
theorem call_len_seq : CallR X (.builtin "len") (fun xs H Q => ∃ p ys, xs = [.ref p] ∧ (SqL X.K H p ys ∨ SqT X.K H p ys) ∧ Q (.int ys.length) H) := by
  intro pins s σ H xs us Q I r h
  obtain ⟨p, ys, rfl, hq, q⟩ := h
  obtain ⟨u, rfl, rx⟩ := vals1 r
  cases rx
  have hn := line63
  rcases hq with hq | hq
  · obtain ⟨its, r', pl, hz⟩ := I.list hq
    have hlen := r'.length
    exact Calls.call_len_list pl.isList (by simp only [List.size_toArray] <;> omega) ⟨.int ys.length, H, I.tok _, ⟨s.toks + 1, by rw [List.size_toArray, hlen]⟩, q⟩
  · obtain ⟨its, r', pl, hz⟩ := I.tuple hq
    have hlen := r'.length
    exact len_tuple pl (by simp only [List.size_toArray] <;> omega) ⟨.int ys.length, H, I.tok _, ⟨s.toks + 1, by rw [List.size_toArray, hlen]⟩, q⟩
theorem call_tuple_of : CallR X (.type "tuple") (fun xs H Q => ∃ p ys, xs = [.ref p] ∧ ((SqL X.K H p ys ∧ ∀ l, H l = none → Q (.ref l) (upd H l (.tup ys))) ∨ (SqT X.K H p ys ∧ Q (.ref p) H))) := by
  intro pins s σ H xs us Q I r h
  obtain ⟨p, ys, rfl, h⟩ := h
  obtain ⟨u, rfl, rx⟩ := vals1 r
  cases rx
  rcases h with ⟨hq, q⟩ | ⟨hq, q⟩
  · obtain ⟨its, r', pl, hz⟩ := I.list hq
    have hlen := r'.length
    refine call_tuple_list pl.isList (fun h' kp => ?_) (by simp only [List.size_toArray] <;> omega)
    have I1 : Inv X pins σ H { s with heap := h' } := I.kept (t' := s.toks) kp
    have I2 : Inv X pins σ (upd H h'.objs.size (.tup ys)) { s with heap := h'.push { cls := .type "tuple", data := .seq its.toArray } } :=
      I1.laid (t' := s.toks) (fun b o e => Heap.get?_push_of_some _ e) (Nat.le_refl _) (show ObjOk X.prog X.w _ _ _ (.tup ys) from ⟨hz, its, r', IsTup.new _ _⟩)
    exact ⟨.ref h'.objs.size, _, I2, rfl, q _ (I1.hok.fresh (Nat.le_refl _))⟩
  · obtain ⟨its, r', pl, hz⟩ := I.tuple hq
    exact call_tuple_same pl ⟨.ref p, H, I, rfl, q⟩

/-! ### the call of a builtin's method: o.m(..) -/
/-- the value is of that builtin type -/
def tyV (K : PySem.W.Frag) (T : String) (x : V) (H : Hp) : Prop := match x with
  | .str _ => T = "str"
  | .int _ => T = "int"
  | .ref p => (T = "list" ∧ ∃ xs, SqL K H p xs) ∨ (T = "tuple" ∧ ∃ o, K.lookup p = some o ∧ o.cls = .type "tuple" ∧ o.dict = none) ∨
      (T = "dict" ∧ ((∃ kvs, H p = some (.dK kvs)) ∨ ∃ kvs, H p = some (.dT kvs))) ∨ (T = "set" ∧ ∃ S n, H p = some (.set S n))
  | _ => False
theorem tyV_is {pins : List (Addr × Obj)} {σ : St} {H : Hp} {s : Shared} {T : String} {x : V} {v : Value} (I : Inv X pins σ H s) (r : RelV x v) (ty : tyV X.K T x H) :
    s.TypeIs v T ∧ ∀ a, v = .ref a → ∃ ob, s.heap.get? a = some ob ∧ ob.dict = none := by
  cases x with
  | str z =>
    obtain ⟨t, rfl⟩ := r
    cases (show T = "str" from ty)
    exact ⟨typeIs_str s z t, fun _ e => nomatch e⟩
  | int i =>
    obtain ⟨t, rfl⟩ := r
    cases (show T = "int" from ty)
    exact ⟨typeIs_int s i t, fun _ e => nomatch e⟩
  | ref p =>
    cases r
    rcases ty with ⟨rfl, xs, hq⟩ | ⟨rfl, o, hk, hc, hd⟩ | ⟨rfl, hk⟩ | ⟨rfl, S, n, hk⟩
    · obtain ⟨its, _, pl, _⟩ := I.list hq
      refine ⟨pl.isList.typeIs, fun a e => ?_⟩
      cases e
      obtain ⟨o, n, e, c, hd, _⟩ := pl
      exact ⟨o, e, hd⟩
    · refine ⟨⟨o, I.kIn p o hk, hc⟩, fun a e => ?_⟩
      cases e
      exact ⟨o, I.kIn _ o hk, hd⟩
    · have z : ∃ o, s.heap.get? p = some o ∧ o.ExactDict := by
        rcases hk with ⟨kvs, hk⟩ | ⟨kvs, hk⟩
        · obtain ⟨_, _, _, _, o, _, _, e, ex, _⟩ := I.hok p _ hk
          exact ⟨o, e, ex⟩
        · obtain ⟨_, _, _, _, o, _, _, e, ex, _⟩ := I.hok p _ hk
          exact ⟨o, e, ex⟩
      obtain ⟨o, e, ex⟩ := z
      refine ⟨⟨o, e, ex.1⟩, fun a e2 => ?_⟩
      cases e2
      exact ⟨o, e, ex.2.1⟩
    · obtain ⟨o, _, _, _, e, ex, _⟩ := I.hok p _ hk
      refine ⟨⟨o, e, ex.1⟩, fun a e2 => ?_⟩
      cases e2
      exact ⟨o, e, ex.2.1⟩
  | _ => exact False.elim ty
def tBM0 (K : PySem.W.Frag) (T : String) (r : V → List V → Hp → VK → Prop) (to : TE) : TE := fun σ H Q => to σ H fun x H1 => tyV K T x H1 ∧ r x [] H1 Q
def tBM (K : PySem.W.Frag) (T : String) (r : V → List V → Hp → VK → Prop) (to : TE) (t : TA) : TE := fun σ H Q => to σ H fun x H1 => tyV K T x H1 ∧ t σ H1 fun xs H2 => r x xs H2 Q
variable {o e : Expr} {es : List Expr} {to : TE} {t : TA} {name : Str} {apos cpos : Pos} {T id : String} {r : V → List V → Hp → VK → Prop}
theorem pe_bm (pa : PlainAttrs T) (slot : Slot T name id) (hty : typeOf (.builtin id) = pure (.type "method_descriptor")) (hm : MtR X id r) (ho : PE X o to) (ha : PA X (e :: es) t)
    (hbase : attributeBase o name X.env (eval o X.env) = eval o X.env := by rfl)
    (hfew : ((backTo cpos (starEach (e :: es) X.env)).all (fun x => !x.1) && (backToKw cpos (keywordEach [] X.env)).all (fun x => x.1.isSome)
      && decide ((e :: es).length + ([] : List Keyword).length + (if ([] : List Keyword).isEmpty then 0 else 1) < 30)) = true := by rfl)
    (hline : (apos.endLine == cpos.line) = true := by rfl) (hs : starEach (e :: es) X.env = (false, eval e X.env) :: starEach es X.env := by rfl) (hplain : (backTo cpos (starEach es X.env)).any (·.1) = false := by rfl) :
    PE X (.Call (.Attribute o name apos) (e :: es) [] cpos) (tBM X.K T r to t) := by
  intro pins s σ H Q I h
  refine wpAny_Call_method_late hbase hfew hline rfl (thn (ho pins s σ H _ I h) fun v s1 ⟨x, H1, I1, r1, ty, q1⟩ => ?_)
  obtain ⟨h1, h2⟩ := tyV_is I1 r1 ty
  refine ⟨T, id, pa, slot, hty, h1, h2, ?_⟩
  have hA := ha cpos pins s1 σ H1 _ I1 q1
  rw [hs] at hA ⊢
  refine Calls.callWith_builtin (by show (false || (backTo cpos (starEach es X.env)).any (·.1)) = false; rw [hplain] <;> rfl) (Calls.evalArgs_plain ?_)
  exact thn hA fun us s2 ⟨vs, H2, I2, r2, q2⟩ => hm pins s2 σ H2 x vs v us Q I2 r1 r2 q2
/- xs.append(e), list.index on a module's tuple .. are MtR facts of 06m -/
end
end L2

namespace L2
open PySem PySem.Spec PyProof.Rows

def MtM (X : Cx) (id : String) (r : V → List V → Hp → VK → Prop) : Prop :=
  ∀ (pins : List (Addr × Obj)) (s : Shared) (σ : St) (H : Hp) (x : V) (xs : List V) (v : Value) (us : List Value) (Q : VK), Inv X pins σ H s → RelV x v → Vals xs us → r x xs H Q →
    wpAny (model X.prog X.w) X.A (call (.builtin id) (v :: us)) (EP X pins σ Q) X.xe s

/-! ### lists of values -/
theorem Vals.one : ∀ {x : V} {us : List Value}, Vals [x] us → ∃ u, us = [u] ∧ RelV x u
  | _, _, .cons r .nil => ⟨_, rfl, r⟩
theorem Vals.two : ∀ {x y : V} {us : List Value}, Vals [x, y] us → ∃ u v, us = [u, v] ∧ RelV x u ∧ RelV y v
  | _, _, _, .cons r (.cons q .nil) => ⟨_, _, rfl, r, q⟩
theorem Vals.rep {xs : List V} {us : List Value} (h : Vals xs us) : ∀ k : Nat, Vals (List.replicate k xs).flatten (List.replicate k us).flatten
  | 0 => .nil
  | k + 1 => by
    rw [List.replicate_succ, List.replicate_succ, List.flatten_cons, List.flatten_cons]
    exact Vals.append h (Vals.rep h k)
theorem foldl_rep (its : List Value) : ∀ (k : Nat) (acc : List Value),
    List.foldl (fun x1 x2 => x1 ++ x2) acc.toArray (List.replicate k its.toArray) = (acc ++ (List.replicate k its).flatten).toArray
  | 0, acc => by simp
  | k + 1, acc => by
    have e : acc.toArray ++ its.toArray = (acc ++ its).toArray := by simp
    have e2 : (acc ++ its) ++ (List.replicate k its).flatten = acc ++ (List.replicate (k + 1) its).flatten := by
      rw [List.replicate_succ, List.flatten_cons, List.append_assoc]
    rw [← e2, ← foldl_rep its k (acc ++ its), ← e, List.replicate_succ, List.foldl_cons]

section
variable {X : Cx} {pins : List (Addr × Obj)} {σ : St} {H : Hp} {s : Shared} {l b : Addr} {xs ys zs : List V}

/-! ### the two steps: a tracked list is rewritten, a new list is laid -/
theorem Inv.lset {its its' : List Value} {n : Nat} {f : Array Value → Array Value} {t' : Nat} (I : Inv X pins σ H s) (hH : H l = some (.lst xs))
    (e : s.heap.get? l = some { cls := .type "list", data := .seq its.toArray n }) (hf : f its.toArray = its'.toArray) (hv : Vals ys its') (hz : ys.length ≤ sizeLine) :
    Inv X pins σ (upd H l (.lst ys)) { s with heap := s.heap.update l (Obj.mapSeq f), toks := t' } := by
  have q := PySem.IsL.update e f
  rw [hf] at q
  refine I.write (x := l) (e := l) (by rw [hH]; exact trivial) (.inl rfl) (fun b' u hb hu => (Heap.get?_update_other s.heap (Obj.mapSeq f) (Ne.symm hb)).trans hu) ⟨_, q⟩ ?_
  exact ⟨hz, its', _, hv, q⟩
theorem Inv.lnew {its : List Value} {t' : Nat} (I : Inv X pins σ H s) (hv : Vals ys its) (hz : ys.length ≤ sizeLine) :
    Inv X pins σ (upd H s.heap.objs.size (.lst ys)) { s with heap := s.heap.push { cls := .type "list", data := .seq its.toArray }, toks := t' } :=
  I.laid (fun _ _ q => Heap.get?_push_of_some _ q) (Nat.le_refl _) ⟨hz, its, 0, hv, Heap.get?_push_size _ rfl⟩
theorem Inv.fresh (I : Inv X pins σ H s) : H s.heap.objs.size = none := I.hok.fresh (Nat.le_refl _)
theorem Inv.lstM (I : Inv X pins σ H s) (hH : H l = some (.lst xs)) : xs.length ≤ sizeLine ∧ ∃ (its : List Value) (n : Nat), Vals xs its ∧ xs.length = its.length ∧ s.heap.get? l = some { cls := .type "list", data := .seq its.toArray n } := by
  obtain ⟨z, its, n, r, e⟩ := I.hok l _ hH
  exact ⟨z, its, n, r, r.length, e⟩

theorem notLongL {n : Nat} (h : n ≤ sizeLine) : Builtin.List.listTooLong n = false := by
  unfold Builtin.List.listTooLong
  exact decide_eq_false (by omega)
end

section
variable {X : Cx}

/-! ### methods -/
def rAppend : V → List V → Hp → VK → Prop := fun x vs H Q => ∃ l xs y, x = .ref l ∧ vs = [y] ∧ H l = some (.lst xs) ∧ xs.length < sizeLine ∧ Q .non (upd H l (.lst (xs ++ [y])))
theorem mt_append : MtM X "list.append" rAppend := by
  intro pins s σ H x vs v us Q I rx rv h
  obtain ⟨l, xs, y, rfl, rfl, hH, hz, q⟩ := h
  cases rx
  obtain ⟨u, rfl, ru⟩ := rv.one
  obtain ⟨z, its, n, r, hl, e⟩ := I.lstM hH
  refine call_meets F.slot_list_append ⟨_, e, rfl⟩ F.entry_list_append (F.args_list_append_2 _ _) (PySem.list_append l its.toArray n u (by rw [List.size_toArray]; omega)) ⟨e, ?_⟩
  refine ⟨.non, _, I.lset (its' := its ++ [u]) hH e (by simp) (r.append (.cons ru .nil)) ?_, rfl, q⟩
  rw [List.length_append, List.length_singleton]
  omega

def rExtend : V → List V → Hp → VK → Prop := fun x vs H Q => ∃ l b xs zs, x = .ref l ∧ vs = [.ref b] ∧ H l = some (.lst xs) ∧ H b = some (.lst zs) ∧ xs.length + zs.length ≤ sizeLine ∧ Q .non (upd H l (.lst (xs ++ zs)))
theorem mt_extend : MtM X "list.extend" rExtend := by
  intro pins s σ H x vs v us Q I rx rv h
  obtain ⟨l, b, xs, zs, rfl, rfl, hH, hB, hz, q⟩ := h
  cases rx
  obtain ⟨u, rfl, ru⟩ := rv.one
  cases ru
  obtain ⟨z, its, n, r, hl, e⟩ := I.lstM hH
  obtain ⟨z2, its2, n2, r2, hl2, e2⟩ := I.lstM hB
  have hsz : its.toArray.size + its2.toArray.size ≤ sizeLine := by rw [List.size_toArray, List.size_toArray]; omega
  have hlong : ¬ (!its.toArray.isEmpty && Builtin.List.listTooLong (its.toArray.size + its2.toArray.size)) = true := by
    rw [notLongL hsz, Bool.and_false]
    exact Bool.false_ne_true
  refine call_meets F.slot_list_extend ⟨_, e, rfl⟩ F.entry_list_extend (F.args_list_extend_2 _ _)
    (AutoSeq1.list_extend_list_list_0 l its.toArray n b its2.toArray n2 hlong (by rw [List.size_toArray]; omega) (by omega)) ⟨e, e2, ?_⟩
  refine ⟨.non, _, I.lset (its' := its ++ its2) hH e (by simp) (r.append r2) ?_, rfl, q⟩
  rw [List.length_append]
  omega

def rPop : V → List V → Hp → VK → Prop := fun x vs H Q => ∃ l xs y, x = .ref l ∧ vs = [] ∧ H l = some (.lst xs) ∧ xs[xs.length - 1]? = some y ∧ Q y (upd H l (.lst xs.dropLast))
def rPopAt : V → List V → Hp → VK → Prop := fun x vs H Q => ∃ l xs i k y, x = .ref l ∧ vs = [.int i] ∧ H l = some (.lst xs) ∧ -(2 ^ 63) ≤ i ∧ i < 2 ^ 63 ∧ seqIndex? i xs.length = some k ∧ xs[k]? = some y ∧ Q y (upd H l (.lst (xs.eraseIdx k)))
def rReverse : V → List V → Hp → VK → Prop := fun x vs H Q => ∃ l xs, x = .ref l ∧ vs = [] ∧ H l = some (.lst xs) ∧ Q .non (upd H l (.lst xs.reverse))
def rClear : V → List V → Hp → VK → Prop := fun x vs H Q => ∃ l xs, x = .ref l ∧ vs = [] ∧ H l = some (.lst xs) ∧ Q .non (upd H l (.lst []))
/-! ### list + list, list += list, list * int -/
def rCat : R2 := fun x y H Q => ∃ l b xs zs, x = .ref l ∧ y = .ref b ∧ H l = some (.lst xs) ∧ H b = some (.lst zs) ∧ xs.length + zs.length ≤ sizeLine ∧ ∀ p, H p = none → Q (.ref p) (upd H p (.lst (xs ++ zs)))
theorem op_cat : OpR X (binaryOp .Add) rCat := by
  intro pins s σ H x y v u Q I rx ry h
  obtain ⟨l, b, xs, zs, rfl, rfl, hH, hB, hz, q⟩ := h
  cases rx
  cases ry
  obtain ⟨z, its, n, r, hl, e⟩ := I.lstM hH
  obtain ⟨z2, its2, n2, r2, hl2, e2⟩ := I.lstM hB
  refine PySem.P.add_list e e2 ?_ (by rw [List.size_toArray, List.size_toArray]; omega)
  have ea : its.toArray ++ its2.toArray = (its ++ its2).toArray := by simp
  rw [ea]
  exact ⟨.ref _, _, I.lnew (t' := s.toks) (r.append r2) (by rw [List.length_append]; omega), rfl, q _ I.fresh⟩
/-- a list times an int (a negative one is nothing) -/
def rRep : R2 := fun x y H Q => ∃ l k xs, x = .ref l ∧ y = .int k ∧ H l = some (.lst xs) ∧ -(2 ^ 63) ≤ k ∧ k < 2 ^ 63 ∧ xs.length * k.toNat ≤ sizeLine ∧
  ∀ p, H p = none → Q (.ref p) (upd H p (.lst (List.replicate k.toNat xs).flatten))
theorem len_rep {α : Type} (xs : List α) (k : Nat) : (List.replicate k xs).flatten.length = k * xs.length := by
  induction k with
  | zero => simp
  | succ k ih => rw [List.replicate_succ, List.flatten_cons, List.length_append, ih, Nat.succ_mul, Nat.add_comm]
theorem op_rep : OpR X (binaryOp .Mult) rRep := by
  intro pins s σ H x y v u Q I rx ry h
  obtain ⟨l, k, xs, rfl, rfl, hH, h1, h2, hz, q⟩ := h
  cases rx
  obtain ⟨t, rfl⟩ := ry
  obtain ⟨z, its, n, r, hl, e⟩ := I.lstM hH
  have hlen : its.toArray.size * k.toNat ≤ sizeLine := by rw [List.size_toArray, ← hl]; exact hz
  have hcap : ¬ its.toArray.size * k.toNat > (2 ^ 63 - 1) / 8 := by
    have : (sizeLine : Nat) ≤ (2 ^ 63 - 1) / 8 := by decide
    omega
  have hfit : ¬ (!Builtin.List.listFitsIndex k) = true := by
    rw [fitsIndex_both h1 h2]
    exact Bool.false_ne_true
  have hlong : ¬ Builtin.List.listTooLong (its.toArray.size * k.toNat) = true := by
    rw [notLongL hlen]
    exact Bool.false_ne_true
  have hnew : List.foldl (fun x1 x2 => x1 ++ x2) #[] (List.replicate (if its.toArray.isEmpty = true then 0 else k.toNat) its.toArray) = (List.replicate k.toNat its).flatten.toArray := by
    have f0 : ∀ m : Nat, List.foldl (fun x1 x2 => x1 ++ x2) #[] (List.replicate m its.toArray) = (List.replicate m its).flatten.toArray := fun m => by
      have := foldl_rep its m []
      rw [List.nil_append] at this
      exact this
    rw [f0]
    cases its with
    | nil => simp
    | cons a r' => rw [if_neg (by simp)]
  refine wpAny_binaryOp_repeat_ref (T := "list") (U := "int") (by decide) ⟨_, e, rfl⟩ (fun s' => typeIs_int s' k t) noFill_list_mul F.fills_int_mul F.slot_int_rmul repeat_list F.slot_int_index.lookup
    (call_meets F.slot_int_rmul (typeIs_int s k t) F.entry_int_rmul (F.args_int_rmul_2 _ _) (int___rmul___int_list k t l its.toArray n)
      ⟨e, rfl, ⟨_, e, rfl⟩, call_meets F.slot_list_mul ⟨_, e, rfl⟩ F.entry_list_mul (F.args_list_mul_2 _ _) (AutoListH.list___mul___list_int_3 l its.toArray n k t hfit hcap hlong) ⟨e, ?_⟩⟩)
  rw [hnew]
  exact ⟨.ref _, _, I.lnew (t' := s.toks) (r.rep k.toNat) (by rw [len_rep, Nat.mul_comm]; exact hz), rfl, q _ I.fresh⟩

/-! ### del xs[i] -/
end

/-! ### xs[a:b] = ys -/
section
variable {prog : Program} {w : World} {A : Around} {E : Value → Shared → Prop} {s : Shared}
end

section
variable {X : Cx}
end
end L2

namespace Att
open PySem PySem.W PySem.Calls PyProof.Rows

/-! ### the script -/
theorem ints_of_wellAll {P : Params} {h : Heap} : ∀ (ns : List Int) (vs : List Value), WellAll P h vs (ns.map WData.int) → IntsAre vs ns := by
  intro ns
  induction ns with
  | nil =>
    intro vs w
    rw [List.map_nil] at w
    cases w
    exact .nil
  | cons n ns ih =>
    intro vs w
    rw [List.map_cons] at w
    cases w with
    | cons a b =>
      cases a
      exact .cons _ _ (ih _ b)

theorem script_of {l : OpenLaw} {n : Nat} (hn : l.most = some n) {P : Params} {h : Heap} {args : List WData} {vals : List Value}
    (hpre : l.row.toRowW.claim.pre args = true) (hwl : WellAll P h vals args) :
    ∃ a vs ns, vals = [Value.ref a] ∧ args = [WData.list (ns.map WData.int)] ∧ h.get? a = some { cls := .type "list", data := .seq vs.toArray } ∧ IntsAre vs ns ∧ ns.length ≤ n := by
  have hsh : WShape.hasAll [] args [.list .int] = true := (pre_splitW hpre).1
  have hc : l.pre.holds [] { args := args } = true := (pre_splitW hpre).2
  obtain ⟨d, r, rfl, h1, h2⟩ := hasAllW_cons hsh
  obtain rfl := hasAllW_nil h2
  obtain ⟨xs, rfl, h3⟩ := hasW_list h1
  obtain ⟨ns, rfl⟩ := items_int h3
  have hlen : ns.length ≤ n := by
    unfold OpenLaw.pre at hc
    have h4 : (WTm.not (.lt (.lit (.int (n : Int))) (.len (.arg 0)))).holds [] { args := [.list (ns.map .int)] } = true := by
      have h4 := (holds_andW hc).1
      rw [hn] at h4
      exact h4
    have h5 := condW_of h4 (w_not (w_lt w_lit (w_len_list (w_arg rfl))))
    rw [List.length_map] at h5
    refine Nat.le_of_not_lt fun q => ?_
    have q' : (n : Int) < ((ns.length : Nat) : Int) := by omega
    first
      | (rw [decide_eq_true q'] at h5; exact absurd h5 (by decide))
      | (simp at h5; omega)
  cases hwl with
  | cons w1 w2 =>
    cases w2
    cases w1 with
    | list ho hall => exact ⟨_, _, ns, rfl, rfl, ho, ints_of_wellAll ns _ hall, hlen⟩

theorem post_true (l : OpenLaw) (args : List WData) : l.row.toRowW.claim.post args (.bool true) args = true :=
  postW_of (r := l.row.toRowW) (X := (true == true))
    (show WShape.has [] (.bool true) .bool = true by first | rfl | decide | simp [WShape.has, WShape.arms, WShape.armsAll])
    (show (WTm.eq .res (.lit (.bool true))).value [] { args := args, res := some (.bool true), after := args } = some (.bool (true == true)) from w_eq_bool (w_res rfl) w_lit) rfl

/-! ### the attachment: holds_open's last premise (the goal 'hc' behind k_head) from a wpAny of the law's body -/
/-- the same from a codeAny of the CALL (for a layer whose function contracts speak of calls) -/
theorem attach_call {l : OpenLaw} {n : Nat} {q : Program} {loose : List Str} {XP : (Str → Option Value) → Heap → Prop} {YP : World → Heap → Prop} {d : DefRec}
    (hn : l.most = some n) (hdf : d.params.defaults = [])
    (call : ∀ (w : World) (s₀ s₁ : Shared) (mg mb : Str → Option Value) (fa : Addr) (o : Obj) (pm cd doc : Value) (a : Addr) (vs : List Value) (ns : List Int),
      Ground q loose [] XP w s₀ mg mb s₁.heap → YP w s₁.heap →
      s₁.heap.get? fa = some o → o.data = .func (docDef d.name d.params d.body d.scope pm cd doc) → s₁.heap.CodeRec cd d.name → mg d.name = some (.ref fa) →
      s₁.heap.get? a = some { cls := .type "list", data := .seq vs.toArray } → IntsAre vs ns → ns.length ≤ n → s₁.gens = #[] →
      codeAny (model l.prog w) callerA (.call (.ref fa) ⟨[.ref a], []⟩) (fun r s' => r = .ok (.ret (.bool true)) ∧ OldK s₁.heap s'.heap ∧ s'.os = s₁.os ∧ AllBare s'.gens) s₁) :
    WalkO q loose XP YP l.row.toRowW d [] (fun f vs => PySem.call f vs) := by
  intro w s₀ s₁ mg mb G Y fa o pm cd doc dV kV ho hd hcd hD hmg hg args vals as hpre hlay hrd hwl hlo
  obtain rfl : dV = .none := Dflts.none hD hdf
  obtain rfl : kV = .none := Dflts.noKw hD
  obtain ⟨a, vs, ns, rfl, rfl, hobj, hints, hlen⟩ := script_of hn hpre hwl
  refine enter_call (codeAny_mono (call w s₀ s₁ mg mb fa o pm cd doc a vs ns G Y ho (fd_plain hd) hcd hmg hobj hints hlen hg) fun r s' hq => ?_)
  obtain ⟨rfl, h2, h3, h4⟩ := hq
  exact ⟨.inl ⟨.bool true, .bool true, [], rfl, fun _ => rfl, .bool true, post_true l _, fun _ => ⟨List.Pairwise.nil, fun _ hm => (nomatch hm)⟩⟩, h2, h3, h4⟩

/-! ### rules over ANY heap (no ledger) from facts about the written part K: the library's own take a ledger (News) for what they write -/
section
variable {prog : Program} {w : World} {A : Around} {E : Value → Shared → Prop} {s : Shared} {K : Frag}

/-! the whole heap as the ledger: makes every rule that writes through a ledger a rule over any heap -/
def noObjs (h : Heap) : Heap := { h with objs := #[] }
def ledger (h : Heap) (L d : Addr) : List (Addr × Obj) := (List.range h.objs.size).filterMap fun a => if a = L ∨ a = d then none else (h.get? a).map fun o => (a, o)
end
end Att

namespace L2
open PySem PySem.Spec PyProof.Rows

theorem vals_ints : ∀ {vs : List Value} {ns : List Int}, IntsAre vs ns → Vals (ns.map V.int) vs
  | _, _, .nil => .nil
  | _, _, .cons n t h => .cons ⟨t, rfl⟩ (vals_ints h)

/-- nothing is tracked but the script, known to the object (or it is an object of the module) -/
def Only (H : Hp) : Prop := ∀ b, H b = none ∨ ∃ o xs, H b = some (.frz o (.lst xs))

end L2

namespace L2
open PySem PySem.Spec PyProof.Rows

abbrev KOf {K : PySem.W.Frag} {h : Heap} (_ : K.In h) : PySem.W.Frag := K

end L2



/-! SHORT WORDS over the layer: a def of the text, its body, what a loop and a test want. -/
namespace L2
open PySem PySem.Spec PyProof.Rows

/-! ### the text by places -/
/-- the j-th statement of a class's body -/
def inClass (s : Stmt) (j : Nat) : Stmt := match s with
  | .ClassDef _ _ _ body _ _ _ _ _ _ _ => body.getD j (.Pass ⟨0, 0, 0, 0⟩)
  | _ => .Pass ⟨0, 0, 0, 0⟩
def defArgs (s : Stmt) : Arguments := match s with
  | .FunctionDef _ a _ _ _ _ _ _ _ _ => a
  | _ => { posonlyargs := [], args := [], vararg := none, kwonlyargs := [], kw_defaults := [], kwarg := none, defaults := [] }
def defBody (s : Stmt) : List Stmt := match s with
  | .FunctionDef _ _ b _ _ _ _ _ _ _ => b
  | _ => []
def defScope (s : Stmt) : Scope := match s with
  | .FunctionDef _ _ _ _ _ _ sc _ _ _ => sc
  | _ => { kind := .function, names := [], isGenerator := false, isCoroutine := false }

/-! ### no exception leaves a def -/
abbrev CX0 : CXT := fun _ _ _ _ _ _ => False
abbrev E0 : XK := fun _ _ _ => False
theorem pass0 {X : Cx} : Passes CX0 X E0 := fun _ _ _ _ _ _ _ h => h.elim

/-! ### a def (or method) of the text as it stands behind the top -/
structure Fun (K : PySem.W.Frag) (x qual : Str) (st : Stmt) (f : Addr) (fd : FuncData) : Prop where
  ex : ∃ (oc : Value) (od : Option Addr) (kV doc pm : Value) (an : Option Addr) (cdv ct : Value) (osl : Array (Option Value)),
    fd = PySem.W.fnOf x qual (defArgs st) (defBody st) (defScope st) .none kV doc pm an cdv ct ∧ K.lookup f = some ⟨oc, od, .func fd, osl⟩ ∧ PySem.W.codeIn K cdv qual = true
  kp : PySem.W.keepIn K (.ref f) = true
section
variable {P : Program} {w : World} {K : PySem.W.Frag} {mg : Str → Option Value} {base : Heap}
/-- THE RULE for a def: its body as a term of rules, and the reading of that term -/
theorem Fun.ok {x qual : Str} {st : Stmt} {f : Addr} {fd : FuncData} {N ps : List Str} {k : Nat} {sp : Sp} (F : Fun K x qual st f fd) (S : FnScope N ps (defScope st)) (len : ∀ vs H Q E, sp vs H Q E → vs.length = ps.length)
    (hbody : ∀ (cdv : Value) (A : Around) (outer : List Env) (s : Shared) (H : Hp) (vs : List V) (Q : VK) (E : XK), Room k (A.deeper (envOfC qual (defScope st) s.heap.objs.size f cdv)) → sp vs H Q E →
      ∃ t, PSs (cxOf CX0 P w K mg base N qual (defScope st) f cdv A outer s H E).nox (defBody st) t ∧ t { nx := fun _ H' => Q .non H', rt := Q } (start N vs) H) : FnOk P w K mg base CX0 (k + 1) f fd ps sp := by
  obtain ⟨oc, od, kV, doc, pm, an, cdv, ct, osl, rfl, lk, hcd⟩ := F.ex
  refine fn_of lk hcd S len fun A outer s H vs Q E hr hsp => ?_
  obtain ⟨t, h, q⟩ := hbody cdv A outer s H vs Q E hr hsp
  exact ⟨t, h.nox, q⟩
/-- how its arguments bind (no defaults): h is «fun _ _ _ _ _ _ us hl => match us, hl with | [_, _], _ => rfl», one _ a parameter -/
theorem Fun.binds {x qual : Str} {st : Stmt} {f : Addr} {fd : FuncData} {ps : List Str} (F : Fun K x qual st f fd)
    (h : ∀ (kV doc pm : Value) (an : Option Addr) (cdv ct : Value) (us : List Value), us.length = ps.length → bindArgs (PySem.W.fnOf x qual (defArgs st) (defBody st) (defScope st) .none kV doc pm an cdv ct) ⟨us, []⟩ = pure (ps.zip us)) : Binds K fd ps [] := by
  obtain ⟨oc, od, kV, doc, pm, an, cdv, ct, osl, rfl, lk, hcd⟩ := F.ex
  exact .all (h kV doc pm an cdv ct)
theorem fun_mk {x qual : Str} {st : Stmt} {f : Addr} {oc : Value} {od an : Option Addr} {osl : Array (Option Value)} {kV doc pm cdv ct : Value} (l : K.lookup f = some ⟨oc, od, .func (PySem.W.fnOf x qual (defArgs st) (defBody st) (defScope st) .none kV doc pm an cdv ct), osl⟩)
    (c : PySem.W.codeIn K cdv qual = true) (k : PySem.W.keepIn K (.ref f) = true) : Fun K x qual st f (PySem.W.fnOf x qual (defArgs st) (defBody st) (defScope st) .none kV doc pm an cdv ct) := ⟨⟨oc, od, kV, doc, pm, an, cdv, ct, osl, rfl, l, c⟩, k⟩
end
/-! ### expressions in short: the name that stands in the i-th slot -/
section
variable {X : Cx}
theorem pv (i : Nat) {x : Str} {pos : Pos} (hN : X.N[i]? = some x := by rfl) (hv : Vis X.env.scope x := by first | exact Or.inl rfl | exact Or.inr (Or.inl rfl) | exact Or.inr (Or.inr rfl)) (hd : (x == ("__debug__" : Str)) = false := by decide)
    (hcd : (x == ("__classdict__" : Str)) = false := by decide) : PE X (.Name x pos) (tVar i) := pe_var hN hv hd hcd
end

/-! ### tests -/
theorem iteF {A B : Prop} (h : B) : if false = true then A else B := by
  rw [if_neg Bool.false_ne_true]
  exact h
theorem iteT {A B : Prop} (h : A) : if true = true then A else B := by
  rw [if_pos rfl]
  exact h
theorem ite2 {c A B : Prop} [Decidable c] (h1 : c → A) (h2 : ¬ c → B) : if c then A else B := by
  by_cases h : c
  · rw [if_pos h]
    exact h1 h
  · rw [if_neg h]
    exact h2 h
/-! ### heaps -/
/-- all that was tracked is as it was -/
def Same (H H' : Hp) : Prop := ∀ b o, H b = some o → H' b = some o
theorem Same.refl (H : Hp) : Same H H := fun _ _ h => h
theorem Same.trans {H H1 H2 : Hp} (a : Same H H1) (b : Same H1 H2) : Same H H2 := fun c o h => b c o (a c o h)
theorem Same.free {H H' : Hp} (e : Same H H') {l : Addr} (h : H' l = Option.none) : H l = Option.none := by
  cases q : H l with
  | none => rfl
  | some o =>
    rw [e l o q] at h
    cases h
theorem Same.seq {K : PySem.W.Frag} {H H' : Hp} {a : Addr} {xs : List V} (e : Same H H') (h : SqL K H a xs) : SqL K H' a xs := by
  rcases h with (h | ⟨o, h⟩) | h
  · exact .inl (.inl (e _ _ h))
  · exact .inl (.inr ⟨o, e _ _ h⟩)
  · exact .inr h

end L2
namespace L2
open PySem PySem.Spec PyProof.Rows

/-! ### lists of pairs as tables -/
section
variable {κ : Type} [DecidableEq κ]
def valV (kvs : List (κ × V)) (k : κ) : Option V := (kvs.find? fun kv => decide (kv.1 = k)).map (·.2)
/-- in its place, or at the end -/
def putK (kvs : List (κ × V)) (k : κ) (v : V) : List (κ × V) :=
  if (kvs.any fun kv => decide (kv.1 = k)) = true then kvs.map (fun kv => if kv.1 = k then (kv.1, v) else kv) else kvs ++ [(k, v)]
def dropK (kvs : List (κ × V)) (k : κ) : List (κ × V) := kvs.filter fun kv => decide (kv.1 ≠ k)

end


/-! ### a tracked dict, its keys ints and texts or tuples of these -/
/-- raw entries of a dict with tuple keys -/
abbrev KT (H : Hp) : List (List Key × V) → List (List Key × Addr × Value) → Prop := Paired fun p q => p.1 = q.1 ∧ H q.2.1 = some (.tup (p.1.map kV)) ∧ RelV p.2 q.2.2
section
variable {P : Program} {w : World} {H : Hp} {h : Heap} {a : Addr}
end

/-- what the dict at a holds at the key y -/
def DGet (H : Hp) (a : Addr) (y : V) (r : Option V) : Prop :=
  (∃ kvs k, Rd H a (.dK kvs) ∧ y = kV k ∧ r = valV kvs k) ∨ ∃ kvs k b, Rd H a (.dT kvs) ∧ y = .ref b ∧ H b = some (.tup (k.map kV)) ∧ r = valV kvs k
/-- the heap behind a[y] = v -/
def DPut (H : Hp) (a : Addr) (y v : V) (H' : Hp) : Prop :=
  (∃ kvs k, H a = some (.dK kvs) ∧ y = kV k ∧ kvs.length < sizeLine ∧ H' = upd H a (.dK (putK kvs k v))) ∨
  ∃ kvs k b, H a = some (.dT kvs) ∧ y = .ref b ∧ H b = some (.tup (k.map kV)) ∧ kvs.length < sizeLine ∧ H' = upd H a (.dT (putK kvs k v))
section
variable {X : Cx} {pins : List (Addr × Obj)} {σ : St} {H : Hp} {s : Shared} {a : Addr} {y v : V} {u r : Value} {o : Option V} {A : Around} {E : Value → Shared → Prop}

end

section
variable {X : Cx} {pins : List (Addr × Obj)} {σ : St} {H : Hp} {s : Shared} {a : Addr} {kvs : List (Key × V)} {k : Key} {u : Value} {A : Around} {E : Value → Shared → Prop}
end


/-! ### readings and rules -/
/-- the element of a subscription, not a slice -/
def NoSl (i : Expr) : Prop := ∀ ov iv, subscripted i false ov iv = operate [ov, iv] (getItem ov iv)
/-- d[y] -/
def tDGet (td ty : TE) : TE := fun σ H Q => td σ H fun x H1 => ty σ H1 fun y H2 => ∃ a v, x = .ref a ∧ DGet H2 a y (some v) ∧ Q v H2
/-- y in d, y not in d -/
def tDIn (ty td : TE) : TE := fun σ H Q => ty σ H fun y H1 => td σ H1 fun x H2 => ∃ a o, x = .ref a ∧ DGet H2 a y o ∧ Q (.bl o.isSome) H2
def tDNotIn (ty td : TE) : TE := fun σ H Q => ty σ H fun y H1 => td σ H1 fun x H2 => ∃ a o, x = .ref a ∧ DGet H2 a y o ∧ Q (.bl (!o.isSome)) H2
/-- d[y] = v -/
def sDPut (td ty tv : TE) : TS := fun D σ H => tv σ H fun v H1 => td σ H1 fun x H2 => ty σ H2 fun y H3 => ∃ a H4, x = .ref a ∧ DPut H3 a y v H4 ∧ D.nx σ H4
/-- d[y] op= v -/
def sDAug (td ty tv : TE) (rd : V → V → Hp → VK → Prop) : TS := fun D σ H => td σ H fun x H1 => ty σ H1 fun y H2 => ∃ a v, x = .ref a ∧ DGet H2 a y (some v) ∧
  tv σ H2 fun y2 H3 => rd v y2 H3 fun z H4 => ∃ H5, DPut H4 a y z H5 ∧ D.nx σ H5
/-- del d[y] -/
def sDDel (td ty : TE) : TS := fun D σ H => td σ H fun x H1 => ty σ H1 fun y H2 => ∃ a kvs k, x = .ref a ∧ H2 a = some (.dK kvs) ∧ y = kV k ∧ (valV kvs k).isSome = true ∧ D.nx σ (upd H2 a (.dK (dropK kvs k)))

section
variable {X : Cx} {o i e value : Expr} {pos pos' tpos : Pos} {td ty tv : TE}
end


/-! ### displays -/
/-- {}, to be a dict of the kind that is wanted -/
def tDNewK : TE := fun _ H Q => ∀ p, H p = none → Q (.ref p) (upd H p (.dK []))
def tDNewT : TE := fun _ H Q => ∀ p, H p = none → Q (.ref p) (upd H p (.dT []))
section
variable {X : Cx} {pos : Pos}
end

/-- the pairs of a display, from the left -/
def tPairs : List (TE × TE) → St → Hp → (List (V × V) → Hp → Prop) → Prop
  | [], _, H, Q => Q [] H
  | (tk, tv) :: r, σ, H, Q => tk σ H fun x H1 => tv σ H1 fun y H2 => tPairs r σ H2 fun ps H3 => Q ((x, y) :: ps) H3
abbrev VV : List (V × V) → List (Value × Value) → Prop := Paired fun p q => RelV p.1 q.1 ∧ RelV p.2 q.2
def PPs (X : Cx) (pos : Pos) (keys : List (Option Expr)) (values : List Expr) (trs : List (TE × TE)) : Prop :=
  ∀ (pins : List (Addr × Obj)) (s : Shared) (σ : St) (H : Hp) (Q : List (V × V) → Hp → Prop), Inv X pins σ H s → tPairs trs σ H Q →
    wpAny (model X.prog X.w) X.A (evalPairs (pairTrees keys values X.env pos)) (fun vs s' => ∃ ps H', Inv X pins σ H' s' ∧ VV ps vs ∧ Q ps H') X.xe s
def mergeK (kvs more : List (Key × V)) : List (Key × V) := more.foldl (fun acc kv => putK acc kv.1 kv.2) kvs
/-- {k: v, ..} with keys ints and texts; the new dict stands empty while the pairs are made -/
def tDisp (trs : List (TE × TE)) : TE := fun σ H Q => ∀ p, H p = none → tPairs trs σ (upd H p (.dK [])) fun ps H2 => H2 p = some (.dK []) ∧ ∃ kvs : List (Key × V), ps = kvs.map (fun kv => (kV kv.1, kv.2)) ∧ kvs.length ≤ 15 ∧ Q (.ref p) (upd H2 p (.dK (mergeK [] kvs)))
/-! ### methods -/
/-- a method call o.m(e) of a built-in, with one argument: what must be seen of the text -/
structure M1 (X : Cx) (o : Expr) (m : Str) (apos : Pos) (e : Expr) (cpos : Pos) : Prop where
  base : attributeBase o m X.env (eval o X.env) = eval o X.env
  few : ((backTo cpos (starEach [e] X.env)).all (fun x => !x.1) && (backToKw cpos (keywordEach [] X.env)).all (fun x => x.1.isSome)
    && decide (([e] : List Expr).length + ([] : List Keyword).length + (if ([] : List Keyword).isEmpty then 0 else 1) < 30)) = true
  line : (apos.endLine == cpos.line) = true
  trees : backTo cpos (starEach [e] X.env) = [(false, eval e X.env)]
structure M2 (X : Cx) (o : Expr) (m : Str) (apos : Pos) (e f : Expr) (cpos : Pos) : Prop where
  base : attributeBase o m X.env (eval o X.env) = eval o X.env
  few : ((backTo cpos (starEach [e, f] X.env)).all (fun x => !x.1) && (backToKw cpos (keywordEach [] X.env)).all (fun x => x.1.isSome)
    && decide (([e, f] : List Expr).length + ([] : List Keyword).length + (if ([] : List Keyword).isEmpty then 0 else 1) < 30)) = true
  line : (apos.endLine == cpos.line) = true
  trees : backTo cpos (starEach [e, f] X.env) = [(false, eval e X.env), (false, eval f X.env)]

/-- a is a dict, whatever its keys -/
def IsD (H : Hp) (a : Addr) : Prop := (∃ kvs, Rd H a (.dK kvs)) ∨ ∃ kvs, Rd H a (.dT kvs)
section
variable {X : Cx} {pins : List (Addr × Obj)} {σ : St} {H : Hp} {s : Shared} {a : Addr} {y d : V} {u r : Value} {o : Option V} {A : Around} {E : Value → Shared → Prop}
end

def tDGet1 (td ty : TE) : TE := fun σ H Q => td σ H fun x H1 => ∃ a, x = .ref a ∧ IsD H1 a ∧ ty σ H1 fun y H2 => ∃ o, DGet H2 a y o ∧ Q (o.getD .non) H2
def tDGet2 (td ty tx : TE) : TE := fun σ H Q => td σ H fun x H1 => ∃ a, x = .ref a ∧ IsD H1 a ∧ ty σ H1 fun y H2 => tx σ H2 fun z H3 => ∃ o, DGet H3 a y o ∧ Q (o.getD z) H3
/-- d.pop(k): there; d.pop(k, x): there or not -/
def tDPop1 (td ty : TE) : TE := fun σ H Q => td σ H fun x H1 => ∃ a, x = .ref a ∧ IsD H1 a ∧ ty σ H1 fun y H2 => ∃ kvs k v, H2 a = some (.dK kvs) ∧ y = kV k ∧ valV kvs k = some v ∧ Q v (upd H2 a (.dK (dropK kvs k)))
def tDPop2 (td ty tx : TE) : TE := fun σ H Q => td σ H fun x H1 => ∃ a, x = .ref a ∧ IsD H1 a ∧ ty σ H1 fun y H2 => tx σ H2 fun z H3 => ∃ kvs k, H3 a = some (.dK kvs) ∧ y = kV k ∧
  (∀ v, valV kvs k = some v → Q v (upd H3 a (.dK (dropK kvs k)))) ∧ (valV kvs k = none → Q z H3)
section
variable {X : Cx} {o e f : Expr} {apos cpos : Pos} {td ty tx : TE}
end

/-! ### dict(d): a copy -/
section
variable {X : Cx} {pins : List (Addr × Obj)} {σ : St} {H : Hp} {s : Shared} {a : Addr} {kvs : List (Key × V)} {A : Around} {E : Value → Shared → Prop}
end


section
variable {X : Cx} {pins : List (Addr × Obj)} {σ : St} {H : Hp} {s : Shared} {a : Addr} {y : V} {u : Value} {A : Around} {E : Value → Shared → Prop}
end
end L2
namespace L2
open PySem PySem.Spec PyProof.Rows

theorem closure_fold (env : Env) : ∀ (names : List (Str × NameKind)) (cs : List (Str × Addr)), (∀ x, (x, NameKind.free) ∈ names → ∃ c, env.cells.lookup x = some c) →
    ∃ cl, (forIn names cs fun (p : Str × NameKind) (cs : List (Str × Addr)) => (if (p.2 == NameKind.free) = true then (do let c ← cellOf env p.1; pure (ForInStep.yield ((p.1, c) :: cs))) else pure (ForInStep.yield cs) : Sem (ForInStep (List (Str × Addr))))) = pure cl ∧
      (∀ x c, cl.lookup x = some c → env.cells.lookup x = some c ∨ cs.lookup x = some c) ∧ (∀ x, (x, NameKind.free) ∈ names → ∃ c, cl.lookup x = some c) ∧ (∀ x c, cs.lookup x = some c → ∃ d, cl.lookup x = some d)
  | [], cs, _ => ⟨cs, by simp, fun _ _ h => .inr h, (fun _ h => nomatch h), fun x c h => ⟨c, h⟩⟩
  | (n, k) :: r, cs, h => by
    by_cases hk : k = NameKind.free
    · subst hk
      obtain ⟨c, hc⟩ := h n (List.mem_cons_self ..)
      obtain ⟨cl, e, a, b, d⟩ := closure_fold env r ((n, c) :: cs) (fun x hx => h x (List.mem_cons_of_mem _ hx))
      have hcell : cellOf env n = pure c := by unfold cellOf; rw [hc]
      refine ⟨cl, ?_, fun x c' hx => ?_, fun x hx => ?_, fun x c' hx => ?_⟩
      · rw [List.forIn_cons]
        simp only [beq_self_eq_true, if_true, hcell, pure_bind]
        exact e
      · rcases a x c' hx with q | q
        · exact .inl q
        · rw [List.lookup_cons] at q
          by_cases hxn : (x == n) = true
          · rw [hxn] at q
            have hx' : x = n := by simpa using hxn
            subst hx'
            have : c = c' := by simpa using q
            subst this
            exact .inl hc
          · rw [Bool.eq_false_iff.mpr hxn] at q
            exact .inr q
      · rcases List.mem_cons.mp hx with q | q
        · have hx' : x = n := congrArg Prod.fst q
          subst hx'
          exact d x c (by rw [List.lookup_cons]; simp)
        · exact b x q
      · have : ∃ d', ((n, c) :: cs).lookup x = some d' := by
          rw [List.lookup_cons]
          by_cases hxn : (x == n) = true
          · rw [hxn]; exact ⟨c, rfl⟩
          · rw [Bool.eq_false_iff.mpr hxn]; exact ⟨c', hx⟩
        obtain ⟨d', hd'⟩ := this
        exact d x d' hd'
    · obtain ⟨cl, e, a, b, d⟩ := closure_fold env r cs (fun x hx => h x (List.mem_cons_of_mem _ hx))
      have hkf : (k == NameKind.free) = false := by simpa using hk
      refine ⟨cl, ?_, a, fun x hx => ?_, d⟩
      · rw [List.forIn_cons]
        simp only [hkf, Bool.false_eq_true, if_false, pure_bind]
        exact e
      · rcases List.mem_cons.mp hx with q | q
        · exact absurd (congrArg Prod.snd q).symm hk
        · exact b x q
theorem closure_ok (env : Env) (scope : Scope) (h : ∀ x, (x, NameKind.free) ∈ scope.names → ∃ c, env.cells.lookup x = some c) :
    ∃ cl, closureFor scope env = pure cl ∧ (∀ x c, cl.lookup x = some c → env.cells.lookup x = some c) ∧ (∀ x, (x, NameKind.free) ∈ scope.names → ∃ c, cl.lookup x = some c) := by
  obtain ⟨cl, e, a, b, _⟩ := closure_fold env scope.names [] h
  refine ⟨cl, ?_, fun x c hx => (a x c hx).elim id (fun z => by simp at z), b⟩
  unfold closureFor
  simp only [bind_pure]
  exact e

/-- the context of a comprehension's block -/
def cxC (X : Cx) (scope : Scope) (N' : List Str) (cl : List (Str × Addr)) (C : Addr) (s₀ : Shared) (H₀ : Hp) (fp : List Addr) (pn : List (Addr × Obj)) : Cx :=
  { X with N := N', s₀ := s₀, H₀ := H₀, env := compEnvC scope cl C X.env, outer := X.stack, ex := fp, fn := fun _ => false, pn := pn, xe := fun _ _ => False }
/-- which names of the block are the frame's own slots -/
inductive Cap (X : Cx) (scope : Scope) : List (Option Nat) → List Str → Prop
  | nil : Cap X scope [] []
  | own {x src N'} : Cap X scope src N' → Cap X scope (none :: src) (x :: N')
  | cap {x i src N'} : X.N[i]? = some x → scope.names.lookup x = some NameKind.free → (X.env.scope.names.lookup x = some NameKind.cell ∨ X.env.scope.names.lookup x = some NameKind.free) → Cap X scope src N' → Cap X scope (some i :: src) (x :: N')
def capSt (src : List (Option Nat)) (σ : St) : St := src.map fun o => match o with | none => none | some i => σ.getD i none
theorem Cap.length {X : Cx} {scope : Scope} : ∀ {src : List (Option Nat)} {N' : List Str}, Cap X scope src N' → src.length = N'.length
  | _, _, .nil => rfl
  | _, _, .own h => congrArg (· + 1) h.length
  | _, _, .cap _ _ _ h => congrArg (· + 1) h.length
theorem Cap.get {X : Cx} {scope : Scope} {σ : St} : ∀ {src : List (Option Nat)} {N' : List Str}, Cap X scope src N' → ∀ (j : Nat) (x : Str) (v : V), N'[j]? = some x → (capSt src σ)[j]? = some (some v) →
    ∃ i : Nat, X.N[i]? = some x ∧ σ[i]? = some (some v) ∧ scope.names.lookup x = some NameKind.free ∧ (X.env.scope.names.lookup x = some NameKind.cell ∨ X.env.scope.names.lookup x = some NameKind.free)
  | _, _, .nil, j, x, v, h, _ => by simp at h
  | _, _, .own h, 0, x, v, _, e => by simp [capSt] at e
  | _, _, .own h, j + 1, x, v, e1, e2 => h.get j x v (by simpa using e1) (by simpa [capSt] using e2)
  | _, _, .cap (x := y) (i := i) hN hf hk h, 0, x, v, e1, e2 => by
    have ex : y = x := by simpa using e1
    subst ex
    refine ⟨i, hN, ?_, hf, hk⟩
    simp only [capSt, List.map_cons, List.getElem?_cons_zero, Option.some.injEq] at e2
    rw [List.getD_eq_getElem?_getD] at e2
    cases q : σ[i]? with
    | none => rw [q] at e2; simp at e2
    | some o => rw [q] at e2; simp at e2; rw [e2]
  | _, _, .cap hN hf hk h, j + 1, x, v, e1, e2 => h.get j x v (by simpa using e1) (by simpa [capSt] using e2)

theorem lookup_relabel (env : Env) (x : Str) : ∀ {names : List (Str × NameKind)},
    (names.map fun (n, k) => if (k == NameKind.free && env.scope.kind == .function && env.kindOf n == some .cell) then (n, NameKind.cell) else (n, k)).lookup x =
      (names.lookup x).map fun k => if (k == NameKind.free && env.scope.kind == .function && env.kindOf x == some .cell) then NameKind.cell else k
  | [] => rfl
  | (n, k) :: r => by
    have ih := @lookup_relabel env x r
    rw [List.map_cons]
    dsimp only
    by_cases hx : (x == n) = true
    · have e : x = n := by simpa using hx
      subst e
      by_cases hc : (k == NameKind.free && env.scope.kind == .function && env.kindOf x == some .cell) = true
      · rw [if_pos hc, List.lookup_cons, List.lookup_cons, hx]
        simp only [Option.map_some]
        rw [if_pos hc]
      · rw [if_neg hc, List.lookup_cons, List.lookup_cons, hx]
        simp only [Option.map_some]
        rw [if_neg hc]
    · have hx' := Bool.eq_false_iff.mpr hx
      by_cases hc : (k == NameKind.free && env.scope.kind == .function && env.kindOf n == some .cell) = true
      · rw [if_pos hc]; simp only [List.lookup_cons, hx']; exact ih
      · rw [if_neg hc]; simp only [List.lookup_cons, hx']; exact ih
theorem lookup_mem_free {names : List (Str × NameKind)} {x : Str} (h : names.lookup x = some NameKind.free) : (x, NameKind.free) ∈ names := PySem.mem_of_lookup h

section
variable {X : Cx}
/-- the block's first state -/
theorem inv_comp {scope : Scope} {N' : List Str} {src : List (Option Nat)} {cl : List (Str × Addr)} {pins : List (Addr × Obj)} {σ : St} {H : Hp} {s s' : Shared} {h' : Heap} {tk : Nat} {fp : List Addr} {m : Str → Option Value}
    (hk : scope.kind = .function) (hcell : ∀ y ∈ scope.names, y.2 ≠ .cell) (hcap : Cap X scope src N')
    (a : ∀ x c, cl.lookup x = some c → X.env.cells.lookup x = some c) (b : ∀ x, (x, NameKind.free) ∈ scope.names → ∃ c, cl.lookup x = some c)
    (I : Inv X pins σ H s) (hf : ∀ b ∈ fp, FpOk X pins H b) (hfl : ∀ b ∈ fp, b < s.heap.objs.size) (es' : s' = { s with heap := h', toks := tk })
    (keep : ∀ b o, s.heap.get? b = some o → h'.get? b = some o) (hn : h'.Ns s.heap.objs.size m) :
    Inv (cxC X scope N' cl s.heap.objs.size s H fp (X.pn ++ pins)) [] (capSt src σ) H s' := by
  subst es'
  have kindOf : ∀ x, (compEnvC scope cl s.heap.objs.size X.env).kindOf x = (scope.names.lookup x).map fun k => if (k == NameKind.free && X.env.scope.kind == .function && X.env.kindOf x == some .cell) then NameKind.cell else k := fun x => lookup_relabel X.env x
  have freeOf : ∀ x, ((compEnvC scope cl s.heap.objs.size X.env).kindOf x = some .cell ∨ (compEnvC scope cl s.heap.objs.size X.env).kindOf x = some .free) → scope.names.lookup x = some .free := fun x h => by
    rw [kindOf] at h
    cases q : scope.names.lookup x with
    | none => rw [q] at h; simp at h
    | some k =>
      rw [q] at h
      by_cases hkf : k = NameKind.free
      · rw [hkf]
      · have hkf' : (k == NameKind.free) = false := by simpa using hkf
        simp only [Option.map_some, hkf', Bool.false_and, Bool.false_eq_true, if_false] at h
        rcases h with h | h
        · exact absurd (Option.some.inj h) (hcell _ (PySem.mem_of_lookup q))
        · exact absurd (Option.some.inj h) hkf
  refine ⟨⟨I.ok.mod, hk, I.ok.glob, I.ok.blt, Nat.le_refl _, fun x y c h1 h2 => I.ok.inj x y c (a x c h1) (a y c h2), fun x hx => b x (lookup_mem_free (freeOf x hx)), (fun x c z _ => nomatch z), I.ok.hd, I.ok.frames, .inl rfl, fun b' hb => ?_, I.bs, Nat.le_trans I.ok.bsz I.sz, fun b' o e hb => ?_, fun b' hb z => ?_, I.stack, I.stkFree⟩,
    rfl, I.bare, Un.kept keep, ⟨m, hn, fun j x v h1 h2 h3 => ?_⟩, fun x c h => ?_, I.hok.fresh (Nat.le_refl _), fun x c h => I.freeC x c (a x c h), fun p hp => ?_, I.hok.kept keep, ?_⟩
  · obtain ⟨f0, f1, f2, f3, f4, f5⟩ := hf b' hb
    exact ⟨Nat.ne_of_lt (hfl b' hb), fun x c h => f4 x c (a x c h)⟩
  · obtain ⟨f0, f1, f2, f3, f4, f5⟩ := hf b' hb
    rcases f3 with z | z
    · exact I.ok.noex b' o e z
    · exact absurd (Nat.lt_of_lt_of_le (Heap.lt_size e) (Nat.le_trans I.ok.bsz z)) (Nat.lt_irrefl _)
  · obtain ⟨f0, f1, f2, f3, f4, f5⟩ := hf b' hb
    rcases List.mem_cons.mp (I.stkSub b' z) with e | e
    · exact f1 e
    · exact f2 e
  · obtain ⟨i, e1, e2, e3, e4⟩ := hcap.get j x v h1 h2
    obtain ⟨m0, hn0, hl⟩ := I.loc
    obtain ⟨u, r, l⟩ := hl i x v e1 e2 (by rcases e4 with e4 | e4; exact .inr (.inl e4); exact .inr (.inr e4))
    refine ⟨u, r, ?_⟩
    rcases l with ⟨l, _⟩ | ⟨k, c, e, z⟩
    · have l' : X.env.scope.names.lookup x = some NameKind.local := l
      rcases e4 with e4 | e4 <;> (rw [e4] at l'; cases l')
    · refine .inr ⟨?_, ?_⟩
      · show (compEnvC scope cl s.heap.objs.size X.env).kindOf x = some .cell ∨ (compEnvC scope cl s.heap.objs.size X.env).kindOf x = some .free
        rw [kindOf, e3]
        simp only [Option.map_some]
        split
        · exact .inl rfl
        · exact .inr rfl
      · obtain ⟨c', hc'⟩ := b x (lookup_mem_free e3)
        have := a x c' hc'
        rw [e] at this
        cases this
        obtain ⟨o, ho, hd⟩ := z
        exact ⟨c, hc', o, keep _ _ ho, hd⟩
  · obtain ⟨v, o, ho, hd⟩ := I.cell x c (a x c h)
    exact ⟨v, o, keep _ _ ho, hd⟩
  · have hp' : p ∈ X.pn ++ pins := by simpa [cxC] using hp
    obtain ⟨e, n, ne, nf, d⟩ := I.pin p hp'
    refine ⟨keep _ _ e, n, Nat.ne_of_lt (Heap.lt_size e), fun z => ?_, d⟩
    rcases List.mem_cons.mp (I.stkSub p.1 z) with q | q
    · exact ne q
    · exact nf q
  · show (capSt src σ).length = N'.length
    rw [← hcap.length]
    simp [capSt]
end
end L2
namespace L2
open PySem PySem.Spec PyProof.Rows

/-! ### list comprehensions of one clause -/
section
variable {prog : Program} {w : World} {A : Around} {R : Result → Shared → Prop} {s : Shared}
/-- the loop, with what goes ahead of the store -/
theorem comp_loop {elt tg iter : Expr} {ifs : List Expr} {scope : Scope} {pos : Pos} {it acc : Value} {env : Env} (J : Nat → Shared → Prop)
    (turn : ∀ n s, J n s → wpAny (model prog w) A (pyNext it) (fun r s₁ => match r with
        | none => R (.ok .next) s₁
        | some v => wpAny (model prog w) A (letOwnedTupleGo tg it v) (fun _ z₁ => wpAny (model prog w) A (assign tg env v) (fun _ s₂ =>
            wpAny (model prog w) A (forIn ifs true fun c r => if r = true then do let ok ← isTrue c env (eval c env); pure (ForInStep.yield ok) else pure (ForInStep.yield r))
              (fun ok s₃ => if ok = true then wpAny (model prog w) A (eval elt env) (fun x s₄ => wpAny (model prog w) A (call (.builtin "list.append") [acc, x]) (fun _ s₅ => ∃ m, m < n ∧ J m s₅) (fun _ _ => False) s₄) (fun _ _ => False) s₃
                else ∃ m, m < n ∧ J m s₃) (fun _ _ => False) s₂) (fun _ _ => False) z₁) (fun _ _ => False) s₁) (fun _ _ => False) s)
    (n : Nat) (h : J n s) : codeAny (model prog w) A (.compLoop (.ListComp elt [⟨tg, iter, ifs, 0⟩] scope pos) 0 it acc env) R s := by
  refine codeAny_loop rfl J (fun n s hJ => ?_) n h
  show wpAny _ A (Sem.onRaise (compTurn (.ListComp elt [⟨tg, iter, ifs, 0⟩] scope pos) 0 it acc env) (fun x => do noteFrame x env; theTreesLotGoes x)) _ _ s
  refine wpAny_noted ?_
  rw [compTurn_list]
  have no : ∀ {E : Value → Shared → Prop}, ∀ (e : Value) (s' : Shared), False → E e s' := fun _ _ f => f.elim
  refine wpAny_bind (wpAny_standAt (wpAny_bind (wpAny_mono (turn n s hJ) (fun r s₁ h₁ => ?_) no)))
  cases r with
  | none => exact wpAny_pure h₁
  | some v =>
    refine wpAny_bind (wpAny_mono h₁ (fun _ z₁ hz => ?_) no)
    refine wpAny_bind (wpAny_mono hz (fun _ s₂ h₂ => wpAny_bind (wpAny_mono h₂ (fun ok s₃ h₃ => ?_) no)) no)
    cases ok with
    | false => exact wpAny_pure ⟨rfl, h₃⟩
    | true =>
      exact wpAny_bind (wpAny_bind (wpAny_mono h₃ (fun x s₄ h₄ => wpAny_bind (wpAny_mono h₄ (fun _ s₅ h₅ => wpAny_pure (wpAny_pure ⟨rfl, h₅⟩)) no)) no))
end

/-- the clause's tests -/
def PTs (X : Cx) (ifs : List Expr) (t : TT) : Prop :=
  ∀ (pins : List (Addr × Obj)) (s : Shared) (σ : St) (H : Hp) (Q : Bool → Hp → Prop), Inv X pins σ H s → t σ H Q →
    wpAny (model X.prog X.w) X.A (forIn ifs true fun c r => if r = true then do let ok ← isTrue c X.env (eval c X.env); pure (ForInStep.yield ok) else pure (ForInStep.yield r)) (TP X pins σ Q) X.xe s
def tYes : TT := fun _ H Q => Q true H
theorem pts_nil {X : Cx} : PTs X [] tYes := fun _ _ _ H _ I h => wpAny_tests_nil ⟨H, I, h⟩
theorem pts_one {X : Cx} {c : Expr} {t : TT} (h : PT X c t) : PTs X [c] t := fun pins s σ H Q I q => wpAny_tests_one (h pins s σ H Q I q)

/-- W: the turn, a measure, the items so far, the block's slots, the heap; N: what a turn is to reach -/
def LC (src : List (Option Nat)) (J : It) (g : TG) (tt : TT) (te : TE) (σ : St) (H1 : Hp) (Q : VK) (D : Addr) : Prop := ∃ W : Nat → Nat → List V → St → Hp → Prop, (∃ m, W 0 m [] (capSt src σ) (upd H1 D (.lst []))) ∧
  ∀ i m ys σ' H2, W i m ys σ' H2 → H2 D = some (.lst ys) ∧ ((J.stop i H2 ∧ Q (.ref D) H2) ∨ (J.go i H2 ∧ ∃ N : List V → St → Hp → Prop, (∀ ys' σ3 H3, N ys' σ3 H3 → ∃ m', m' < m ∧ W (i + 1) m' ys' σ3 H3) ∧ ∀ x H3, J.yld i H2 x H3 → g x σ' H3 fun σ2 H4 => tt σ2 H4 fun b H5 =>
    if b = true then te σ2 H5 fun y H6 => H6 D = some (.lst ys) ∧ ys.length < sizeLine ∧ N (ys ++ [y]) σ2 (upd H6 D (.lst (ys ++ [y])))
    else N ys σ2 H5))
def tLC (src : List (Option Nat)) (wi : TI) (g : TG) (tt : TT) (te : TE) : TE := fun σ H Q => wi σ H fun J H1 => ∀ D, H1 D = none → LC src J g tt te σ H1 Q D
section
variable {X : Cx}
theorem pe_lc {elt tg iter : Expr} {ifs : List Expr} {scope : Scope} {pos : Pos} {src : List (Option Nat)} {N' : List Str} {wi : TI} {g : TG} {tt : TT} {te : TE} (hcap : Cap X scope src N') (hc : X.calm = true) (hi : PI X tg iter wi)
    (hg : ∀ cl C s₀ H₀ fp pn, PG (cxC X scope N' cl C s₀ H₀ fp pn) tg g) (ht : ∀ cl C s₀ H₀ fp pn, PTs (cxC X scope N' cl C s₀ H₀ fp pn) ifs tt) (he : ∀ cl C s₀ H₀ fp pn, PE (cxC X scope N' cl C s₀ H₀ fp pn) elt te)
    (hfree : ∀ x, (x, NameKind.free) ∈ scope.names → X.env.scope.names.lookup x = some NameKind.cell ∨ X.env.scope.names.lookup x = some NameKind.free)
    (hk : scope.kind = .function := by rfl) (hcell : ∀ y ∈ scope.names, y.2 ≠ .cell := by decide) (hnames : ∀ y ∈ scope.names, y.2 = .local → scope.names.lookup y.1 = some .local := by decide +kernel)
    (hs : ∀ x, foldedSetIterable iter X.env x = pure x := by intro _; rfl) : PE X (.ListComp elt [⟨tg, iter, ifs, 0⟩] scope pos) (tLC src wi g tt te) := by
  intro pins s σ H Q I h
  have no : ∀ {E : Value → Shared → Prop}, ∀ (e : Value) (s' : Shared), False → E e s' := fun _ _ f => f.elim
  obtain ⟨cl, hcl, a, b⟩ := closure_ok X.env scope fun x hx => I.ok.has x (hfree x hx)
  rw [eval_ListComp]
  refine wpAny_comprehension_free (use := none) rfl hs hcl hk hnames (thn (hi pins s σ H _ I h) fun v s1 h1 => thn h1 fun itv s2 h2 => ?_)
  obtain ⟨it, fp, tn, J, H2, e, I2, T, st2, f2, q⟩ := h2
  subst e
  have hD : H2 s2.heap.objs.size = none := I2.hok.fresh (Nat.le_refl _)
  obtain ⟨W, ⟨m0, w0⟩, turn⟩ := q s2.heap.objs.size hD
  have I3 := I2.lnew (t' := s2.toks) (ys := []) (its := []) .nil (Nat.zero_le _)
  have fl2 : ∀ b ∈ fp, b < s2.heap.objs.size := fun b hb => by
    obtain ⟨o, e, _⟩ := T.obj _ _ st2 b hb
    exact Heap.lt_size e
  refine wpAny_newObj_type ?_
  generalize es3 : ({ s2 with heap := s2.heap.push { cls := .type "list", dict := none, data := .seq ([] : List Value).toArray } } : Shared) = s3
  have I3' : Inv X pins σ (upd H2 s2.heap.objs.size (.lst [])) s3 := es3 ▸ I3
  have keep3 : ∀ b o, s2.heap.get? b = some o → s3.heap.get? b = some o := fun b o e => by rw [← es3]; exact Heap.get?_push_of_some _ e
  have st3 : tn 0 s3.heap := T.keep _ _ _ st2 fun b _ o e => keep3 b o e
  have fl3 : ∀ b ∈ fp, b < s3.heap.objs.size := fun b hb => by
    obtain ⟨o, e, _⟩ := T.obj _ _ st3 b hb
    exact Heap.lt_size e
  have f3 : ∀ b ∈ fp, FpOk X pins (upd H2 s2.heap.objs.size (.lst [])) b := fun b hb => ⟨by rw [upd_ne (Nat.ne_of_lt (fl2 b hb))]; exact (f2 b hb).1, (f2 b hb).2⟩
  generalize eD : s2.heap.objs.size = D at *
  generalize eH3 : upd H2 D (.lst []) = H3 at *
  refine wpAny_newFunctionEnv hcell (by intro y hy; simp at hy) (fun h₁ hns₁ hsb₁ => ?_) hk
  have keep4 : ∀ b o, s3.heap.get? b = some o → h₁.get? b = some o := fun b o e => hsb₁.extBut b o (Nat.ne_of_lt (Heap.lt_size e)) (Heap.get?_push_of_some _ e)
  have I4 := inv_comp (N' := N') (src := src) (tk := s3.toks + ([] : List (Str × Value)).length) hk hcell hcap a b I3' f3 fl3 rfl keep4 hns₁
  -- the iterator's objects, through the block
  have stat : ∀ {H' : Hp}, (∀ b ∈ fp, H' b = none) → ∀ b ∈ fp, FpOk (cxC X scope N' cl s3.heap.objs.size s3 H3 fp (X.pn ++ pins)) [] H' b := fun hn b' hb => by
    obtain ⟨f0, f1, fs, fe, f4, f5⟩ := f3 b' hb
    refine ⟨hn b' hb, Nat.ne_of_lt (fl3 b' hb), fun z => ?_, .inl hb, fun x c h => f4 x c (a x c h), fun p hp => f5 p (by simpa [cxC] using hp)⟩
    rcases List.mem_cons.mp (I3'.stkSub b' z) with e | e
    · exact f1 e
    · exact fs e
  -- behind the block
  have fin : ∀ {H' : Hp} {s' : Shared} {σ' : St} {pins' : List (Addr × Obj)}, Inv (cxC X scope N' cl s3.heap.objs.size s3 H3 fp (X.pn ++ pins)) pins' σ' H' s' → ∀ h', Heap.SameBut s3.heap.objs.size s'.heap h' → Inv X pins σ H' { s' with heap := h' } := fun {H' s' σ' pins'} J' h' sb => by
    have same : ∀ b o, b ≠ s3.heap.objs.size → s'.heap.get? b = some o → h'.get? b = some o := fun b o hb e => sb.extBut b o hb e
    have u : Un (frs X.stack) fp H3 H' s3.heap s'.heap := J'.base
    refine I3'.call' (s' := { s' with heap := h' }) (ch := fp) J'.os ⟨fun b o e n hb hx => ?_, fun b o e n hb hx => ?_, u.free, fun b o e hx => ?_, u.tups, u.frzs, u.tbls⟩ (fun b o e => ?_) J'.bare fun b hb => ?_
    · exact same b o (Nat.ne_of_lt (Heap.lt_size e)) (u.keep b o e n hb hx)
    · obtain ⟨sl, z⟩ := u.slot b o e n hb hx
      exact ⟨sl, same b _ (Nat.ne_of_lt (Heap.lt_size e)) z⟩
    · obtain ⟨o', z⟩ := u.there b o e hx
      exact ⟨o', same b o' (Nat.ne_of_lt (Heap.lt_size e)) z⟩
    · have nC : ∀ c v, H' c = some v → c ≠ s3.heap.objs.size := fun c v z q => by
        have := J'.free
        rw [show (cxC X scope N' cl s3.heap.objs.size s3 H3 fp (X.pn ++ pins)).env.locals = s3.heap.objs.size from rfl, ← q, z] at this
        cases this
      refine (J'.hok b o e).stay (fun c v hc q => same c v ?_ q) (fun _ q => q) fun _ _ q => q
      rcases hc with z | z
      · rw [z]; exact nC b o e
      · exact nC c _ z
    · obtain ⟨f0, f1, fs, fe, f4, f5⟩ := f3 b hb
      exact ⟨fe, f1, f4, f5⟩
  have loop : codeAny (model X.prog X.w) X.A (.compLoop (.ListComp elt [⟨tg, iter, ifs, 0⟩] scope pos) 0 (.ref it) (.ref D) (compEnvC scope cl s3.heap.objs.size X.env))
      (compPost (model X.prog X.w) X.A X.xe none (EP X pins σ Q) (.ref D) s3.heap.objs.size) { s3 with heap := h₁, toks := s3.toks + ([] : List (Str × Value)).length } := by
    refine comp_loop (fun n s' => ∃ i ys σ' H', Inv (cxC X scope N' cl s3.heap.objs.size s3 H3 fp (X.pn ++ pins)) [] σ' H' s' ∧ tn i s'.heap ∧ (∀ b ∈ fp, H' b = none) ∧ W i n ys σ' H') ?_ m0 ⟨0, [], capSt src σ, H3, I4, T.keep _ _ _ st3 fun b _ o e => keep4 b o e, fun b hb => (f3 b hb).1, w0⟩
    rintro n s5 ⟨i, ys, σ5, H5, I5, st5, fr5, w5⟩
    obtain ⟨hDs, stop | go⟩ := turn i n ys σ5 H5 w5
    · obtain ⟨stop, qn⟩ := stop
      refine thn (T.done (cxC X scope N' cl s3.heap.objs.size s3 H3 fp (X.pn ++ pins)) rfl rfl rfl hc i [] s5 σ5 H5 _ I5 (stat fr5) st5 stop) fun r s6 ⟨hr, I6⟩ => ?_
      subst hr
      obtain ⟨m, hn, _⟩ := id I6.loc
      exact ⟨m, hn, fun h' sb => ⟨.ref D, H5, fin I6 h' sb, rfl, qn⟩⟩
    · obtain ⟨go, N, hN, step⟩ := go
      refine thn (T.item (cxC X scope N' cl s3.heap.objs.size s3 H3 fp (X.pn ++ pins)) rfl rfl rfl hc i [] s5 σ5 H5 _ I5 (stat fr5) st5 go) fun r s6 ⟨u, hr, h6⟩ => ?_
      subst hr
      refine thn h6 fun _ s7 ⟨x, H7, I7, r7, y7, st7, fr7⟩ => ?_
      have I7' := I7.pinned (stat fr7) (T.obj _ _ st7)
      have again : ∀ {s8 : Shared} {σ8 : St} {H8 : Hp} {ys' : List V}, Inv (cxC X scope N' cl s3.heap.objs.size s3 H3 fp (X.pn ++ pins)) ([] ++ pinsAt fp s7.heap) σ8 H8 s8 → (∃ m', m' < n ∧ W (i + 1) m' ys' σ8 H8) →
          ∃ m, m < n ∧ ∃ i ys σ' H', Inv (cxC X scope N' cl s3.heap.objs.size s3 H3 fp (X.pn ++ pins)) [] σ' H' s8 ∧ tn i s8.heap ∧ (∀ b ∈ fp, H' b = none) ∧ W i m ys σ' H' := fun {s8 σ8 H8 ys'} I8 ⟨m', hm, w8⟩ => by
        refine ⟨m', hm, i + 1, ys', σ8, H8, I8.unpinned, T.keep _ _ _ st7 fun b hb o e => (I8.pin (b, o) (List.mem_append_right _ (List.mem_append_right _ (mem_pinsAt hb e)))).1, fun b hb => ?_, w8⟩
        obtain ⟨o, e, d⟩ := T.obj _ _ st7 b hb
        exact (I8.pin (b, o) (List.mem_append_right _ (List.mem_append_right _ (mem_pinsAt hb e)))).2.1
      refine thn (hg cl _ s3 H3 fp _ _ s7 σ5 H7 x u _ I7' r7 (step x H7 y7)) fun _ s8 ⟨σ8, H8, I8, q8⟩ => ?_
      refine thn (ht cl _ s3 H3 fp _ _ s8 σ8 H8 _ I8 q8) fun ok s9 ⟨H9, I9, q9⟩ => ?_
      cases ok with
      | false => exact again I9 (hN _ _ _ q9)
      | true =>
        rw [if_pos rfl]
        refine thn (he cl _ s3 H3 fp _ _ s9 σ8 H9 _ I9 q9) fun y s10 ⟨yv, H10, I10, r10, q10⟩ => ?_
        obtain ⟨hDy, hlen, w10⟩ := q10
        refine thn (mt_append (X := cxC X scope N' cl s3.heap.objs.size s3 H3 fp (X.pn ++ pins)) _ s10 σ8 H10 (.ref D) [yv] (.ref D) [y] (fun _ H' => H' = upd H10 D (.lst (ys ++ [yv]))) I10 rfl (.cons r10 .nil) ⟨D, ys, yv, rfl, rfl, hDy, hlen, rfl⟩) fun _ s11 ⟨_, H11, I11, _, e11⟩ => ?_
        subst e11
        exact again I11 (hN _ _ _ w10)
  exact codeAny_compStart_list loop (T.self _ 0 _ _ _ (T.keep _ _ _ st3 fun b _ o e => keep4 b o e) loop)
end
end L2
namespace L2
open PySem PySem.Spec PyProof.Rows

/-! ### texts: slices -/
def cutS (x : Str) (lo hi : Option Int) : Str := ⟨((x.cps.toList.drop (HT.sIx x.length 0 lo)).take (HT.sIx x.length x.length hi - HT.sIx x.length 0 lo)).toArray⟩
def rSlS : V → Option Int → Option Int → Hp → VK → Prop := fun x lo hi H Q => ∃ z, x = .str z ∧ z.length ≤ sizeLine ∧ Q (.str (cutS z lo hi)) H
section
variable {X : Cx}
/-! ### texts: their signs, one after another -/
def Its (x : Str) : It := ⟨fun i _ => i < x.length, fun i H v H' => H' = H ∧ ∃ c, x.cps.toList[i]? = some c ∧ v = .str ⟨#[c]⟩, fun i _ => x.length ≤ i⟩
end
end L2
namespace L2
open PySem PySem.Spec PyProof.Rows
section
variable {X : Cx} {tg : Expr}
def iStr (tl : TE) : TI := fun σ H R => tl σ H fun x H1 => ∃ z, x = .str z ∧ R (Its z) H1
/-- over a sequence that yields the items of xs, whatever the turns do -/
def ItSeq (J : It) (P : Hp → Prop) (xs : List V) : Prop := ∀ H, P H → ∀ i, (∀ x, xs[i]? = some x → J.go i H ∧ ∀ y H', J.yld i H y H' → H' = H ∧ y = x) ∧ (xs.length ≤ i → J.stop i H)
theorem itseq_tup {K : PySem.W.Frag} {a : Addr} {xs : List V} : ItSeq (Itt K a) (fun H => SqT K H a xs) xs := fun H hq i => by
  refine ⟨fun x hx => ⟨⟨xs, x, hq, hx⟩, fun y H' ⟨e1, e2⟩ => ⟨e1, ?_⟩⟩, fun hi => ⟨xs, hq, hi⟩⟩
  have := e2 xs hq
  rw [hx] at this
  exact (Option.some.inj this).symm
theorem itseq_list {K : PySem.W.Frag} {a : Addr} {xs : List V} : ItSeq (Itl K a) (fun H => SqL K H a xs) xs := fun H hq i => by
  refine ⟨fun x hx => ⟨⟨xs, x, hq, hx⟩, fun y H' ⟨e1, e2⟩ => ⟨e1, ?_⟩⟩, fun hi => ⟨xs, hq, hi⟩⟩
  have := e2 xs hq
  rw [hx] at this
  exact (Option.some.inj this).symm
theorem itseq_range {lo : Int} {n : Nat} {P : Hp → Prop} : ItSeq (Itr lo n) P ((List.range n).map fun (i : Nat) => V.int (lo + i)) := fun H hq i => by
  refine ⟨fun x hx => ?_, fun hi => by show n ≤ i; simpa using hi⟩
  have hi : i < n := by
    have := (List.getElem?_eq_some_iff.mp hx).1
    simpa using this
  refine ⟨hi, fun y H' ⟨e1, e2⟩ => ⟨e1, ?_⟩⟩
  rw [List.getElem?_map, List.getElem?_range hi] at hx
  rw [e2]
  simpa using hx
theorem ItSeq.imp {J : It} {P P' : Hp → Prop} {xs : List V} (h : ItSeq J P xs) (hp : ∀ H, P' H → P H) : ItSeq J P' xs := fun H q => h H (hp H q)
/-- a comprehension over such a sequence, by what holds between two turns -/
theorem lc_by {J : It} {P : Hp → Prop} {xs : List V} (hJ : ItSeq J P xs) {src : List (Option Nat)} {g : TG} {tt : TT} {te : TE} {σ : St} {H1 : Hp} {Q : VK} {D : Addr} (Pv : Nat → List V → St → Hp → Prop)
    (h0 : Pv 0 [] (capSt src σ) (upd H1 D (.lst []))) (hP : ∀ i ys σ' H', Pv i ys σ' H' → P H' ∧ H' D = some (.lst ys))
    (step : ∀ i ys σ' H' x, xs[i]? = some x → Pv i ys σ' H' → g x σ' H' fun σ2 H4 => tt σ2 H4 fun b H5 => if b = true then te σ2 H5 fun y H6 => H6 D = some (.lst ys) ∧ ys.length < sizeLine ∧ Pv (i + 1) (ys ++ [y]) σ2 (upd H6 D (.lst (ys ++ [y]))) else Pv (i + 1) ys σ2 H5)
    (fin : ∀ ys σ' H', Pv xs.length ys σ' H' → Q (.ref D) H') :
    LC src J g tt te σ H1 Q D := by
  refine ⟨fun i m ys σ' H' => m = xs.length - i ∧ i ≤ xs.length ∧ Pv i ys σ' H', ⟨xs.length, by simp, Nat.zero_le _, h0⟩, ?_⟩
  rintro i m ys σ' H2 ⟨rfl, hi, p⟩
  obtain ⟨hp, hD⟩ := hP i ys σ' H2 p
  refine ⟨hD, ?_⟩
  by_cases hlt : i < xs.length
  · obtain ⟨go, yl⟩ := (hJ H2 hp i).1 xs[i] (by simp [hlt])
    refine .inr ⟨go, fun ys' σ3 H3 => Pv (i + 1) ys' σ3 H3, fun ys' σ3 H3 p' => ⟨xs.length - (i + 1), by omega, rfl, hlt, p'⟩, fun x H3 y => ?_⟩
    obtain ⟨e1, e2⟩ := yl x H3 y
    subst e1 e2
    exact step i ys σ' _ _ (by simp [hlt]) p
  · have e : i = xs.length := by omega
    subst e
    exact .inl ⟨(hJ H2 hp _).2 (Nat.le_refl _), fin ys σ' H2 p⟩
theorem Same.upd_new {H : Hp} {p : Addr} (h : H p = none) (o : HO) : Same H (upd H p o) := fun b u q => by rw [upd_ne (ne_of_none q h)]; exact q
theorem Same.upd_over {H H' : Hp} {p : Addr} (h : H p = none) (e : Same H H') (o : HO) : Same H (upd H' p o) := fun b u q => by rw [upd_ne (ne_of_none q h)]; exact e b u q
theorem Same.tup {K : PySem.W.Frag} {H H' : Hp} {a : Addr} {xs : List V} (e : Same H H') (h : SqT K H a xs) : SqT K H' a xs := by
  rcases h with (h | ⟨o, h⟩) | h
  · exact .inl (.inl (e _ _ h))
  · exact .inl (.inr ⟨o, e _ _ h⟩)
  · exact .inr h
end

/-! ### all, any, join -/
section
variable {X : Cx}
/-- sep.join(a list of texts) -/
def rJoin (K : PySem.W.Frag) : V → List V → Hp → VK → Prop := fun x vs H Q => ∃ (z : Str) (p : Addr) (ys : List Str), x = .str z ∧ vs = [.ref p] ∧ SqL K H p (ys.map V.str) ∧ (ys.map (·.length)).sum + ys.length * z.length ≤ 16777216 ∧ Q (.str (Txt.join z ys)) H
/-! ### isinstance(e, a built-in type), isinstance(e, an own class) -/
def clsV : V → Option Value
  | .ty n => some (.type n)
  | .ref a => some (.ref a)
  | _ => none
theorem call_isinst : CallR X (.builtin "isinstance") (fun xs H Q => ∃ x c cv t b, xs = [x, c] ∧ clsV c = some cv ∧ TyOf X.K H x t ∧ PySem.W.kitOne X.K t cv = some b ∧ Q (.bl b) H) := by
  intro pins s σ H xs us Q I r h
  obtain ⟨x, c, cv, t, b, rfl, ec, ty, e, q⟩ := h
  obtain ⟨u, w', rfl, ru, rw'⟩ := vals2 r
  have ew : w' = cv := by
    cases c with
    | ty n => cases (show w' = Value.type n from rw'); simpa [clsV] using ec
    | ref a => cases (show w' = Value.ref a from rw'); simpa [clsV] using ec
    | _ => simp [clsV] at ec
  subst ew
  exact isinst_ok I ru ty e fun tk => ⟨.bl b, H, I.tok tk, rfl, q⟩

/-! ### == of two lists, != of two lists: flat items -/
def eqVs (xs ys : List V) : Bool := xs.length == ys.length && (List.range xs.length).all fun j => match xs[j]?, ys[j]? with | some x, some y => eqV x y | _, _ => false
end
end L2
namespace L2
open PySem PySem.Spec PyProof.Rows
/-! ### zip of two sequences -/
/-- an iterator within a zip: at k, in the heap h, the next is what get tells -/
structure Sub (P : Program) (w : World) (i : Addr) (St : Nat → Heap → Prop) (Ready : Heap → (Nat → Option Value) → Prop) : Prop where
  obj : ∀ k h, St k h → ∃ o, h.get? i = some o ∧ ∀ v, o.data ≠ .cell v
  keep : ∀ k h h', St k h → (∀ o, h.get? i = some o → h'.get? i = some o) → St k h'
  item : ∀ (A : Around) (k : Nat) (s : Shared) (get : Nat → Option Value) (x : Value) (Q : Value → Shared → Prop) (E : Value → Shared → Prop), St k s.heap → Ready s.heap get → get k = some x →
    (∀ h' tk, St (k + 1) h' → Heap.SameBut i s.heap h' → Q x { s with heap := h', toks := tk }) → wpAny (model P w) A (Builtin.SmallTypes.nextOf (.ref i)) Q E s
  fin : ∀ (A : Around) (k : Nat) (s : Shared) (get : Nat → Option Value) (Q : Value → Shared → Prop) (E : Value → Shared → Prop), A.handled = none → St k s.heap → Ready s.heap get → get k = none →
    (∀ h' e, Heap.ExtBut i s.heap h' → (∃ o, h'.get? e = some o ∧ o.cls = .type "StopIteration") → E (.ref e) { s with heap := h' }) → wpAny (model P w) A (Builtin.SmallTypes.nextOf (.ref i)) Q E s
section
variable {prog : Program} {w : World} {A : Around} {E : Value → Shared → Prop} {s : Shared}
theorem nextOf_tuple_item {it t : Addr} {i : Nat} {items : Array Value} {x : Value} {Q : Value → Shared → Prop} (hit : s.heap.IsTupleIter it t i) (ht : s.heap.IsTuple t items) (hx : items[i]? = some x)
    (hQ : ∀ h', h'.IsTupleIter it t (i + 1) → Heap.SameBut it s.heap h' → Q x { s with heap := h' }) : wpAny (model prog w) A (Builtin.SmallTypes.nextOf (.ref it)) Q E s := by
  obtain ⟨o, ho, hc, hd⟩ := id hit
  obtain ⟨ol, hol, _, nl, hdl⟩ := ht
  unfold Builtin.SmallTypes.nextOf
  refine wpAny_bind (wpAny_callSpecial?_slot (name := Str.ofString "__next__") hit.typeIs F.slot_tuple_iterator_next (wpAny_call_entry F.slot_tuple_iterator_next hit.typeIs F.entry_tuple_iterator_next ?_ (F.args_tuple_iterator_next_1 _)))
  show wpAny _ _ (field (.ref it) 0 >>= _) _ _ s
  refine wpAny_bind (wpAny_field ho hd (x := .ref t) rfl ?_)
  show wpAny _ _ (if (Value.ref t == Value.none) = true then _ else _) _ _ s
  rw [if_neg (show ¬ ((Value.ref t == Value.none) = true) from Bool.false_ne_true)]
  show wpAny _ _ (field (.ref it) 1 >>= _) _ _ s
  refine wpAny_bind (wpAny_field ho hd (x := .int i 0) rfl ?_)
  show wpAny _ _ (seqItems? (.ref t) >>= _) _ _ s
  refine wpAny_bind (wpAny_seqItems hol hdl ?_)
  simp only [Int.toNat_natCast, hx]
  refine wpAny_bind (wpAny_setField ho hd (by simp) (wpAny_pure ⟨x, rfl, wpAny_pure (hQ _ ?_ (Heap.SameBut.update ..))⟩))
  exact ⟨_, Heap.get?_update_self _ ho (Obj.isFreed_of_fields (Obj.data_mapFields hd _)), (Obj.cls_mapFields ..).trans hc, by rw [Obj.data_mapFields hd]; simp [rawInt]⟩
theorem nextOf_tuple_end {it t : Addr} {i : Nat} {items : Array Value} {Q : Value → Shared → Prop} (hh : A.handled = none) (hit : s.heap.IsTupleIter it t i) (ht : s.heap.IsTuple t items) (hx : items[i]? = none)
    (hE : ∀ h' e, Heap.ExtBut it s.heap h' → (∃ o, h'.get? e = some o ∧ o.cls = .type "StopIteration") → E (.ref e) { s with heap := h' }) : wpAny (model prog w) A (Builtin.SmallTypes.nextOf (.ref it)) Q E s := by
  obtain ⟨o, ho, hc, hd⟩ := id hit
  obtain ⟨ol, hol, _, nl, hdl⟩ := ht
  unfold Builtin.SmallTypes.nextOf
  refine wpAny_bind (wpAny_callSpecial?_slot (name := Str.ofString "__next__") hit.typeIs F.slot_tuple_iterator_next (wpAny_call_entry F.slot_tuple_iterator_next hit.typeIs F.entry_tuple_iterator_next ?_ (F.args_tuple_iterator_next_1 _)))
  show wpAny _ _ (field (.ref it) 0 >>= _) _ _ s
  refine wpAny_bind (wpAny_field ho hd (x := .ref t) rfl ?_)
  show wpAny _ _ (if (Value.ref t == Value.none) = true then _ else _) _ _ s
  rw [if_neg (show ¬ ((Value.ref t == Value.none) = true) from Bool.false_ne_true)]
  show wpAny _ _ (field (.ref it) 1 >>= _) _ _ s
  refine wpAny_bind (wpAny_field ho hd (x := .int i 0) rfl ?_)
  show wpAny _ _ (seqItems? (.ref t) >>= _) _ _ s
  refine wpAny_bind (wpAny_seqItems hol hdl ?_)
  simp only [Int.toNat_natCast, hx]
  refine wpAny_bind (wpAny_rule (wpAny_bind (wpAny_setField ho hd (by simp) ?_)))
  show wpAny _ _ (newExc (.type "StopIteration") [] >>= _) _ _ _
  refine wpAny_bind ?_
  simp only [newExc, newTuple]
  refine wpAny_bind (wpAny_newObj_type ?_ (by size_fits))
  refine wpAny_bind (m := firstArgMember _ _) (wpAny_of_eq (a := Value.none) (by first | rfl | (simp only [firstArgMember]; rfl)) ?_)
  refine wpAny_newObj_type ?_ (by size_fits)
  simp only [raiseNew]
  refine wpAny_bind (wpAny_handled ?_)
  first | rw [show A.in1.handled = none from hh] | rw [hh]
  refine wpAny_bind (wpAny_pure (wpAny_throw ?_))
  exact hE _ _ (((Heap.SameBut.update ..).extBut.push _).push _) ⟨_, Heap.get?_push_size _ rfl, rfl⟩
end
theorem sub_tuple {P : Program} {w : World} (i t : Addr) : Sub P w i (fun k h => h.IsTupleIter i t k) (fun h get => ∃ items : Array Value, h.IsTuple t items ∧ ∀ k, get k = items[k]?) where
  obj := fun k h ⟨o, e, c, d⟩ => ⟨o, e, fun v z => by rw [d] at z; cases z⟩
  keep := fun k h h' st q => st.at q
  item := fun A k s get x Q E st ⟨items, ht, hg⟩ hx hQ => nextOf_tuple_item st ht ((hg k).symm.trans hx) fun h' st' sb => hQ h' s.toks st' sb
  fin := fun A k s get Q E hh st ⟨items, ht, hg⟩ hx hE => nextOf_tuple_end hh st ht ((hg k).symm.trans hx) hE
theorem sub_list {P : Program} {w : World} (i t : Addr) : Sub P w i (fun k h => h.IsListIter i t k) (fun h get => ∃ items : Array Value, h.IsList t items ∧ ∀ k, get k = items[k]?) where
  obj := fun k h ⟨o, e, c, d⟩ => ⟨o, e, fun v z => by rw [d] at z; cases z⟩
  keep := fun k h h' st q => st.at q
  item := fun A k s get x Q E st ⟨items, ht, hg⟩ hx hQ => wpAny_nextOf_list_item st ht ((hg k).symm.trans hx) fun h' st' sb => hQ h' s.toks st' sb
  fin := fun A k s get Q E hh st ⟨items, ht, hg⟩ hx hE => wpAny_nextOf_list_end hh st ht ((hg k).symm.trans hx) hE

structure ZApart (z TI TO i1 i2 : Addr) : Prop where
  a : TI ≠ z
  b : TO ≠ z
  c : i1 ≠ z
  d : i2 ≠ z
  e : TI ≠ TO
  f : TI ≠ i1
  g : TI ≠ i2
  h : TO ≠ i1
  i : TO ≠ i2
  j : i1 ≠ i2
section
variable {prog : Program} {w : World} {A : Around} {E : Value → Shared → Prop} {s : Shared} {z TI TO i1 i2 : Addr} {S1 S2 : Nat → Heap → Prop} {R1 R2 : Heap → (Nat → Option Value) → Prop} {g1 g2 : Nat → Option Value} {k : Nat} {a b : Value}
theorem zip_item {x y : Value} {Q : Option Value → Shared → Prop} (D : ZApart z TI TO i1 i2) (U1 : Sub prog w i1 S1 R1) (U2 : Sub prog w i2 S2 R2)
    (k1 : ∀ h h' g, R1 h g → (∀ c o, c ≠ z → c ≠ TO → c ≠ i1 → c ≠ i2 → h.get? c = some o → h'.get? c = some o) → R1 h' g) (k2 : ∀ h h' g, R2 h g → (∀ c o, c ≠ z → c ≠ TO → c ≠ i1 → c ≠ i2 → h.get? c = some o → h'.get? c = some o) → R2 h' g)
    (hz : IsZip s.heap z TI TO .none) (hTI : IsPair s.heap TI (.ref i1) (.ref i2)) (hTO : IsPair s.heap TO a b) (h1 : S1 k s.heap) (h2 : S2 k s.heap) (r1 : R1 s.heap g1) (r2 : R2 s.heap g2) (hx : g1 k = some x) (hy : g2 k = some y)
    (hQ : ∀ h' tk, IsZip h' z TI TO (rawInt s.heap.objs.size) → IsPair h' TO x y → S1 (k + 1) h' → S2 (k + 1) h' → IsPair h' s.heap.objs.size x y → h'.objs.size = s.heap.objs.size + 1 →
      (∀ c o, c ≠ z → c ≠ TO → c ≠ i1 → c ≠ i2 → s.heap.get? c = some o → h'.get? c = some o) → Q (some (.ref s.heap.objs.size)) { s with heap := h', toks := tk }) :
    wpAny (model prog w) A (pyNext (.ref z)) Q E s := by
  have hT : s.TypeIs (.ref z) "zip" := ⟨_, hz, rfl⟩
  unfold pyNext
  refine wpAny_bind (wpAny_attempt (wpAny_callSpecial?_slot (name := Str.ofString "__next__") hT F.slot_zip_next (wpAny_call_entry F.slot_zip_next hT F.entry_zip_next ?_ (F.args_zip_next_1 _))))
  show wpAny _ _ (field (.ref z) 2 >>= _) _ _ _
  refine wpAny_bind (wpAny_field hz rfl (x := .bool false) rfl ?_)
  show wpAny _ _ (field (.ref z) 3 >>= _) _ _ _
  refine wpAny_bind (wpAny_field hz rfl (x := .ref TI) rfl ?_)
  refine wpAny_bind (wpAny_seqItems hTI rfl ?_)
  show wpAny _ _ (Builtin.SmallTypes.ownedTupleIsFree (.ref z) >>= _) _ _ _
  refine wpAny_bind ?_
  unfold Builtin.SmallTypes.ownedTupleIsFree
  refine wpAny_bind (wpAny_field hz rfl (x := .none) rfl (wpAny_pure ?_))
  simp only [if_true]
  refine wpAny_bind (wpAny_rule ?_)
  refine wpAny_bind (wpAny_field hz rfl (x := .ref TO) rfl ?_)
  refine wpAny_bind (wpAny_setField_rec hz (by simp) fun h₁ hz₁ hs₁ => ?_)
  replace hz₁ : IsZip h₁ z TI TO .ellipsis := hz₁
  refine wpAny_bind ?_
  simp only [List.zipIdx_cons, List.zipIdx_nil, List.forIn_cons, List.forIn_nil]
  refine wpAny_bind (wpAny_bind (wpAny_onRaise ?_))
  show wpAny _ _ (Builtin.SmallTypes.nextOf (.ref i1) >>= _) _ _ _
  have S1₁ : S1 k h₁ := U1.keep _ _ _ h1 fun o e => hs₁.extBut _ _ D.c e
  have R1₁ : R1 h₁ g1 := k1 _ _ _ r1 fun c o c1 _ _ _ e => hs₁.extBut _ _ c1 e
  refine wpAny_bind (U1.item _ k { s with heap := h₁ } g1 x _ _ S1₁ R1₁ hx fun h₂ tk₂ S1₂ hs₂ => wpAny_pure ?_)
  have hTO₂ : IsPair h₂ TO a b := hs₂.extBut _ _ D.h (hs₁.extBut _ _ D.b hTO)
  refine wpAny_bind (wpAny_seqItems hTO₂ rfl ?_)
  refine wpAny_bind (wpAny_updateSeq_pair hTO₂ fun h₃ hTO₃ hs₃ => ?_)
  replace hTO₃ : IsPair h₃ TO x b := hTO₃
  refine wpAny_bind (wpAny_letGo (wpAny_pure ?_))
  refine wpAny_bind (wpAny_bind (wpAny_onRaise ?_))
  show wpAny _ _ (Builtin.SmallTypes.nextOf (.ref i2) >>= _) _ _ _
  have kk₃ : ∀ c o, c ≠ z → c ≠ TO → c ≠ i1 → c ≠ i2 → s.heap.get? c = some o → h₃.get? c = some o := fun c o c1 c2 c3 c4 e => hs₃.extBut _ _ c2 (hs₂.extBut _ _ c3 (hs₁.extBut _ _ c1 e))
  have S2₃ : S2 k h₃ := U2.keep _ _ _ h2 fun o e => hs₃.extBut _ _ D.i.symm (hs₂.extBut _ _ D.j.symm (hs₁.extBut _ _ D.d e))
  refine wpAny_bind (U2.item _ k { s with heap := h₃, toks := tk₂ } g2 y _ _ S2₃ (k2 _ _ _ r2 kk₃) hy fun h₄ tk₄ S2₄ hs₄ => wpAny_pure ?_)
  have hTO₄ : IsPair h₄ TO x b := hs₄.extBut _ _ D.i hTO₃
  refine wpAny_bind (wpAny_seqItems hTO₄ rfl ?_)
  refine wpAny_bind (wpAny_updateSeq_pair hTO₄ fun h₅ hTO₅ hs₅ => ?_)
  replace hTO₅ : IsPair h₅ TO x y := hTO₅
  refine wpAny_bind (wpAny_letGo (wpAny_pure (wpAny_pure ?_)))
  refine wpAny_bind (wpAny_seqItems hTO₅ rfl ?_)
  refine wpAny_bind (wpAny_newTuple ?_)
  have hsz : h₅.objs.size = s.heap.objs.size := by rw [hs₅.1, hs₄.1, hs₃.1, hs₂.1, hs₁.1]
  have hz₅ : IsZip h₅ z TI TO .ellipsis := hs₅.extBut _ _ D.b.symm (hs₄.extBut _ _ D.d.symm (hs₃.extBut _ _ D.b.symm (hs₂.extBut _ _ D.c.symm hz₁)))
  have hk₅ : ∀ c o, c ≠ z → c ≠ TO → c ≠ i1 → c ≠ i2 → s.heap.get? c = some o → h₅.get? c = some o := fun c o c1 c2 c3 c4 e => hs₅.extBut _ _ c2 (hs₄.extBut _ _ c4 (kk₃ c o c1 c2 c3 c4 e))
  have S1₅ : S1 (k + 1) h₅ := U1.keep _ _ _ S1₂ fun o e => hs₅.extBut _ _ D.h.symm (hs₄.extBut _ _ D.j (hs₃.extBut _ _ D.h.symm e))
  have S2₅ : S2 (k + 1) h₅ := U2.keep _ _ _ S2₄ fun o e => hs₅.extBut _ _ D.i.symm e
  have hzlt : z < h₅.objs.size := Heap.lt_size hz₅
  show wpAny _ _ (Builtin.SmallTypes.ownedTupleHandOut (.ref z) (.ref h₅.objs.size) >>= _) _ _ _
  refine wpAny_bind ?_
  unfold Builtin.SmallTypes.ownedTupleHandOut
  have hz₆ : IsZip (h₅.push { cls := .type "tuple", data := .seq #[x, y] }) z TI TO .ellipsis := Heap.get?_push_of_some _ hz₅
  refine wpAny_bind (wpAny_setField_rec hz₆ (by simp) fun h₇ hz₇ hs₇ => ?_)
  replace hz₇ : IsZip h₇ z TI TO (rawInt h₅.objs.size) := hz₇
  refine wpAny_setField_rec hz₇ (by simp) fun h₈ hz₈ hs₈ => ?_
  replace hz₈ : IsZip h₈ z TI TO (rawInt h₅.objs.size) := hz₈
  have up : ∀ c o, c ≠ z → h₅.get? c = some o → h₈.get? c = some o := fun c o c1 e => hs₈.extBut _ _ c1 (hs₇.extBut _ _ c1 (Heap.get?_push_of_some _ e))
  have hT₈ : IsPair h₈ h₅.objs.size x y := hs₈.extBut _ _ (Nat.ne_of_gt hzlt) (hs₇.extBut _ _ (Nat.ne_of_gt hzlt) (Heap.get?_push_size _ rfl))
  have hz8 : h₈.objs.size = h₅.objs.size + 1 := by rw [hs₈.1, hs₇.1, Heap.size_push]
  rw [hsz] at hz₈ hT₈ hz8
  refine wpAny_pure ⟨_, rfl, wpAny_pure ?_⟩
  show Q (some (.ref h₅.objs.size)) _
  rw [hsz]
  exact hQ h₈ tk₄ hz₈ (up _ _ D.b hTO₅) (U1.keep _ _ _ S1₅ fun o e => up _ o D.c e) (U2.keep _ _ _ S2₅ fun o e => up _ o D.d e) hT₈ hz8 fun c o c1 c2 c3 c4 e => up c o c1 (hk₅ c o c1 c2 c3 c4 e)
theorem zip_end {Q : Option Value → Shared → Prop} (hh : A.handled = none) (D : ZApart z TI TO i1 i2) (U1 : Sub prog w i1 S1 R1) (U2 : Sub prog w i2 S2 R2)
    (k1 : ∀ h h' g, R1 h g → (∀ c o, c ≠ z → c ≠ TO → c ≠ i1 → c ≠ i2 → h.get? c = some o → h'.get? c = some o) → R1 h' g) (k2 : ∀ h h' g, R2 h g → (∀ c o, c ≠ z → c ≠ TO → c ≠ i1 → c ≠ i2 → h.get? c = some o → h'.get? c = some o) → R2 h' g)
    (hz : IsZip s.heap z TI TO .none) (hTI : IsPair s.heap TI (.ref i1) (.ref i2)) (hTO : IsPair s.heap TO a b) (h1 : S1 k s.heap) (h2 : S2 k s.heap) (r1 : R1 s.heap g1) (r2 : R2 s.heap g2) (hend : g1 k = none ∨ g2 k = none)
    (hQ : ∀ h' tk, (∀ c o, c ≠ z → c ≠ TO → c ≠ i1 → c ≠ i2 → s.heap.get? c = some o → h'.get? c = some o) → Q none { s with heap := h', toks := tk }) : wpAny (model prog w) A (pyNext (.ref z)) Q E s := by
  have hT : s.TypeIs (.ref z) "zip" := ⟨_, hz, rfl⟩
  unfold pyNext
  refine wpAny_bind (wpAny_attempt (wpAny_callSpecial?_slot (name := Str.ofString "__next__") hT F.slot_zip_next (wpAny_call_entry F.slot_zip_next hT F.entry_zip_next ?_ (F.args_zip_next_1 _))))
  show wpAny _ _ (field (.ref z) 2 >>= _) _ _ _
  refine wpAny_bind (wpAny_field hz rfl (x := .bool false) rfl ?_)
  show wpAny _ _ (field (.ref z) 3 >>= _) _ _ _
  refine wpAny_bind (wpAny_field hz rfl (x := .ref TI) rfl ?_)
  refine wpAny_bind (wpAny_seqItems hTI rfl ?_)
  show wpAny _ _ (Builtin.SmallTypes.ownedTupleIsFree (.ref z) >>= _) _ _ _
  refine wpAny_bind ?_
  unfold Builtin.SmallTypes.ownedTupleIsFree
  refine wpAny_bind (wpAny_field hz rfl (x := .none) rfl (wpAny_pure ?_))
  simp only [if_true]
  refine wpAny_bind (wpAny_rule ?_)
  refine wpAny_bind (wpAny_field hz rfl (x := .ref TO) rfl ?_)
  refine wpAny_bind (wpAny_setField_rec hz (by simp) fun h₁ hz₁ hs₁ => ?_)
  replace hz₁ : IsZip h₁ z TI TO .ellipsis := hz₁
  refine wpAny_bind ?_
  simp only [List.zipIdx_cons, List.zipIdx_nil, List.forIn_cons, List.forIn_nil]
  refine wpAny_bind (wpAny_bind (wpAny_onRaise ?_))
  show wpAny _ _ (Builtin.SmallTypes.nextOf (.ref i1) >>= _) _ _ _
  have S1₁ : S1 k h₁ := U1.keep _ _ _ h1 fun o e => hs₁.extBut _ _ D.c e
  have R1₁ : R1 h₁ g1 := k1 _ _ _ r1 fun c o c1 _ _ _ e => hs₁.extBut _ _ c1 e
  cases hx : g1 k with
  | none =>
    refine wpAny_bind (U1.fin _ k { s with heap := h₁ } g1 _ _ hh S1₁ R1₁ hx fun h₂ e hs₂ he => ?_)
    obtain ⟨oe, hoe, hce⟩ := he
    have hz₂ : IsZip h₂ z TI TO .ellipsis := hs₂ _ _ D.c.symm hz₁
    have hez : e ≠ z := fun x => by subst x; rw [hz₂] at hoe; cases hoe; simp at hce
    refine wpAny_setField_rec hz₂ (by simp) fun h₃ _ hs₃ => ?_
    refine wpAny_bind (wpAny_isInstance (T := "StopIteration") (b := true) ⟨oe, hs₃.extBut _ _ hez hoe, hce⟩ isSubtype_stop ?_)
    exact wpAny_pure (hQ h₃ s.toks fun c o c1 _ c3 _ x => hs₃.extBut _ _ c1 (hs₂ _ _ c3 (hs₁.extBut _ _ c1 x)))
  | some x =>
    have hy : g2 k = none := by rcases hend with h | h; rw [hx] at h; cases h; exact h
    refine wpAny_bind (U1.item _ k { s with heap := h₁ } g1 x _ _ S1₁ R1₁ hx fun h₂ tk₂ S1₂ hs₂ => wpAny_pure ?_)
    have hTO₂ : IsPair h₂ TO a b := hs₂.extBut _ _ D.h (hs₁.extBut _ _ D.b hTO)
    refine wpAny_bind (wpAny_seqItems hTO₂ rfl ?_)
    refine wpAny_bind (wpAny_updateSeq_pair hTO₂ fun h₃ hTO₃ hs₃ => ?_)
    refine wpAny_bind (wpAny_letGo (wpAny_pure ?_))
    refine wpAny_bind (wpAny_bind (wpAny_onRaise ?_))
    show wpAny _ _ (Builtin.SmallTypes.nextOf (.ref i2) >>= _) _ _ _
    have kk₃ : ∀ c o, c ≠ z → c ≠ TO → c ≠ i1 → c ≠ i2 → s.heap.get? c = some o → h₃.get? c = some o := fun c o c1 c2 c3 c4 e => hs₃.extBut _ _ c2 (hs₂.extBut _ _ c3 (hs₁.extBut _ _ c1 e))
    have S2₃ : S2 k h₃ := U2.keep _ _ _ h2 fun o e => hs₃.extBut _ _ D.i.symm (hs₂.extBut _ _ D.j.symm (hs₁.extBut _ _ D.d e))
    refine wpAny_bind (U2.fin _ k { s with heap := h₃, toks := tk₂ } g2 _ _ hh S2₃ (k2 _ _ _ r2 kk₃) hy fun h₄ e hs₄ he => ?_)
    obtain ⟨oe, hoe, hce⟩ := he
    have hz₄ : IsZip h₄ z TI TO .ellipsis := hs₄ _ _ D.d.symm (hs₃.extBut _ _ D.b.symm (hs₂.extBut _ _ D.c.symm hz₁))
    have hez : e ≠ z := fun x => by subst x; rw [hz₄] at hoe; cases hoe; simp at hce
    refine wpAny_setField_rec hz₄ (by simp) fun h₅ _ hs₅ => ?_
    refine wpAny_bind (wpAny_isInstance (T := "StopIteration") (b := true) ⟨oe, hs₅.extBut _ _ hez hoe, hce⟩ isSubtype_stop ?_)
    exact wpAny_pure (hQ h₅ tk₂ fun c o c1 c2 c3 c4 x => hs₅.extBut _ _ c1 (hs₄ _ _ c4 (kk₃ c o c1 c2 c3 c4 x)))
end
end L2
namespace L2
open PySem PySem.Spec PyProof.Rows
/-! ### zip(a, b): the object -/
abbrev zpH (h : Heap) (o1 o2 : Obj) : Heap := ((h.push o1).push o2)
abbrev zpT (h : Heap) (o1 o2 : Obj) : Heap := (zpH h o1 o2).push { cls := .type "tuple", data := .seq #[.ref h.objs.size, .ref (h.push o1).objs.size] }
abbrev zpO (h : Heap) (o1 o2 : Obj) : Heap := (zpT h o1 o2).push { cls := .type "tuple", data := .seq #[.none, .none] }
abbrev zpZ (h : Heap) (o1 o2 : Obj) : Heap := (zpO h o1 o2).push { cls := .type "zip", data := .fields #[.none, .bool false, .bool false, .ref (zpH h o1 o2).objs.size, .ref (zpT h o1 o2).objs.size] }
/-- iter(v) is a new object o, whatever stands beside -/
def ItersTo (h : Heap) (v : Value) (o : Obj) : Prop := ∀ (prog : Program) (w : World) (A : Around) (E : Value → Shared → Prop) (s : Shared) (Q : Value → Shared → Prop), (∀ b ob, h.get? b = some ob → s.heap.get? b = some ob) →
  Q (.ref s.heap.objs.size) { s with heap := s.heap.push o } → wpAny (model prog w) A (pyIter v) Q E s
theorem itersTo_tuple {h : Heap} {t : Addr} {items : Array Value} (ht : h.IsTuple t items) : ItersTo h (.ref t) { cls := .type "tuple_iterator", data := .fields #[.ref t, .int 0 0] } := fun prog w A E s Q k q => by
  obtain ⟨o, e, r⟩ := ht
  exact wpAny_pyIter_tuple (items := items) ⟨o, k _ _ e, r⟩ q
theorem itersTo_list {h : Heap} {t : Addr} {items : Array Value} (ht : h.IsList t items) : ItersTo h (.ref t) { cls := .type "list_iterator", data := .fields #[.ref t, .int 0 0] } := fun prog w A E s Q k q => by
  obtain ⟨o, e, r⟩ := ht
  exact wpAny_pyIter_list (items := items) ⟨o, k _ _ e, r⟩ q
theorem meets_zip2 (v1 v2 : Value) (o1 o2 : Obj) :
    Meets (Builtin.«zip.__new__» ⟨[.type "zip", v1, v2], []⟩) (fun _ R s => ItersTo s.heap v1 o1 ∧ ItersTo s.heap v2 o2 ∧ R (.ok (.ret (.ref (zpO s.heap o1 o2).objs.size))) { s with heap := zpZ s.heap o1 o2 }) :=
  .of_wp fun prog w A R s h => by
    obtain ⟨hp, g, d, tk, os⟩ := s
    obtain ⟨h1, h2, h⟩ := h
    have hsub := sub_zip
    have p1 : ∀ {A' : Around} {E : Value → Shared → Prop} {Q : Value → Shared → Prop}, Q (.ref hp.objs.size) ⟨hp.push o1, g, d, tk, os⟩ → wpAny (model prog w) A' (pyIter v1) Q E ⟨hp, g, d, tk, os⟩ := fun q => h1 prog w _ _ ⟨hp, g, d, tk, os⟩ _ (fun _ _ e => e) q
    have p2 : ∀ {A' : Around} {E : Value → Shared → Prop} {Q : Value → Shared → Prop}, Q (.ref (hp.push o1).objs.size) ⟨(hp.push o1).push o2, g, d, tk, os⟩ → wpAny (model prog w) A' (pyIter v2) Q E ⟨hp.push o1, g, d, tk, os⟩ := fun q => h2 prog w _ _ ⟨hp.push o1, g, d, tk, os⟩ _ (fun _ _ e => Heap.get?_push_of_some _ e) q
    wp_walk using p1, p2
    exact ⟨_, rfl, h⟩
section
variable {prog : Program} {w : World} {A : Around} {E : Value → Shared → Prop} {s : Shared}
theorem call_zip2 {v1 v2 : Value} {o1 o2 : Obj} {Q : Value → Shared → Prop} (p1 : ItersTo s.heap v1 o1) (p2 : ItersTo s.heap v2 o2) (f1 : o1.isFreed = false) (f2 : o2.isFreed = false)
    (h : ∀ h', IsZip h' (s.heap.objs.size + 4) (s.heap.objs.size + 2) (s.heap.objs.size + 3) .none → IsPair h' (s.heap.objs.size + 2) (.ref s.heap.objs.size) (.ref (s.heap.objs.size + 1)) → IsPair h' (s.heap.objs.size + 3) .none .none →
      h'.get? s.heap.objs.size = some o1 → h'.get? (s.heap.objs.size + 1) = some o2 → h'.objs.size = s.heap.objs.size + 5 → (∀ c o, s.heap.get? c = some o → h'.get? c = some o) → Q (.ref (s.heap.objs.size + 4)) { s with heap := h' }) :
    wpAny (model prog w) A (call (.type "zip") [v1, v2]) Q E s := by
  refine callType_new F.called_zip (by decide) (F.typeCall_zip_2 _ _) (F.newCall_zip_2 _ _) (fun obj => F.args_object_init_3 obj _ _) F.entry_zip_new (meets_zip2 v1 v2 o1 o2) ⟨p1, p2, ?_⟩
  have z1 : (s.heap.push o1).objs.size = s.heap.objs.size + 1 := Heap.size_push ..
  have z2 : (zpH s.heap o1 o2).objs.size = s.heap.objs.size + 2 := by rw [Heap.size_push, z1]
  have z3 : (zpT s.heap o1 o2).objs.size = s.heap.objs.size + 3 := by rw [Heap.size_push, z2]
  have z4 : (zpO s.heap o1 o2).objs.size = s.heap.objs.size + 4 := by rw [Heap.size_push, z3]
  have z5 : (zpZ s.heap o1 o2).objs.size = s.heap.objs.size + 5 := by rw [Heap.size_push, z4]
  have g5 : (zpZ s.heap o1 o2).get? (zpO s.heap o1 o2).objs.size = some _ := Heap.get?_push_size _ rfl
  have g4 : (zpZ s.heap o1 o2).get? (zpT s.heap o1 o2).objs.size = some _ := Heap.get?_push_of_some _ (Heap.get?_push_size _ rfl)
  have g3 : (zpZ s.heap o1 o2).get? (zpH s.heap o1 o2).objs.size = some _ := Heap.get?_push_of_some _ (Heap.get?_push_of_some _ (Heap.get?_push_size _ rfl))
  have g2 : (zpZ s.heap o1 o2).get? (s.heap.push o1).objs.size = some o2 := Heap.get?_push_of_some _ (Heap.get?_push_of_some _ (Heap.get?_push_of_some _ (Heap.get?_push_size _ f2)))
  have g1 : (zpZ s.heap o1 o2).get? s.heap.objs.size = some o1 := Heap.get?_push_of_some _ (Heap.get?_push_of_some _ (Heap.get?_push_of_some _ (Heap.get?_push_of_some _ (Heap.get?_push_size _ f1))))
  show _ ∧ _
  rw [z2, z3, z4] at g5
  rw [z1, z2] at g3
  rw [z3] at g4
  rw [z1] at g2
  rw [z4]
  exact ⟨⟨_, g5, rfl⟩, h _ g5 g3 g4 g1 g2 z5 fun c o x => Heap.get?_push_of_some _ (Heap.get?_push_of_some _ (Heap.get?_push_of_some _ (Heap.get?_push_of_some _ (Heap.get?_push_of_some _ x))))⟩
end

section
variable {X : Cx} {pins : List (Addr × Obj)} {σ : St} {H : Hp} {s : Shared} {h' : Heap}
/-- several untracked records of ours have turned, and a new tuple is tracked -/
theorem Inv.turnedL {t' : Nat} {ch : List Addr} (I : Inv X pins σ H s) (k : ∀ b o, b ∉ ch → s.heap.get? b = some o → h'.get? b = some o) (hf : ∀ b ∈ ch, FpOk X pins H b) : Inv X pins σ H { s with heap := h', toks := t' } := by
  have nit : ∀ b u, H b = some u → b ∉ ch := fun b u e z => by rw [(hf b z).1] at e; cases e
  refine I.step (g' := s.gens) (d' := s.drawn) (ch := ch) (fun b hb => ?_) (fun b o _ _ hc e _ => k b o hc e) (fun b o _ _ hc e _ => ⟨o.slots, k b o hc e⟩) (fun _ _ _ _ n => n)
    (fun b o hc e => ⟨o, k b o hc e⟩) (fun _ _ e => e) (fun _ _ _ e => e) (fun b ps e => ⟨#[], by rw [e]; simp⟩) (fun m hm => ?_) (fun b u e => ?_) I.bare
  · obtain ⟨f0, f1, f2, f3, f4, f5⟩ := hf b hb
    exact ⟨f3, f1, f4, f5⟩
  · obtain ⟨o, es, ep, ho, r⟩ := hm
    exact ⟨o, es, ep, k _ o (fun z => (hf _ z).2.1 rfl) ho, r⟩
  · refine (I.hok b u e).stay (fun c v hc q => k c v ?_ q) (fun _ q => q) fun _ _ q => q
    rcases hc with z | z
    · rw [z]; exact nit b u e
    · exact nit c _ z
theorem Inv.turnedT {t' : Nat} {ch : List Addr} {T : Addr} {vs : List V} (I : Inv X pins σ H s) (k : ∀ b o, b ∉ ch → s.heap.get? b = some o → h'.get? b = some o) (hf : ∀ b ∈ ch, FpOk X pins H b) (hT : s.heap.objs.size ≤ T)
    (new : ObjOk X.prog X.w (upd H T (.tup vs)) h' T (.tup vs)) : Inv X pins σ (upd H T (.tup vs)) { s with heap := h', toks := t' } := by
  have hn : H T = none := I.hok.fresh hT
  have nit : ∀ b u, H b = some u → b ∉ ch := fun b u e z => by rw [(hf b z).1] at e; cases e
  have nT : ∀ b o, s.heap.get? b = some o → b ≠ T := fun b o e z => absurd (Heap.lt_size e) (by rw [z]; exact Nat.not_lt.mpr hT)
  have up : ∀ b u, H b = some u → upd H T (.tup vs) b = some u := fun b u e => by rw [upd_ne (ne_of_none e hn)]; exact e
  refine I.step (g' := s.gens) (d' := s.drawn) (ch := ch) (fun b hb => ?_) (fun b o _ _ hc e _ => k b o hc e) (fun b o _ _ hc e _ => ⟨o.slots, k b o hc e⟩) (fun b o _ e n => by rw [upd_ne (nT b o e)]; exact n)
    (fun b o hc e => ⟨o, k b o hc e⟩) (fun b xs e => up b _ e) (fun b o u e => up b _ e) (fun b ps e => ⟨#[], by rw [up b _ e]; simp⟩) (fun m hm => ?_) (fun b u e => ?_) I.bare
  · obtain ⟨f0, f1, f2, f3, f4, f5⟩ := hf b hb
    exact ⟨f3, f1, f4, f5⟩
  · obtain ⟨o, es, ep, ho, r⟩ := hm
    exact ⟨o, es, ep, k _ o (fun z => (hf _ z).2.1 rfl) ho, r⟩
  · by_cases hb : b = T
    · subst hb; rw [upd_same] at e; cases e; exact new
    · rw [upd_ne hb] at e
      refine (I.hok b u e).stay (fun c v hc q => k c v ?_ q) (fun c q => up c _ q) fun c xs q => up c _ q
      rcases hc with z | z
      · rw [z]; exact nit b u e
      · exact nit c _ z
end

/-- what zip(a, b) yields: pairs, each a new tuple -/
def Itz (G1 G2 : Hp → List V → Prop) : It :=
  ⟨fun i H => ∃ xs ys x y, G1 H xs ∧ G2 H ys ∧ xs[i]? = some x ∧ ys[i]? = some y, fun i H v H' => ∃ T, v = .ref T ∧ H T = none ∧ ∀ xs ys x y, G1 H xs → G2 H ys → xs[i]? = some x → ys[i]? = some y → H' = upd H T (.tup [x, y]),
    fun i H => ∃ xs ys, G1 H xs ∧ G2 H ys ∧ (xs.length ≤ i ∨ ys.length ≤ i)⟩
/-- a sequence as a zip's part: what of the abstract heap tells its items -/
structure Part (K : PySem.W.Frag) (G : Hp → List V → Prop) (Si : Addr → Nat → Heap → Prop) (R : Heap → (Nat → Option Value) → Prop) (own : Addr) : Prop where
  sub : ∀ (P : Program) (w : World) (i : Addr), Sub P w i (Si i) R
  ready : ∀ (X : Cx), X.K = K → ∀ (pins : List (Addr × Obj)) (σ : St) (H : Hp) (s : Shared) (xs : List V), Inv X pins σ H s → G H xs → ∃ us : List Value, Vals xs us ∧ R s.heap (fun k => us[k]?)
  inj : ∀ (X : Cx), X.K = K → ∀ (pins : List (Addr × Obj)) (σ : St) (H : Hp) (s : Shared) (xs ys : List V), Inv X pins σ H s → G H xs → G H ys → xs = ys
  keep : ∀ h h' g, R h g → (∀ o, h.get? own = some o → h'.get? own = some o) → R h' g
theorem part_tuple {K : PySem.W.Frag} (a : Addr) : Part K (fun H xs => SqT K H a xs) (fun i k h => h.IsTupleIter i a k) (fun h get => ∃ items : Array Value, h.IsTuple a items ∧ ∀ k, get k = items[k]?) a where
  sub := fun P w i => sub_tuple i a
  ready := fun X hK pins σ H s xs I hq => by
    subst hK
    obtain ⟨its, r, ht, _⟩ := I.tuple hq
    exact ⟨its, r, its.toArray, ht, fun k => by simp⟩
  inj := fun X hK pins σ H s xs ys I h1 h2 => by subst hK; exact I.tuple_inj h1 h2
  keep := fun h h' g ⟨items, ⟨o, e, r⟩, q⟩ k => ⟨items, ⟨o, k o e, r⟩, q⟩
theorem part_list {K : PySem.W.Frag} (a : Addr) : Part K (fun H xs => SqL K H a xs) (fun i k h => h.IsListIter i a k) (fun h get => ∃ items : Array Value, h.IsList a items ∧ ∀ k, get k = items[k]?) a where
  sub := fun P w i => sub_list i a
  ready := fun X hK pins σ H s xs I hq => by
    subst hK
    obtain ⟨its, r, ht, _⟩ := I.list hq
    exact ⟨its, r, its.toArray, ht.isList, fun k => by simp⟩
  inj := fun X hK pins σ H s xs ys I h1 h2 => by subst hK; exact I.list_inj h1 h2
  keep := fun h h' g ⟨items, ⟨o, e, r⟩, q⟩ k => ⟨items, ⟨o, k o e, r⟩, q⟩
theorem turn_zip {P : Program} {w : World} {K : PySem.W.Frag} {elts : List Expr} {kk : Nat} {pos : Pos} {G1 G2 : Hp → List V → Prop} {S1 S2 : Addr → Nat → Heap → Prop} {R1 R2 : Heap → (Nat → Option Value) → Prop} {a1 a2 : Addr}
    (p1 : Part K G1 S1 R1 a1) (p2 : Part K G2 S2 R2 a2) {z TI TO i1 i2 : Addr} (D : ZApart z TI TO i1 i2) (n1 : a1 ∉ [z, TO, i1, i2]) (n2 : a2 ∉ [z, TO, i1, i2]) :
    Turn P w K (.Tuple elts kk pos) (Itz G1 G2) [z, TI, TO, i1, i2] z (fun i h => IsZip h z TI TO .none ∧ IsPair h TI (.ref i1) (.ref i2) ∧ (∃ a b, IsPair h TO a b) ∧ S1 i1 i h ∧ S2 i2 i h) where
  mem := by simp
  obj := fun i h ⟨hz, hTI, ⟨a, b, hTO⟩, h1, h2⟩ c hc => by
    simp only [List.mem_cons, List.not_mem_nil, or_false] at hc
    rcases hc with rfl | rfl | rfl | rfl | rfl
    · exact ⟨_, hz, fun v e => by cases e⟩
    · exact ⟨_, hTI, fun v e => by cases e⟩
    · exact ⟨_, hTO, fun v e => by cases e⟩
    · exact (p1.sub P w _).obj _ _ h1
    · exact (p2.sub P w _).obj _ _ h2
  keep := fun i h h' ⟨hz, hTI, ⟨a, b, hTO⟩, h1, h2⟩ q =>
    ⟨q z (by simp) _ hz, q TI (by simp) _ hTI, ⟨a, b, q TO (by simp) _ hTO⟩, (p1.sub P w i1).keep _ _ _ h1 (q i1 (by simp)), (p2.sub P w i2).keep _ _ _ h2 (q i2 (by simp))⟩
  item := by
    intro X hP hw hK hc i pins s σ H E I hf ⟨hz, hTI, ⟨a, b, hTO⟩, h1, h2⟩ hg
    subst hP hw
    obtain ⟨xs, ys, x, y, g1, g2, hx, hy⟩ := hg
    obtain ⟨us1, r1, rd1⟩ := p1.ready X hK pins σ H s xs I g1
    obtain ⟨us2, r2, rd2⟩ := p2.ready X hK pins σ H s ys I g2
    obtain ⟨u, hu, ru⟩ := r1.get hx
    obtain ⟨v, hv, rv⟩ := r2.get hy
    have out : ∀ c, c ≠ z → c ≠ TO → c ≠ i1 → c ≠ i2 → c ∉ [z, TO, i1, i2] := fun c c1 c2 c3 c4 hm => by
      simp only [List.mem_cons, List.not_mem_nil, or_false] at hm
      rcases hm with e | e | e | e <;> contradiction
    have sep : ∀ {c : Addr}, c ∉ [z, TO, i1, i2] → c ≠ z ∧ c ≠ TO ∧ c ≠ i1 ∧ c ≠ i2 := fun hm => ⟨fun e => hm (by simp [e]), fun e => hm (by simp [e]), fun e => hm (by simp [e]), fun e => hm (by simp [e])⟩
    obtain ⟨m1, m2, m3, m4⟩ := sep n1
    obtain ⟨m5, m6, m7, m8⟩ := sep n2
    refine zip_item (k := i) D (p1.sub _ _ i1) (p2.sub _ _ i2) (fun h h' g r q => p1.keep _ _ _ r fun o e => q a1 o m1 m2 m3 m4 e) (fun h h' g r q => p2.keep _ _ _ r fun o e => q a2 o m5 m6 m7 m8 e) hz hTI hTO h1 h2 rd1 rd2 hu hv fun h' tk hz' hTO' h1' h2' hT' hsz keep => ?_
    refine ⟨_, rfl, ?_⟩
    refine wpAny_letOwnedTupleGo_zip (s := { s with heap := h', toks := tk }) hz' fun h'' hz'' sb => ?_
    have zlt : z < s.heap.objs.size := Heap.lt_size hz
    have kp : ∀ c o, c ∉ [z, TO, i1, i2] → s.heap.get? c = some o → h''.get? c = some o := fun c o hm e => by
      obtain ⟨c1, c2, c3, c4⟩ := sep hm
      exact sb.extBut c o c1 (keep c o c1 c2 c3 c4 e)
    have hT'' : IsPair h'' s.heap.objs.size u v := sb.extBut _ _ (Nat.ne_of_gt zlt) hT'
    have fp4 : ∀ c ∈ [z, TO, i1, i2], FpOk X pins H c := fun c hm => hf c (by
      simp only [List.mem_cons, List.not_mem_nil, or_false] at hm ⊢
      rcases hm with e | e | e | e <;> simp [e])
    have I' := I.turnedT (t' := tk) (h' := h'') (T := s.heap.objs.size) (vs := [x, y]) kp fp4 (Nat.le_refl _) (show ObjOk X.prog X.w _ h'' _ (.tup [x, y]) from ⟨by show 2 ≤ sizeLine; decide, [u, v], .cons ru (.cons rv .nil), _, hT'', rfl, _, rfl⟩)
    have fresh : H s.heap.objs.size = none := I.hok.fresh (Nat.le_refl _)
    refine ⟨.ref s.heap.objs.size, _, I', rfl, ⟨_, rfl, fresh, fun xs' ys' x' y' g1' g2' hx' hy' => ?_⟩, ⟨hz'', sb.extBut _ _ D.a (keep _ _ D.a D.e D.f D.g hTI), ⟨_, _, sb.extBut _ _ D.b hTO'⟩, (p1.sub X.prog X.w i1).keep _ _ _ h1' fun o e => sb.extBut _ _ D.c e, (p2.sub X.prog X.w i2).keep _ _ _ h2' fun o e => sb.extBut _ _ D.d e⟩, fun c hm => ?_⟩
    · rw [p1.inj X hK pins σ H s _ _ I g1' g1, hx] at hx'
      rw [p2.inj X hK pins σ H s _ _ I g2' g2, hy] at hy'
      cases hx'
      cases hy'
      rfl
    · have h0 := (hf c hm).1
      have clt : c < s.heap.objs.size := by
        simp only [List.mem_cons, List.not_mem_nil, or_false] at hm
        rcases hm with rfl | rfl | rfl | rfl | rfl
        · exact zlt
        · exact Heap.lt_size hTI
        · exact Heap.lt_size hTO
        · obtain ⟨o, e, _⟩ := (p1.sub X.prog X.w _).obj _ _ h1; exact Heap.lt_size e
        · obtain ⟨o, e, _⟩ := (p2.sub X.prog X.w _).obj _ _ h2; exact Heap.lt_size e
      rw [upd_ne (Nat.ne_of_lt clt)]
      exact h0
  done := by
    intro X hP hw hK hc i pins s σ H E I hf ⟨hz, hTI, ⟨a, b, hTO⟩, h1, h2⟩ hg
    subst hP hw
    obtain ⟨xs, ys, g1, g2, hend⟩ := hg
    obtain ⟨us1, r1, rd1⟩ := p1.ready X hK pins σ H s xs I g1
    obtain ⟨us2, r2, rd2⟩ := p2.ready X hK pins σ H s ys I g2
    have sep : ∀ {c : Addr}, c ∉ [z, TO, i1, i2] → c ≠ z ∧ c ≠ TO ∧ c ≠ i1 ∧ c ≠ i2 := fun hm => ⟨fun e => hm (by simp [e]), fun e => hm (by simp [e]), fun e => hm (by simp [e]), fun e => hm (by simp [e])⟩
    obtain ⟨m1, m2, m3, m4⟩ := sep n1
    obtain ⟨m5, m6, m7, m8⟩ := sep n2
    have l1 := r1.length
    have l2 := r2.length
    refine zip_end (k := i) (I.ok.hd hc) D (p1.sub _ _ i1) (p2.sub _ _ i2) (fun h h' g r q => p1.keep _ _ _ r fun o e => q a1 o m1 m2 m3 m4 e) (fun h h' g r q => p2.keep _ _ _ r fun o e => q a2 o m5 m6 m7 m8 e) hz hTI hTO h1 h2 rd1 rd2 ?_ fun h' tk keep => ?_
    · rcases hend with e | e
      · exact .inl (by simp; omega)
      · exact .inr (by simp; omega)
    · refine ⟨rfl, I.turnedL (ch := [z, TO, i1, i2]) (fun c o hm e => ?_) fun c hm => hf c (by
        simp only [List.mem_cons, List.not_mem_nil, or_false] at hm ⊢
        rcases hm with e | e | e | e <;> simp [e])⟩
      obtain ⟨c1, c2, c3, c4⟩ := sep hm
      exact keep c o c1 c2 c3 c4 e
  self := fun A i s Q E ⟨hz, _⟩ q => wpAny_pyIter_zip hz q
end L2
namespace L2
open PySem PySem.Spec PyProof.Rows
section
variable {X : Cx} {elts : List Expr} {kk : Nat} {tpos : Pos}
theorem zapart_new (n : Nat) : ZApart (n + 4) (n + 2) (n + 3) n (n + 1) := by
  constructor <;> (intro e; have e' : @Eq Nat _ _ := e; omega)
/-- zip(a, b) of two tuples, of two lists -/
def iZipT (K : PySem.W.Frag) (ta : TA) : TI := fun σ H R => ta σ H fun vs H1 => ∃ a b xs ys, vs = [.ref a, .ref b] ∧ SqT K H1 a xs ∧ SqT K H1 b ys ∧ R (Itz (fun H xs => SqT K H a xs) (fun H ys => SqT K H b ys)) H1
def iZipL (K : PySem.W.Frag) (ta : TA) : TI := fun σ H R => ta σ H fun vs H1 => ∃ a b xs ys, vs = [.ref a, .ref b] ∧ SqL K H1 a xs ∧ SqL K H1 b ys ∧ R (Itz (fun H xs => SqL K H a xs) (fun H ys => SqL K H b ys)) H1
theorem zip_pie {pins : List (Addr × Obj)} {σ : St} {H : Hp} {s : Shared} {R : It → Hp → Prop} {E : Value → Shared → Prop} {G1 G2 : Hp → List V → Prop} {S1 S2 : Addr → Nat → Heap → Prop} {R1 R2 : Heap → (Nat → Option Value) → Prop} {a b : Addr} {o1 o2 : Obj}
    (I : Inv X pins σ H s) (p1 : Part X.K G1 S1 R1 a) (p2 : Part X.K G2 S2 R2 b) (t1 : ItersTo s.heap (.ref a) o1) (t2 : ItersTo s.heap (.ref b) o2) (f1 : o1.isFreed = false) (f2 : o2.isFreed = false) (la : a < s.heap.objs.size) (lb : b < s.heap.objs.size)
    (s1 : ∀ h i, h.get? i = some o1 → S1 i 0 h) (s2 : ∀ h i, h.get? i = some o2 → S2 i 0 h) (q : R (Itz G1 G2) H) :
    wpAny (model X.prog X.w) X.A (call (.type "zip") [.ref a, .ref b]) (fun v s1 => wpAny (model X.prog X.w) X.A (pyIter v) (PIE X pins σ (.Tuple elts kk tpos) R) E s1) E s := by
  refine call_zip2 t1 t2 f1 f2 fun h' hz hTI hTO g1 g2 hsz keep => ?_
  refine wpAny_pyIter_zip hz ?_
  have I1 : Inv X pins σ H { s with heap := h' } := I.kept (t' := s.toks) keep
  refine ⟨_, [s.heap.objs.size + 4, s.heap.objs.size + 2, s.heap.objs.size + 3, s.heap.objs.size, s.heap.objs.size + 1], _, _, H, rfl, I1, turn_zip (K := X.K) p1 p2 (zapart_new s.heap.objs.size) ?_ ?_, ⟨hz, hTI, ⟨_, _, hTO⟩, s1 _ _ g1, s2 _ _ g2⟩, fun c hc => ?_, q⟩
  · intro hm
    simp only [List.mem_cons, List.not_mem_nil, or_false] at hm
    rcases hm with e | e | e | e <;> (have e' : @Eq Nat _ _ := e; have la' : @LT.lt Nat _ a s.heap.objs.size := la; have lb' : @LT.lt Nat _ b s.heap.objs.size := lb; omega)
  · intro hm
    simp only [List.mem_cons, List.not_mem_nil, or_false] at hm
    rcases hm with e | e | e | e <;> (have e' : @Eq Nat _ _ := e; have la' : @LT.lt Nat _ a s.heap.objs.size := la; have lb' : @LT.lt Nat _ b s.heap.objs.size := lb; omega)
  · have hle : s.heap.objs.size ≤ c := by
      simp only [List.mem_cons, List.not_mem_nil, or_false] at hc
      rcases hc with e | e | e | e | e <;> (have e' : @Eq Nat _ _ := e; show @LE.le Nat _ s.heap.objs.size c; omega)
    exact I.fpOk hle (I.hok.fresh hle)
theorem pi_zipT {a b : Expr} {ta : TA} {p pos : Pos} (hg : Gl X "zip") (hm : X.mg "zip" = none) (ha : PA X [a, b] ta) (hs : starEach [a, b] X.env = [(false, eval a X.env), (false, eval b X.env)] := by rfl) (hs2 : starEach [b] X.env = [(false, eval b X.env)] := by rfl) :
    PI X (.Tuple elts kk tpos) (.Call (.Name "zip" p) [a, b] [] pos) (iZipT X.K ta) := by
  intro pins s σ H R I h
  refine Call_ (ld_blt I hg hm boot_zip (PyProof.Rows.callWith_type1 (thn (ha pos pins s σ H _ I h) fun us s1 ⟨vs, H1, I1, r1, q1⟩ => ?_) (by rw [hs, hs2]) (by rw [hs2]; rfl)))
  obtain ⟨x, y, xs, ys, e, hx, hy, q⟩ := q1
  subst e
  obtain ⟨u, v, rfl, ru, rv⟩ := r1.two
  cases ru
  cases rv
  obtain ⟨i1, _, ht1, _⟩ := I1.tuple hx
  obtain ⟨i2, _, ht2, _⟩ := I1.tuple hy
  have l1 : x < s1.heap.objs.size := by obtain ⟨_, e, _⟩ := ht1; exact Heap.lt_size e
  have l2 : y < s1.heap.objs.size := by obtain ⟨_, e, _⟩ := ht2; exact Heap.lt_size e
  exact zip_pie I1 (part_tuple x) (part_tuple y) (itersTo_tuple ht1) (itersTo_tuple ht2) rfl rfl l1 l2 (fun h i e => ⟨_, e, rfl, rfl⟩) (fun h i e => ⟨_, e, rfl, rfl⟩) q
theorem pi_zipL {a b : Expr} {ta : TA} {p pos : Pos} (hg : Gl X "zip") (hm : X.mg "zip" = none) (ha : PA X [a, b] ta) (hs : starEach [a, b] X.env = [(false, eval a X.env), (false, eval b X.env)] := by rfl) (hs2 : starEach [b] X.env = [(false, eval b X.env)] := by rfl) :
    PI X (.Tuple elts kk tpos) (.Call (.Name "zip" p) [a, b] [] pos) (iZipL X.K ta) := by
  intro pins s σ H R I h
  refine Call_ (ld_blt I hg hm boot_zip (PyProof.Rows.callWith_type1 (thn (ha pos pins s σ H _ I h) fun us s1 ⟨vs, H1, I1, r1, q1⟩ => ?_) (by rw [hs, hs2]) (by rw [hs2]; rfl)))
  obtain ⟨x, y, xs, ys, e, hx, hy, q⟩ := q1
  subst e
  obtain ⟨u, v, rfl, ru, rv⟩ := r1.two
  cases ru
  cases rv
  obtain ⟨i1, _, ht1, _⟩ := I1.list hx
  obtain ⟨i2, _, ht2, _⟩ := I1.list hy
  have l1 : x < s1.heap.objs.size := by obtain ⟨_, e, _⟩ := ht1.isList; exact Heap.lt_size e
  have l2 : y < s1.heap.objs.size := by obtain ⟨_, e, _⟩ := ht2.isList; exact Heap.lt_size e
  exact zip_pie I1 (part_list x) (part_list y) (itersTo_list ht1.isList) (itersTo_list ht2.isList) rfl rfl l1 l2 (fun h i e => ⟨_, e, rfl, rfl⟩) (fun h i e => ⟨_, e, rfl, rfl⟩) q
/-- .. without a test -/
theorem lc_on {J : It} {P : Hp → Prop} {xs : List V} (hJ : ItSeq J P xs) {src : List (Option Nat)} {g : TG} {te : TE} {σ : St} {H1 : Hp} {Q : VK} {D : Addr} (Pv : Nat → List V → St → Hp → Prop)
    (h0 : Pv 0 [] (capSt src σ) (upd H1 D (.lst []))) (hP : ∀ i ys σ' H', Pv i ys σ' H' → P H' ∧ H' D = some (.lst ys))
    (mono : ∀ x σ H Q Q', (∀ σ' H', Q σ' H' → Q' σ' H') → g x σ H Q → g x σ H Q')
    (step : ∀ i ys σ' H' x, xs[i]? = some x → Pv i ys σ' H' → g x σ' H' fun σ2 H4 => te σ2 H4 fun y H6 => H6 D = some (.lst ys) ∧ ys.length < sizeLine ∧ Pv (i + 1) (ys ++ [y]) σ2 (upd H6 D (.lst (ys ++ [y]))))
    (fin : ∀ ys σ' H', Pv xs.length ys σ' H' → Q (.ref D) H') : LC src J g tYes te σ H1 Q D :=
  lc_by hJ Pv h0 hP (fun i ys σ' H' x hx p => by
    refine mono _ _ _ _ _ ?_ (step i ys σ' H' x hx p)
    intro σ2 H4 q
    unfold tYes
    dsimp only
    rw [if_pos rfl]
    exact q) fin
theorem gName_mono (i : Nat) : ∀ x σ H Q Q', (∀ σ' H', Q σ' H' → Q' σ' H') → gName i x σ H Q → gName i x σ H Q' := fun _ _ _ _ _ h q => h _ _ q
/-! ### for over a text, over anything of n turns -/
end
end L2
namespace L2
open PySem PySem.Spec PyProof.Rows
/-! ### short words: the surroundings of a law as one thing, its defs by their promises -/
structure Gx where
  P : Program
  w : World
  K : PySem.W.Frag
  mg : Str → Option Value
  base : Heap
def Cx.gx (X : Cx) : Gx := ⟨X.prog, X.w, X.K, X.mg, X.base⟩
/-- a def of the top as it stands there -/
def Gx.Raw (g : Gx) (x qual : Str) (st : Stmt) (ps : List Str) : Prop := ∃ f fd, Fun g.K x qual st f fd ∧ Binds g.K fd ps [] ∧ g.mg x = some (.ref f)
/-- .. with its promise, k calls deep -/
def Gx.Fn (g : Gx) (k : Nat) (x : Str) (ps : List Str) (sp : Sp) : Prop := ∃ f fd, FnOk g.P g.w g.K g.mg g.base CX0 k f fd ps sp ∧ Binds g.K fd ps [] ∧ PySem.W.keepIn g.K (.ref f) = true ∧ g.mg x = some (.ref f)
/-- a method of the class at C -/
def Gx.RawM (g : Gx) (C : Addr) (m qual : Str) (st : Stmt) (ps : List Str) : Prop := ∃ f fd, Fun g.K m qual st f fd ∧ Binds g.K fd ps [] ∧ Meth g.K C m f
def Gx.Me (g : Gx) (k : Nat) (C : Addr) (m : Str) (ps : List Str) (sp : Sp) : Prop := ∃ f fd, FnOk g.P g.w g.K g.mg g.base CX0 k f fd ps sp ∧ Binds g.K fd ps [] ∧ Meth g.K C m f
/-- the class's own making -/
def Gx.RawI (g : Gx) (x : Str) (C : Addr) (qual : Str) (st : Stmt) (ps : List Str) : Prop := ∃ f fd, Fun g.K "__init__" qual st f fd ∧ Binds g.K fd ps [] ∧ Mk g.K C f ∧ g.mg x = some (.ref C)
def Gx.Ma (g : Gx) (k : Nat) (x : Str) (C : Addr) (ps : List Str) (sp : Sp) : Prop := ∃ f fd, FnOk g.P g.w g.K g.mg g.base CX0 k f fd ps sp ∧ Binds g.K fd ps [] ∧ Mk g.K C f ∧ g.mg x = some (.ref C)
def Gx.Con (g : Gx) (x : Str) (v : V) : Prop := ∃ u, g.mg x = some u ∧ RelV v u
/-- the body's context -/
abbrev Gx.cx (g : Gx) (N : List Str) (qual : Str) (st : Stmt) (f : Addr) (cdv : Value) (A : Around) (outer : List Env) (s : Shared) (H : Hp) (E : XK) : Cx := (cxOf CX0 g.P g.w g.K g.mg g.base N qual (defScope st) f cdv A outer s H E).nox
def Body (g : Gx) (k : Nat) (N : List Str) (qual : Str) (st : Stmt) (sp : Sp) : Prop := ∀ (f : Addr) (cdv : Value) (A : Around) (outer : List Env) (s : Shared) (H : Hp) (vs : List V) (Q : VK) (E : XK), Room k (g.cx N qual st f cdv A outer s H E).A → sp vs H Q E →
  ∃ t, PSs (g.cx N qual st f cdv A outer s H E) (defBody st) t ∧ t { nx := fun _ H' => Q .non H', rt := Q } (start N vs) H
section
variable {g : Gx} {k : Nat} {x qual m : Str} {st : Stmt} {N ps : List Str} {sp : Sp} {C : Addr}
theorem Gx.Raw.fn (R : g.Raw x qual st ps) (S : FnScope N ps (defScope st)) (len : ∀ vs H Q E, sp vs H Q E → vs.length = ps.length) (b : Body g k N qual st sp) : g.Fn (k + 1) x ps sp := by
  obtain ⟨f, fd, F, bd, hm⟩ := R
  exact ⟨f, fd, F.ok S len fun cdv A outer s H vs Q E hr h => b f cdv A outer s H vs Q E hr h, bd, F.kp, hm⟩
theorem Gx.Fn.mono {j : Nat} (F : g.Fn j x ps sp) (h : j ≤ k) : g.Fn k x ps sp := by
  obtain ⟨f, fd, F, r⟩ := F
  exact ⟨f, fd, F.mono h, r⟩
/-- nothing can be asked: no call is left -/
theorem Gx.Raw.none (R : g.Raw x qual st ps) (no : ∀ vs H Q E, ¬ sp vs H Q E) : g.Fn k x ps sp := by
  obtain ⟨f, fd, F, bd, hm⟩ := R
  exact ⟨f, fd, ⟨fun vs H Q E h => absurd h (no vs H Q E), fun A outer s H args us vs Q E _ _ _ _ h => absurd h (no vs H Q E)⟩, bd, F.kp, hm⟩
end
section
variable {g : Gx} {X : Cx} {k j : Nat} {x m : Str} {ps : List Str} {sp : Sp} {C : Addr} {e o : Expr} {es : List Expr} {t : TA} {ta : TE} {p pos apos : Pos}
/-- f(e, ..) -/
theorem pe_fn (F : g.Fn j x ps sp) (hr : Room k X.A) (ha : PA X (e :: es) t) (hj : j ≤ k := by omega) (hX : X.gx = g := by rfl) (hg : Gl X x := by rfl) (hdb : (x == ("__debug__" : Str)) = false := by decide)
    (he : starEach (e :: es) X.env = (false, eval e X.env) :: starEach es X.env := by rfl) (hpl : (backTo pos (starEach es X.env)).any (·.1) = false := by rfl) : PE X (.Call (.Name x p) (e :: es) [] pos) (tCall sp [] E0 t) := by
  subst hX
  obtain ⟨f, fd, F, b, kp, hm⟩ := F
  exact pe_call F (hr.mono hj) hg hm kp b .nil pass0 ha hdb he hpl
/-- a built-in function, type -/
theorem pe_bf {id : String} {r : List V → Hp → VK → Prop} (hm : g.mg x = none) (hc : CallR X (.builtin id) r) (ha : PA X (e :: es) t) (hv : bootBuiltins x = some (.builtin id) := by decide +kernel) (hX : X.gx = g := by rfl) (hg : Gl X x := by rfl) (hn : x ≠ "__name__" := by decide) (hdb : (x == ("__debug__" : Str)) = false := by decide)
    (he : starEach (e :: es) X.env = (false, eval e X.env) :: starEach es X.env := by rfl) (hpl : (backTo pos (starEach es X.env)).any (·.1) = false := by rfl) : PE X (.Call (.Name x p) (e :: es) [] pos) (tCB r t) := by
  subst hX
  exact pe_callB hc hg hm hv ha hn hdb he hpl
theorem pe_bt {T : String} {r : List V → Hp → VK → Prop} (hm : g.mg x = none) (hc : CallR X (.type T) r) (ha : PA X (e :: es) t) (hv : bootBuiltins x = some (.type T) := by decide +kernel) (hX : X.gx = g := by rfl) (hg : Gl X x := by rfl) (hn : x ≠ "__name__" := by decide) (hdb : (x == ("__debug__" : Str)) = false := by decide)
    (he : starEach (e :: es) X.env = (false, eval e X.env) :: starEach es X.env := by rfl) (hpl : (backTo pos (starEach es X.env)).any (·.1) = false := by rfl) : PE X (.Call (.Name x p) (e :: es) [] pos) (tCB r t) := by
  subst hX
  exact pe_callTy hc hg hm hv ha hn hdb he hpl
/-- a built-in type's name -/
theorem pe_bn {T : String} (hm : g.mg x = none) (hv : bootBuiltins x = some (.type T) := by decide +kernel) (hX : X.gx = g := by rfl) (hg : Gl X x := by rfl) (hn : x ≠ "__name__" := by decide) (hdb : (x == ("__debug__" : Str)) = false := by decide) : PE X (.Name x pos) (tC (.ty T)) := by
  subst hX
  exact pe_bltn hg hm hv rfl hn hdb
end
/-! ### code lists as texts -/
def S (l : List Nat) : Str := ⟨l.toArray⟩
def joinL (s : List Nat) : List (List Nat) → List Nat
  | [] => []
  | [x] => x
  | x :: y :: r => x ++ s ++ joinL s (y :: r)
end L2
namespace L2
open PySem PySem.Spec PyProof.Rows
/-! ### what the top has written -/
section
variable {K : PySem.W.Frag} {h : Heap} {mg : Str → Option Value} {P : Program} {w : World} {base : Heap} {f C : Addr} {x qual m : Str} {st : Stmt} {ps : List Str} {oc kV dc pm cd ct : Value} {od an : Option Addr} {sl : Array (Option Value)}
theorem raw_mk (X : K.In h) (G : h.Ns mainGlobals mg) (ps : List Str)
    (a : PySem.W.nsIn K mainGlobals x = some (some (.ref f))) (l : K.lookup f = some ⟨oc, od, .func (PySem.W.fnOf x x (defArgs st) (defBody st) (defScope st) .none kV dc pm an cd ct), sl⟩) (c : PySem.W.codeIn K cd x = true) (k : PySem.W.keepIn K (.ref f) = true)
    (b : ∀ (kV doc pm : Value) (an : Option Addr) (cdv ct : Value) (us : List Value), us.length = ps.length → bindArgs (PySem.W.fnOf x x (defArgs st) (defBody st) (defScope st) .none kV doc pm an cdv ct) ⟨us, []⟩ = pure (ps.zip us)) :
    ∀ P w base, (Gx.mk P w K mg base).Raw x x st ps := fun P w base =>
  have F := fun_mk (st := st) l c k
  ⟨f, _, F, F.binds b, PySem.W.mg_of X G a⟩
end
/-- the law's own promise -/
def spTrue (K : PySem.W.Frag) : Sp := fun vs H Q _ => ∃ (a : Addr) (ns : List Int), vs = [.ref a] ∧ SqL K H a (ns.map V.int) ∧ ns.length ≤ 63 ∧ ∀ H', Q (.bl true) H'
/-- the law's def as it stands at the top -/
def LawRaw (K : PySem.W.Frag) (mg : Str → Option Value) (st : Stmt) (x n : Str) : Prop := ∃ f fd, Fun K n n st f fd ∧ (∀ (s : Shared) (u : Value), BindsTo s fd ⟨[u], []⟩ [(x, u)]) ∧ mg n = some (.ref f)
theorem lawRaw_mk {K : PySem.W.Frag} {h : Heap} {mg : Str → Option Value} {f : Addr} {x n : Str} {st : Stmt} {oc kV dc pm cd ct : Value} {od an : Option Addr} {sl : Array (Option Value)} (X : K.In h) (G : h.Ns mainGlobals mg)
    (a : PySem.W.nsIn K mainGlobals n = some (some (.ref f))) (l : K.lookup f = some ⟨oc, od, .func (PySem.W.fnOf n n (defArgs st) (defBody st) (defScope st) .none kV dc pm an cd ct), sl⟩) (c : PySem.W.codeIn K cd n = true) (k : PySem.W.keepIn K (.ref f) = true)
    (b : ∀ (kV doc pm : Value) (an : Option Addr) (cdv ct : Value) (s : Shared) (u : Value), BindsTo s (PySem.W.fnOf n n (defArgs st) (defBody st) (defScope st) .none kV doc pm an cdv ct) ⟨[u], []⟩ [(x, u)]) : LawRaw K mg st x n :=
  ⟨f, _, fun_mk (st := st) l c k, b kV dc pm an cd ct, PySem.W.mg_of X G a⟩
end L2
namespace L2
open PySem PySem.Spec PyProof.Rows
section
variable {X : Cx}
/-- a number's bits, by a power above it -/
theorem bits_lt {a : Int} {m : Nat} (h : a.natAbs < 2 ^ m) : Builtin.Int.intBits a ≤ m := by
  unfold Builtin.Int.intBits
  split
  · omega
  · rename_i h0
    have h0 : a.natAbs ≠ 0 := by simpa using h0
    have := (Nat.log2_lt h0).mpr h
    omega
/-- a product whose bits are told -/
def CMulB (i j : Int) : Prop := ∃ m n : Nat, i.natAbs < 2 ^ m ∧ j.natAbs < 2 ^ n ∧ m + n ≤ 100000000
theorem CMulB.ok {i j : Int} (h : CMulB i j) : IntMulOk i j := by
  obtain ⟨m, n, h1, h2, h3⟩ := h
  exact IntMulOk.of_le (bits_lt h1) (bits_lt h2) (by omega)
def CDivL (i j : Int) : Prop := 0 < j ∧ j.natAbs < 2 ^ 9000
theorem op_fdivL : OpR X (binaryOp .FloorDiv) (rI CDivL fun i j => .int (i / j)) := opI fun i j _ _ _ _ _ hc q => by
  have h1 : (0 : Int) < j := hc.1
  have h2 := hc.2
  have h3 : j.natAbs ≠ 0 := by omega
  exact floordiv_int (by omega) (by rw [Int.fdiv_eq_ediv_of_nonneg i (by omega)]; exact q) (.inl (PyProof.noPylong_of_log2 ((Nat.log2_lt h3).mpr h2)))
theorem small_div {j : Int} (h : 0 < j) (h2 : j < 1073741824) {i : Int} : CDivL i j := ⟨h, Nat.lt_of_lt_of_le (show j.natAbs < 2 ^ 30 by omega) (Nat.pow_le_pow_right (by decide) (by decide))⟩
end
end L2
namespace L2
open PySem PySem.Spec PyProof.Rows
theorem cxOf_K {CX : CXT} {P : Program} {w : World} {K : PySem.W.Frag} {mg : Str → Option Value} {base : Heap} {N : List Str} {qual : Str} {scope : Scope} {f : Addr} {cd : Value} {A : Around} {outer : List Env} {s : Shared} {H : Hp} {E : XK} :
    (cxOf CX P w K mg base N qual scope f cd A outer s H E).K = K := rfl
theorem nox_K {X : Cx} : X.nox.K = X.K := rfl
/-! loops, said of the reading itself -/
section
variable {g : TG} {tb : TS} {D : Ends} {σ : St} {H : Hp}
theorem tFor_range1 {ta : TA} {n : Nat} (Pv : Nat → St → Hp → Prop) (ha : ∀ R : List V → Hp → Prop, R [.int n] H → ta σ H R) (hn : n < 2 ^ 62) (h0 : Pv 0 σ H)
    (hs : ∀ i σ H, i < n → Pv i σ H → g (.int i) σ H fun σ2 H2 => tb { D with nx := Pv (i + 1), ct := Pv (i + 1), bk := D.nx } σ2 H2) (hd : ∀ σ H, Pv n σ H → D.nx σ H) : tFor (iRng1 ta) g tb D σ H := by
  refine ha _ ⟨n, rfl, by omega, by omega, ?_⟩
  refine for_range (lo := 0) (n := n) Pv h0 (fun i σ H hi p => ?_) hd
  have e : (0 : Int) + i = i := by omega
  rw [e]; exact hs i σ H hi p
end
end L2
namespace L2
open PySem PySem.Spec PyProof.Rows
section
variable {X : Cx}
/-- the sum of a list of ints -/
theorem call_sum_ints (hc : X.calm = true := by rfl) : CallR X (.builtin "sum") (fun xs H Q => ∃ (p : Addr) (ns : List Int), xs = [.ref p] ∧ SqL X.K H p (ns.map V.int) ∧ Q (.int ns.sum) H) := by
  intro pins s σ H xs us Q I r h
  obtain ⟨p, ns, rfl, hq, q⟩ := h
  obtain ⟨u, rfl, rx⟩ := vals1 r
  cases rx
  obtain ⟨its, r', pl, hz⟩ := I.list hq
  have hi := intsAre_of r'
  have hl := pl.isList
  obtain ⟨xs, ex⟩ := hi.allInts.items
  rw [ex] at hl
  have e : preSum (numAt xs) xs.size = ns.sum := by
    have h1 := nums_intItems (xs := xs)
    rw [← ex] at h1
    have h2 := hi.numsOf
    rw [preSum_eq, List.take_of_length_le (by simp)]
    rw [← h1]
    exact congrArg List.sum h2
  refine sum_intListG (I.ok.hd hc) hl fun h' tk t' hk => ?_
  rw [e]
  exact ⟨.int _, H, I.kept (t' := tk) hk, ⟨t', rfl⟩, q⟩
end
/-! ### enumerate over a list -/
/-- what enumerate yields: pairs of a place and a thing, each a new tuple -/
def Ite (G : Hp → List V → Prop) : It :=
  ⟨fun i H => ∃ xs x, G H xs ∧ xs[i]? = some x, fun i H v H' => ∃ T, v = .ref T ∧ H T = none ∧ ∀ xs x, G H xs → xs[i]? = some x → H' = upd H T (.tup [.int i, x]), fun i H => ∃ xs, G H xs ∧ xs.length ≤ i⟩
theorem turn_enumL {P : Program} {w : World} {K : PySem.W.Frag} {elts : List Expr} {kk : Nat} {pos : Pos} {a e it : Addr} (ne : e ≠ it) (na : a ≠ e ∧ a ≠ it) :
    Turn P w K (.Tuple elts kk pos) (Ite fun H xs => SqL K H a xs) [e, it] e (fun i h => (∃ old, IsEnum h e it i old) ∧ h.IsListIter it a i) where
  mem := by simp
  obj := fun i h ⟨⟨old, he⟩, hi⟩ c hc => by
    simp only [List.mem_cons, List.not_mem_nil, or_false] at hc
    rcases hc with rfl | rfl
    · exact ⟨_, he, fun v z => by cases z⟩
    · obtain ⟨o, q, _, d⟩ := hi
      exact ⟨o, q, fun v z => by rw [d] at z; cases z⟩
  keep := fun i h h' ⟨⟨old, he⟩, hi⟩ q => ⟨⟨old, q e (by simp) _ he⟩, hi.at fun o z => q it (by simp) o z⟩
  item := by
    intro X hP hw hK hc i pins s σ H E I hf ⟨⟨old, he⟩, hi⟩ hg
    subst hP hw hK
    obtain ⟨xs, x, g1, hx⟩ := hg
    obtain ⟨its, rv, pl, hz⟩ := I.list g1
    obtain ⟨u, hu, ru⟩ := rv.get hx
    refine wpAny_pyNext_enum_item he hi pl.isList (x := u) (by simpa using hu) ne fun h1 ho hi1 hT hsz kp => ?_
    refine ⟨_, rfl, ?_⟩
    refine wpAny_letOwnedTupleGo_enum (s := { s with heap := h1, toks := s.toks + 1 }) ho fun h2 he2 sb => ?_
    have elt : e < s.heap.objs.size := Heap.lt_size he
    have kp2 : ∀ c o, c ∉ [e, it] → s.heap.get? c = some o → h2.get? c = some o := fun c o hm z => by
      have c1 : c ≠ e := fun q => hm (by simp [q])
      have c2 : c ≠ it := fun q => hm (by simp [q])
      exact sb.extBut c o c1 (kp c o c1 c2 z)
    have hT2 : h2.get? s.heap.objs.size = some { cls := .type "tuple", data := .seq #[.int i s.toks, u] } := sb.extBut _ _ (Nat.ne_of_gt elt) hT
    have I' := I.turnedT (t' := s.toks + 1) (h' := h2) (T := s.heap.objs.size) (vs := [.int i, x]) kp2 hf (Nat.le_refl _) (show ObjOk X.prog X.w _ h2 _ (.tup [.int i, x]) from ⟨by show 2 ≤ sizeLine; decide, [.int i s.toks, u], .cons ⟨_, rfl⟩ (.cons ru .nil), _, hT2, rfl, _, rfl⟩)
    have fresh : H s.heap.objs.size = none := I.hok.fresh (Nat.le_refl _)
    refine ⟨.ref s.heap.objs.size, _, I', rfl, ⟨_, rfl, fresh, fun xs' x' g1' hx' => ?_⟩, ⟨⟨_, by simpa using he2⟩, hi1.at fun o z => sb.extBut _ _ (Ne.symm ne) z⟩, fun c hm => ?_⟩
    · rw [I.list_inj g1' g1, hx] at hx'
      cases hx'
      rfl
    · have h0 := (hf c hm).1
      have clt : c < s.heap.objs.size := by
        simp only [List.mem_cons, List.not_mem_nil, or_false] at hm
        rcases hm with rfl | rfl
        · exact elt
        · obtain ⟨o, q, _⟩ := hi; exact Heap.lt_size q
      rw [upd_ne (Nat.ne_of_lt clt)]
      exact h0
  done := by
    intro X hP hw hK hc i pins s σ H E I hf ⟨⟨old, he⟩, hi⟩ hg
    subst hP hw hK
    obtain ⟨xs, g1, hx⟩ := hg
    obtain ⟨its, rv, pl, hz⟩ := I.list g1
    have hl := rv.length
    obtain ⟨f0, f1, f2, f3, f4, f5⟩ := hf it (by simp)
    exact wpAny_pyNext_enum_end (I.ok.hd hc) he hi pl.isList (by simp; omega) fun h' eb => ⟨rfl, I.turned (t' := s.toks) (fun b o hb z => eb b o hb z) f0 f1 f3 f4 f5⟩
  self := fun _ _ _ _ _ ⟨⟨_, he⟩, _⟩ h => wpAny_pyIter_enum he h
section
variable {X : Cx} {elts : List Expr} {kk : Nat} {tpos : Pos}
def iEnumL (K : PySem.W.Frag) (ta : TA) : TI := fun σ H R => ta σ H fun vs H1 => ∃ a xs, vs = [.ref a] ∧ SqL K H1 a xs ∧ R (Ite fun H xs => SqL K H a xs) H1
theorem pi_enumL {a : Expr} {ta : TA} {p pos : Pos} (hg : Gl X "enumerate") (hm : X.mg "enumerate" = none) (ha : PA X [a] ta) (hs : starEach [a] X.env = [(false, eval a X.env)] := by rfl) :
    PI X (.Tuple elts kk tpos) (.Call (.Name "enumerate" p) [a] [] pos) (iEnumL X.K ta) := by
  intro pins s σ H R I h
  refine Call_ (ld_blt I hg hm boot_enumerate (PyProof.Rows.callWith_type1 (thn (ha pos pins s σ H _ I h) fun us s1 ⟨vs, H1, I1, r1, q1⟩ => ?_) hs rfl))
  obtain ⟨x, xs, e, hx, q⟩ := q1
  subst e
  obtain ⟨u, rfl, ru⟩ := vals1 r1
  cases ru
  obtain ⟨i1, _, pl, _⟩ := I1.list hx
  have l1 : x < s1.heap.objs.size := by obtain ⟨_, e, _⟩ := pl.isList; exact Heap.lt_size e
  refine call_enumerate_list pl.isList fun h' he hi hsz keep => ?_
  refine wpAny_pyIter_enum he ?_
  have I2 : Inv X pins σ H1 { s1 with heap := h' } := I1.kept (t' := s1.toks) keep
  have l1' : @LT.lt Nat _ x s1.heap.objs.size := l1
  refine ⟨_, [s1.heap.objs.size + 1, s1.heap.objs.size], _, _, H1, rfl, I2, turn_enumL (by intro z; have z' : @Eq Nat _ _ := z; omega) ⟨by intro z; have z' : @Eq Nat _ _ := z; omega, by intro z; have z' : @Eq Nat _ _ := z; omega⟩, ⟨⟨_, he⟩, hi⟩, fun c hc => ?_, q⟩
  have hle : s1.heap.objs.size ≤ c := by
    simp only [List.mem_cons, List.not_mem_nil, or_false] at hc
    rcases hc with e | e <;> (have e' : @Eq Nat _ _ := e; show @LE.le Nat _ s1.heap.objs.size c; omega)
  exact I1.fpOk hle (I1.hok.fresh hle)
end
end L2
namespace L2
open PySem PySem.Spec PyProof.Rows
/-! ### == and != of data of any depth -/
mutual
/-- the data that a value of the heap stands for -/
inductive Den (K : PySem.W.Frag) (H : Hp) : V → PyData → Prop
  | non : Den K H .non .none
  | bl (b : Bool) : Den K H (.bl b) (.bool b)
  | int (i : Int) : Den K H (.int i) (.int i)
  | str (x : Str) (h : PyData.strOk x = true) : Den K H (.str x) (.str x)
  | lst {a : Addr} {vs : List V} {ds : List PyData} : SqL K H a vs → Dens K H vs ds → Den K H (.ref a) (.list ds)
  | tup {a : Addr} {vs : List V} {ds : List PyData} : SqT K H a vs → Dens K H vs ds → Den K H (.ref a) (.tuple ds)
inductive Dens (K : PySem.W.Frag) (H : Hp) : List V → List PyData → Prop
  | nil : Dens K H [] []
  | cons {v : V} {d : PyData} {vs : List V} {ds : List PyData} : Den K H v d → Dens K H vs ds → Dens K H (v :: vs) (d :: ds)
end
mutual
theorem Den.lay {K : PySem.W.Frag} {H : Hp} : ∀ {v : V} {d : PyData}, Den K H v d → d.canLay0 = true
  | _, _, .non => rfl
  | _, _, .bl b => rfl
  | _, _, .int i => rfl
  | _, _, .str x h => by simpa [PyData.canLay0] using h
  | _, _, .lst _ hs => by rw [PyData.canLay0]; exact hs.lay
  | _, _, .tup _ hs => by rw [PyData.canLay0]; exact hs.lay
theorem Dens.lay {K : PySem.W.Frag} {H : Hp} : ∀ {vs : List V} {ds : List PyData}, Dens K H vs ds → PyData.canLayAll0 ds = true
  | _, _, .nil => rfl
  | _, _, .cons h hs => by rw [PyData.canLayAll0, h.lay, hs.lay]; rfl
end
theorem Dens.ints {K : PySem.W.Frag} {H : Hp} : ∀ ns : List Int, Dens K H (ns.map V.int) (ns.map PyData.int)
  | [] => .nil
  | n :: ns => .cons (.int n) (.ints ns)
section
variable {X : Cx}
mutual
theorem Den.reads {pins : List (Addr × Obj)} {σ : St} {H : Hp} {s : Shared} (I : Inv X pins σ H s) : ∀ {v : V} {d : PyData} {u : Value}, Den X.K H v d → RelV v u → ∃ as, Reads s.heap u d as
  | _, _, u, .non, r => by cases (show u = .none from r); exact ⟨_, .none⟩
  | _, _, u, .bl b, r => by cases (show u = .bool b from r); exact ⟨_, .bool b⟩
  | _, _, u, .int i, r => by obtain ⟨t, rfl⟩ := r; exact ⟨_, .int i t⟩
  | _, _, u, .str x h, r => by obtain ⟨t, rfl⟩ := r; exact ⟨_, .str x t⟩
  | _, _, u, .lst (a := a) h hs, r => by
    cases (show u = .ref a from r)
    obtain ⟨its, rv, pl, hz⟩ := I.list h
    obtain ⟨as, ra⟩ := hs.reads I rv
    obtain ⟨o, e1, e2, n, e3⟩ := pl.isList
    exact ⟨_, .list e1 e2 e3 (by simpa using ra)⟩
  | _, _, u, .tup (a := a) h hs, r => by
    cases (show u = .ref a from r)
    obtain ⟨its, rv, pl, hz⟩ := I.tuple h
    obtain ⟨as, ra⟩ := hs.reads I rv
    obtain ⟨o, e1, e2, n, e3⟩ := (show s.heap.IsTuple a its.toArray from pl)
    exact ⟨_, .tuple e1 e2 e3 (by simpa using ra)⟩
theorem Dens.reads {pins : List (Addr × Obj)} {σ : St} {H : Hp} {s : Shared} (I : Inv X pins σ H s) : ∀ {vs : List V} {ds : List PyData} {us : List Value}, Dens X.K H vs ds → Vals vs us → ∃ as, ReadsAll s.heap us ds as
  | _, _, us, .nil, r => by cases r; exact ⟨_, .nil⟩
  | _, _, us, .cons h hs, r => by
    cases r with
    | cons r rr =>
      obtain ⟨as, ra⟩ := h.reads I r
      obtain ⟨bs, rb⟩ := hs.reads I rr
      exact ⟨_, .cons ra rb⟩
end
theorem op_eqD (hu : X.A.units + 64 < cLine) : OpR X (compareOp .Eq) (fun x y H Q => ∃ d e, Den X.K H x d ∧ Den X.K H y e ∧ d.depth ≤ 64 ∧ Q (.bl (PyData.eqv d e)) H) := by
  intro pins s σ H x y v u Q I rx ry h
  obtain ⟨d, e, hd, he, dp, q⟩ := h
  obtain ⟨as, ra⟩ := hd.reads I rx
  obtain ⟨bs, rb⟩ := he.reads I ry
  exact SeqAt.rcAt_reads ra rb hd.lay he.lay (by omega) _ _ _ _ ⟨.bl _, H, I, rfl, q⟩
end
/-! ### comprehensions -/
theorem take_snoc {α : Type} {l : List α} {i : Nat} {x : α} (h : l[i]? = some x) : l.take (i + 1) = l.take i ++ [x] := by
  obtain ⟨hi, hc⟩ := List.getElem?_eq_some_iff.mp h
  rw [List.take_succ_eq_append_getElem hi, hc]
end L2
namespace L2
open PySem PySem.Spec PyProof.Rows
/-! a block cut behind its first statements -/
section
variable {a b c d e r : TS} {D : Ends} {σ : St} {H : Hp} (M : St → Hp → Prop) (h1 : ∀ σ H, M σ H → r D σ H)
include h1
theorem cut2 (h2 : ∀ N : St → Hp → Prop, (∀ σ H, M σ H → N σ H) → tSeq a b { D with nx := N } σ H) : tSeq a (tSeq b r) D σ H := h2 (r D) h1
theorem cut4 (h2 : ∀ N : St → Hp → Prop, (∀ σ H, M σ H → N σ H) → tSeq a (tSeq b (tSeq c d)) { D with nx := N } σ H) : tSeq a (tSeq b (tSeq c (tSeq d r))) D σ H := h2 (r D) h1
theorem cut5 (h2 : ∀ N : St → Hp → Prop, (∀ σ H, M σ H → N σ H) → tSeq a (tSeq b (tSeq c (tSeq d e))) { D with nx := N } σ H) : tSeq a (tSeq b (tSeq c (tSeq d (tSeq e r)))) D σ H := h2 (r D) h1
end
theorem scal_ii (i j : Int) : scal (.int i) (.int j) = true := rfl
theorem scal_ss (i j : Str) : scal (.str i) (.str j) = true := rfl
theorem cut_list {α : Type} (xs : List α) (i j : Nat) : (xs.drop (min i xs.length)).take (min j xs.length - min i xs.length) = (xs.drop i).take (j - i) := by
  by_cases hi : i ≤ xs.length
  · rw [Nat.min_eq_left hi]
    by_cases hj : j ≤ xs.length
    · rw [Nat.min_eq_left hj]
    · rw [Nat.min_eq_right (by omega), List.take_of_length_le (by rw [List.length_drop]; omega), List.take_of_length_le (by rw [List.length_drop]; omega)]
  · rw [List.drop_of_length_le (by omega), List.drop_of_length_le (show xs.length ≤ i by omega)]
    simp
theorem cutV_nn (xs : List V) (i j : Nat) : cutV xs (some (i : Int)) (some (j : Int)) = (xs.drop i).take (j - i) := by
  unfold cutV
  rw [HT.sIx_nat, HT.sIx_nat]
  exact cut_list xs i j
theorem cutV_hi (xs : List V) (j : Nat) : cutV xs none (some (j : Int)) = xs.take j := by
  unfold cutV
  rw [HT.sIx_nat, HT.sIx_none, List.drop_zero, Nat.sub_zero]
  have := cut_list xs 0 j
  simpa using this
theorem cutV_lo (xs : List V) (i : Nat) : cutV xs (some (i : Int)) none = xs.drop i := by
  unfold cutV
  rw [HT.sIx_nat, HT.sIx_none]
  by_cases hi : i ≤ xs.length
  · rw [Nat.min_eq_left hi, List.take_of_length_le (by rw [List.length_drop]; omega)]
  · rw [List.drop_of_length_le (by omega), List.drop_of_length_le (show xs.length ≤ i by omega)]
    simp
end L2
namespace L2
open PySem PySem.Spec PyProof.Rows
section
variable {X : Cx} {tg : Expr}
def CPowB (i j : Int) : Prop := 0 ≤ j ∧ ∃ m : Nat, i.natAbs < 2 ^ m ∧ (m : Int) * j ≤ 2 ^ 27
/-- hi, hi - 1, .. (n of them) -/
def Itd (hi : Int) (n : Nat) : It := ⟨fun i _ => i < n, fun i H x H' => H' = H ∧ x = .int (hi - i), fun i _ => n ≤ i⟩
def iRngD (ta : TA) : TI := fun σ H R => ta σ H fun vs H1 => ∃ i j : Int, vs = [.int i, .int j, .int (-1)] ∧ (-(2 ^ 62) ≤ i ∧ i < 2 ^ 62 ∧ -(2 ^ 62) ≤ j ∧ j < 2 ^ 62) ∧ R (Itd i (i - j).toNat) H1
end
end L2
namespace L2
open PySem PySem.Spec PyProof.Rows
/-- for over a list that is made on the spot -/
theorem tFor_listN {g : TG} {tb : TS} {D : Ends} {σ : St} {H : Hp} {K : PySem.W.Frag} {tl : TE} {xs : List V} (Pv : Addr → Nat → St → Hp → Prop) (ha : ∀ R : V → Hp → Prop, (∀ c H1, Pv c 0 σ H1 → R (.ref c) H1) → tl σ H R) (hl : ∀ c i σ H, i ≤ xs.length → Pv c i σ H → SqL K H c xs)
    (hs : ∀ c (i : Nat) x σ H, xs[i]? = some x → Pv c i σ H → g x σ H fun σ2 H2 => tb { D with nx := Pv c (i + 1), ct := Pv c (i + 1), bk := D.nx } σ2 H2) (hd : ∀ c σ H, Pv c xs.length σ H → D.nx σ H) : tFor (iList K tl) g tb D σ H := by
  refine ha _ fun c H1 h0 => ⟨c, rfl, ⟨xs, hl c 0 σ H1 (Nat.zero_le _) h0⟩, ?_⟩
  exact for_list (Pv c) h0 (hl c) (hs c) (hd c)
end L2
namespace L2
open PySem PySem.Spec PyProof.Rows
section
variable {src : List (Option Nat)} {te : TE} {σ : St} {H : Hp} {Q : VK}
/-- .. with a test: what it leaves -/
theorem lc_filt {J : It} {P : Hp → Prop} {xs : List V} (hJ : ItSeq J P xs) {tt : TT} {H1 : Hp} {D : Addr} (p : V → Bool) (f : V → V) (hP : ∀ H', Same H1 H' → P H') (hD : H1 D = none) (hlen : xs.length ≤ 100000)
    (test : ∀ x H', x ∈ xs → Same H1 H' → ∀ R : Bool → Hp → Prop, (∀ H'', Same H' H'' → R (p x) H'') → tt (some x :: capSt src σ) H' R)
    (step : ∀ x H', x ∈ xs → p x = true → Same H1 H' → ∀ R : VK, (∀ H'', Same H' H'' → R (f x) H'') → te (some x :: capSt src σ) H' R)
    (fin : ∀ H', Same H1 H' → H' D = some (.lst ((xs.filter p).map f)) → Q (.ref D) H') : LC (none :: src) J (gName 0) tt te σ H1 Q D := by
  have h6 : 100000 < sizeLine := by decide
  refine lc_by hJ (fun i zs σ' H' => zs = ((xs.take i).filter p).map f ∧ (∃ o, σ' = o :: capSt src σ) ∧ Same H1 H' ∧ H' D = some (.lst zs)) ⟨by simp, ⟨none, rfl⟩, .upd_new hD _, upd_same⟩ (fun i zs σ' H' q => ⟨hP _ q.2.2.1, q.2.2.2⟩) ?_ ?_
  · rintro i zs σ' H' x hx ⟨rfl, ⟨o, rfl⟩, sm, hd⟩
    have hi := (List.getElem?_eq_some_iff.mp hx).1
    have hm := List.mem_of_getElem? hx
    show tt (some x :: capSt src σ) H' _
    refine test x H' hm sm _ fun H2 s2 => ?_
    cases e : p x with
    | true =>
      refine iteT ?_
      refine step x H2 hm e (sm.trans s2) _ fun H3 s3 => ⟨s3 _ _ (s2 _ _ hd), ?_, ?_, ⟨_, rfl⟩, .upd_over hD ((sm.trans s2).trans s3) _, upd_same⟩
      · have h7 := List.length_filter_le p (xs.take i)
        rw [List.length_map]
        rw [List.length_take] at h7
        omega
      · rw [take_snoc hx, List.filter_append, List.map_append]
        simp [List.filter, e]
    | false =>
      refine iteF ?_
      refine ⟨?_, ⟨_, rfl⟩, sm.trans s2, s2 _ _ hd⟩
      rw [take_snoc hx, List.filter_append]
      simp [List.filter, e]
  · rintro zs σ' H' ⟨rfl, _, sm, hd⟩
    rw [List.take_length] at hd
    exact fin H' sm hd
end
end L2
namespace L2
open PySem PySem.Spec PyProof.Rows
section
variable {src : List (Option Nat)} {te : TE} {σ : St} {H : Hp} {Q : VK}
end
/-! the same within a comprehension, whose own block says the text's objects in its own words -/
section
variable {X : Cx} {K : PySem.W.Frag}
theorem ix_listK (h : X.K = K := by rfl) : IxR X (rIxL K) := by subst h; exact ix_list
theorem call_len_seqK (h : X.K = K := by rfl) : CallR X (.builtin "len") (fun xs H Q => ∃ p ys, xs = [.ref p] ∧ (SqL K H p ys ∨ SqT K H p ys) ∧ Q (.int ys.length) H) := by subst h; exact call_len_seq
end
end L2
namespace L2
open PySem PySem.Spec PyProof.Rows
section
variable {tb : TS} {D : Ends} {σ : St} {H : Hp}
/-- for over the pairs of two lists, which may be made on the spot -/
theorem tFor_zipN {K : PySem.W.Frag} {ta : TA} (i j : Nat) {xs ys : List V} (Pv : Addr → Addr → Nat → St → Hp → Prop) (ha : ∀ R : List V → Hp → Prop, (∀ a b H1, Pv a b 0 σ H1 → R [.ref a, .ref b] H1) → ta σ H R)
    (hl : ∀ a b n σ H, n ≤ min xs.length ys.length → Pv a b n σ H → SqL K H a xs ∧ SqL K H b ys)
    (hs : ∀ a b (n : Nat) x y σ H T, xs[n]? = some x → ys[n]? = some y → Pv a b n σ H → H T = none → tb { D with nx := Pv a b (n + 1), ct := Pv a b (n + 1), bk := D.nx } ((σ.set i (some x)).set j (some y)) (upd H T (.tup [x, y])))
    (hd : ∀ a b σ H, Pv a b (min xs.length ys.length) σ H → D.nx σ H) : tFor (iZipL K ta) (gTup K 2 (gCons (gName i) (gCons (gName j) gNil))) tb D σ H := by
  refine ha _ fun a b H1 h0 => ?_
  obtain ⟨s1, s2⟩ := hl a b 0 σ H1 (Nat.zero_le _) h0
  refine ⟨a, b, xs, ys, rfl, s1, s2, ?_⟩
  refine ⟨fun n m σ H => m = min xs.length ys.length - n ∧ n ≤ min xs.length ys.length ∧ Pv a b n σ H, ⟨min xs.length ys.length, by simp, Nat.zero_le _, h0⟩, ?_⟩
  rintro n m σ H ⟨rfl, hn, p⟩
  obtain ⟨g1, g2⟩ := hl a b n σ H hn p
  by_cases hlt : n < min xs.length ys.length
  · have hx : xs[n]? = some (xs[n]'(by omega)) := List.getElem?_eq_getElem _
    have hy : ys[n]? = some (ys[n]'(by omega)) := List.getElem?_eq_getElem _
    refine .inr ⟨⟨xs, ys, _, _, g1, g2, hx, hy⟩, Pv a b (n + 1), fun σ' H' p' => ⟨min xs.length ys.length - (n + 1), by omega, rfl, hlt, p'⟩, ?_⟩
    rintro v H' ⟨T, rfl, hT, heq⟩
    have e := heq xs ys _ _ g1 g2 hx hy
    subst e
    exact ⟨T, _, rfl, SqT.of upd_same, rfl, _, _, rfl, _, _, rfl, rfl, hs a b n _ _ σ H T hx hy p hT⟩
  · have e : n = min xs.length ys.length := by omega
    subst e
    refine .inl ⟨⟨xs, ys, g1, g2, ?_⟩, hd a b σ H p⟩
    omega
end
end L2
namespace L2
open PySem PySem.Spec PyProof.Rows
section
variable {X : Cx} {e st : Expr} {te ts : TE} {pos p2 : Pos}
/-- xs[::-1] of a list: a new list -/
def tRev (K : PySem.W.Frag) (te ts : TE) : TE := fun σ H Q => te σ H fun x H1 => ts σ H1 fun y H2 => y = .int (-1) ∧ ∃ a xs, x = .ref a ∧ SqL K H2 a xs ∧ ∀ p, H2 p = none → Q (.ref p) (upd H2 p (.lst xs.reverse))
end
end L2
namespace L2
open PySem PySem.Spec PyProof.Rows
section
variable {X : Cx} {pos : Pos}
theorem op_isnotB : OpR X (compareOp .IsNot) (fun x y H Q => ∃ a b, x = .bl a ∧ y = .bl b ∧ Q (.bl (a != b)) H) := by
  intro pins s σ H x y v u Q I rx ry h
  obtain ⟨a, b, rfl, rfl, q⟩ := h
  cases rx
  cases ry
  exact isnot_bool ⟨.bl _, H, I, rfl, q⟩
def rBits : V → List V → Hp → VK → Prop := fun x vs H Q => ∃ i, x = .int i ∧ vs = [] ∧ Q (.int (Builtin.Int.intBits i : Nat)) H
def rFind : V → List V → Hp → VK → Prop := fun x vs H Q => ∃ (z y : Str), x = .str z ∧ vs = [.str y] ∧ Q (.int (Txt.find z y)) H
def tDict0 : TE := fun _ H Q => ∀ p, H p = none → Q (.ref p) (upd H p (.dK []))
end
/-- a tuple of texts of the module's top -/
def Gx.ConT (g : Gx) (x : Str) (xs : List V) : Prop := ∃ c, g.mg x = some (.ref c) ∧ ∀ H, SqT g.K H c xs
section
variable {X : Cx} {g : Gx} {x : Str} {pos : Pos}
def tConT (K : PySem.W.Frag) (xs : List V) : TE := fun _ H Q => ∀ c, SqT K H c xs → Q (.ref c) H
end
end L2
namespace L2
open PySem PySem.Spec PyProof.Rows
theorem iteN {c A B : Prop} [Decidable c] (h : ¬ c) (hb : B) : if c then A else B := by rw [if_neg h]; exact hb
theorem iteY {c A B : Prop} [Decidable c] (h : c) (ha : A) : if c then A else B := by rw [if_pos h]; exact ha
section
variable {src : List (Option Nat)} {te : TE} {σ : St} {H : Hp} {Q : VK}
end
section
variable {X : Cx} {K : PySem.W.Frag} {o e : Expr} {es : List Expr} {to : TE} {t : TA} {name : Str} {apos cpos : Pos} {T id : String} {r : V → List V → Hp → VK → Prop}
end
section
variable {X : Cx}
def CMulC (i j : Int) : Prop := CMulB i j ∨ CMul i j
theorem op_mulC : OpR X (binaryOp .Mult) (rI CMulC fun i j => .int (i * j)) := opI fun _ _ _ _ _ _ _ hc q => mul_int q (hc.elim (fun h => h.ok) fun h => h.ok)
end
end L2
namespace L2
open PySem PySem.Spec PyProof.Rows
abbrev IsZipF (h : Heap) (z TI TO : Addr) (f0 : Value) (f1 : Bool) : Prop :=
  h.get? z = some { cls := .type "zip", dict := none, data := .fields #[f0, .bool f1, .bool false, .ref TI, .ref TO], slots := #[] }
section
variable {prog : Program} {w : World} {A : Around} {E : Value → Shared → Prop} {s : Shared} {z TI TO i1 i2 T : Addr} {S1 S2 : Nat → Heap → Prop} {R1 R2 : Heap → (Nat → Option Value) → Prop} {g1 g2 : Nat → Option Value} {k : Nat} {a b : Value} {f : Bool} {oT : Obj}
end
/-! list(zip(a, b)) of two tuples of one length -/
section
variable {prog : Program} {w : World} {A : Around} {s : Shared} {R : Result → Shared → Prop} {z TI TO i1 i2 S p1 p2 : Addr} {xs ys : List Value}
/-- the zip as it stands at turn i -/
def ZSt (h : Heap) (z TI TO i1 i2 p1 p2 : Addr) (i : Nat) (as : List Addr) : Prop :=
  IsPair h TI (.ref i1) (.ref i2) ∧ h.IsTupleIter i1 p1 i ∧ h.IsTupleIter i2 p2 i ∧ ((i = 0 ∧ IsZip h z TI TO .none ∧ ∃ a b, IsPair h TO a b) ∨ ∃ T f, T ∈ as ∧ IsZipF h z TI TO (rawInt T) f)
end
end L2
namespace L2
open PySem PySem.Calls PySem.Spec PyProof.Rows PyProof.V
section
variable {prog : Program} {w : World} {A : Around} {E : Value → Shared → Prop} {s : Shared} {z TI TO i1 i2 p1 p2 : Addr} {xs ys : List Value}
/-- what the list has at the end -/
structure ZGot (xs ys : List Value) (lo : Nat) (h : Heap) (as : List Addr) : Prop where
  len : as.length = xs.length
  rise : as.Pairwise (· < ·)
  above : ∀ a ∈ as, lo ≤ a
  pairs : ∀ (j : Nat) a x y, as[j]? = some a → xs[j]? = some x → ys[j]? = some y → IsPair h a x y
end
end L2
namespace L2
open PySem PySem.Spec PyProof.Rows
section
variable {X : Cx} {pins : List (Addr × Obj)} {σ : St} {H H' : Hp} {s : Shared} {h' : Heap}
end
section
variable {X : Cx}
/-- list(zip(a, b)) of two tuples of one length -/
def tLZ (K : PySem.W.Frag) (ta : TA) : TE := fun σ H Q => ta σ H fun vs H1 => ∃ a b xs ys, vs = [.ref a, .ref b] ∧ SqT K H1 a xs ∧ SqT K H1 b ys ∧ xs.length = ys.length ∧
  ∀ (l : Addr) (as : List Addr) (H2 : Hp), H1 l = none → Same H1 H2 → H2 l = some (.lst (as.map V.ref)) → as.length = xs.length →
    (∀ (j : Nat) a x y, as[j]? = some a → xs[j]? = some x → ys[j]? = some y → H1 a = none ∧ H2 a = some (.tup [x, y])) → Q (.ref l) H2
end
end L2
namespace L2
open PySem PySem.Spec PyProof.Rows
section
variable {src : List (Option Nat)} {te : TE} {σ : St} {H : Hp} {Q : VK}
end
end L2
namespace L2
open PySem PySem.Spec PyProof.Rows
section
variable {X : Cx}
/-- name = [.. for ..]: stored ahead of the letting go of the block's own names -/
theorem ps_setC {i : Nat} {x : Str} {pos' apos : Pos} {elt tg iter : Expr} {ifs : List Expr} {scope : Scope} {pos : Pos} {src : List (Option Nat)} {N' : List Str} {wi : TI} {g : TG} {tt : TT} {te : TE} (hN : X.N.Nodup) (hix : X.N[i]? = some x) (hlx : Loc X.env.scope x) (hcap : Cap X scope src N') (hc : X.calm = true) (hi : PI X tg iter wi)
    (hg : ∀ cl C s₀ H₀ fp pn, PG (cxC X scope N' cl C s₀ H₀ fp pn) tg g) (ht : ∀ cl C s₀ H₀ fp pn, PTs (cxC X scope N' cl C s₀ H₀ fp pn) ifs tt) (he : ∀ cl C s₀ H₀ fp pn, PE (cxC X scope N' cl C s₀ H₀ fp pn) elt te)
    (hfree : ∀ x, (x, NameKind.free) ∈ scope.names → X.env.scope.names.lookup x = some NameKind.cell ∨ X.env.scope.names.lookup x = some NameKind.free)
    (hk : scope.kind = .function := by rfl) (hcell : ∀ y ∈ scope.names, y.2 ≠ .cell := by decide) (hnames : ∀ y ∈ scope.names, y.2 = .local → scope.names.lookup y.1 = some .local := by decide +kernel)
    (hs : ∀ x, foldedSetIterable iter X.env x = pure x := by intro _; rfl) (hsw : swapsWithSole [.Name x pos'] (.ListComp elt [⟨tg, iter, ifs, 0⟩] scope pos) apos.line X.env = pure true := by rfl) (hf : X.fn x = true ∨ X.env.scope.names.lookup x = some .local := by first | exact .inl rfl | exact .inr rfl | assumption) :
    PS X (.Assign [.Name x pos'] (.ListComp elt [⟨tg, iter, ifs, 0⟩] scope pos) apos) (tAsg (tLC src wi g tt te) (gName i)) := by
  intro pins s σ H D0 I h
  have no : ∀ {E : Value → Shared → Prop}, ∀ (e : Value) (s' : Shared), False → E e s' := fun _ _ f => f.elim
  obtain ⟨cl, hcl, a, b⟩ := closure_ok X.env scope fun x hx => I.ok.has x (hfree x hx)
  rw [exec_Assign_arm]
  refine wpAny_bind (wpAny_standAt ?_)
  rw [hsw]
  refine wpAny_bind (wpAny_pure ?_)
  rw [if_pos rfl]
  refine wpAny_bind ?_
  rw [arm_evalThenUse_ListComp]
  refine wpAny_bind ?_
  refine wpAny_comprehension_free (use := some _) rfl hs hcl hk hnames (thn (hi pins s σ H _ I h) fun v s1 h1 => thn h1 fun itv s2 h2 => ?_)
  obtain ⟨it, fp, tn, J, H2, e, I2, T, st2, f2, q⟩ := h2
  subst e
  have hD : H2 s2.heap.objs.size = none := I2.hok.fresh (Nat.le_refl _)
  obtain ⟨W, ⟨m0, w0⟩, turn⟩ := q s2.heap.objs.size hD
  have I3 := I2.lnew (t' := s2.toks) (ys := []) (its := []) .nil (Nat.zero_le _)
  have fl2 : ∀ b ∈ fp, b < s2.heap.objs.size := fun b hb => by
    obtain ⟨o, e, _⟩ := T.obj _ _ st2 b hb
    exact Heap.lt_size e
  refine wpAny_newObj_type ?_
  generalize es3 : ({ s2 with heap := s2.heap.push { cls := .type "list", dict := none, data := .seq ([] : List Value).toArray } } : Shared) = s3
  have I3' : Inv X pins σ (upd H2 s2.heap.objs.size (.lst [])) s3 := es3 ▸ I3
  have keep3 : ∀ b o, s2.heap.get? b = some o → s3.heap.get? b = some o := fun b o e => by rw [← es3]; exact Heap.get?_push_of_some _ e
  have st3 : tn 0 s3.heap := T.keep _ _ _ st2 fun b _ o e => keep3 b o e
  have fl3 : ∀ b ∈ fp, b < s3.heap.objs.size := fun b hb => by
    obtain ⟨o, e, _⟩ := T.obj _ _ st3 b hb
    exact Heap.lt_size e
  have f3 : ∀ b ∈ fp, FpOk X pins (upd H2 s2.heap.objs.size (.lst [])) b := fun b hb => ⟨by rw [upd_ne (Nat.ne_of_lt (fl2 b hb))]; exact (f2 b hb).1, (f2 b hb).2⟩
  generalize eD : s2.heap.objs.size = D at *
  generalize eH3 : upd H2 D (.lst []) = H3 at *
  refine wpAny_newFunctionEnv hcell (by intro y hy; simp at hy) (fun h₁ hns₁ hsb₁ => ?_) hk
  have keep4 : ∀ b o, s3.heap.get? b = some o → h₁.get? b = some o := fun b o e => hsb₁.extBut b o (Nat.ne_of_lt (Heap.lt_size e)) (Heap.get?_push_of_some _ e)
  have I4 := inv_comp (N' := N') (src := src) (tk := s3.toks + ([] : List (Str × Value)).length) hk hcell hcap a b I3' f3 fl3 rfl keep4 hns₁
  -- the iterator's objects, through the block
  have stat : ∀ {H' : Hp}, (∀ b ∈ fp, H' b = none) → ∀ b ∈ fp, FpOk (cxC X scope N' cl s3.heap.objs.size s3 H3 fp (X.pn ++ pins)) [] H' b := fun hn b' hb => by
    obtain ⟨f0, f1, fs, fe, f4, f5⟩ := f3 b' hb
    refine ⟨hn b' hb, Nat.ne_of_lt (fl3 b' hb), fun z => ?_, .inl hb, fun x c h => f4 x c (a x c h), fun p hp => f5 p (by simpa [cxC] using hp)⟩
    rcases List.mem_cons.mp (I3'.stkSub b' z) with e | e
    · exact f1 e
    · exact fs e
  -- behind the block
  have fin : ∀ {H' : Hp} {s' : Shared} {σ' : St} {pins' : List (Addr × Obj)}, Inv (cxC X scope N' cl s3.heap.objs.size s3 H3 fp (X.pn ++ pins)) pins' σ' H' s' → ∀ h', Heap.SameBut s3.heap.objs.size s'.heap h' → Inv X pins σ H' { s' with heap := h' } := fun {H' s' σ' pins'} J' h' sb => by
    have same : ∀ b o, b ≠ s3.heap.objs.size → s'.heap.get? b = some o → h'.get? b = some o := fun b o hb e => sb.extBut b o hb e
    have u : Un (frs X.stack) fp H3 H' s3.heap s'.heap := J'.base
    refine I3'.call' (s' := { s' with heap := h' }) (ch := fp) J'.os ⟨fun b o e n hb hx => ?_, fun b o e n hb hx => ?_, u.free, fun b o e hx => ?_, u.tups, u.frzs, u.tbls⟩ (fun b o e => ?_) J'.bare fun b hb => ?_
    · exact same b o (Nat.ne_of_lt (Heap.lt_size e)) (u.keep b o e n hb hx)
    · obtain ⟨sl, z⟩ := u.slot b o e n hb hx
      exact ⟨sl, same b _ (Nat.ne_of_lt (Heap.lt_size e)) z⟩
    · obtain ⟨o', z⟩ := u.there b o e hx
      exact ⟨o', same b o' (Nat.ne_of_lt (Heap.lt_size e)) z⟩
    · have nC : ∀ c v, H' c = some v → c ≠ s3.heap.objs.size := fun c v z q => by
        have := J'.free
        rw [show (cxC X scope N' cl s3.heap.objs.size s3 H3 fp (X.pn ++ pins)).env.locals = s3.heap.objs.size from rfl, ← q, z] at this
        cases this
      refine (J'.hok b o e).stay (fun c v hc q => same c v ?_ q) (fun _ q => q) fun _ _ q => q
      rcases hc with z | z
      · rw [z]; exact nC b o e
      · exact nC c _ z
    · obtain ⟨f0, f1, fs, fe, f4, f5⟩ := f3 b hb
      exact ⟨fe, f1, f4, f5⟩
  have loop : codeAny (model X.prog X.w) X.A (.compLoop (.ListComp elt [⟨tg, iter, ifs, 0⟩] scope pos) 0 (.ref it) (.ref D) (compEnvC scope cl s3.heap.objs.size X.env))
      (compPost (model X.prog X.w) X.A X.xe (some fun v => assignAll v ((assignEach [.Name x pos'] X.env).map (·.2))) (fun _ s' => wpAny (model X.prog X.w) X.A (pure PUnit.unit) (fun _ s' => wpAny (model X.prog X.w) X.A (pure Flow.next) (SP X pins D0) X.xe s') X.xe s') (.ref D) s3.heap.objs.size) { s3 with heap := h₁, toks := s3.toks + ([] : List (Str × Value)).length } := by
    refine comp_loop (fun n s' => ∃ i ys σ' H', Inv (cxC X scope N' cl s3.heap.objs.size s3 H3 fp (X.pn ++ pins)) [] σ' H' s' ∧ tn i s'.heap ∧ (∀ b ∈ fp, H' b = none) ∧ W i n ys σ' H') ?_ m0 ⟨0, [], capSt src σ, H3, I4, T.keep _ _ _ st3 fun b _ o e => keep4 b o e, fun b hb => (f3 b hb).1, w0⟩
    rintro n s5 ⟨i, ys, σ5, H5, I5, st5, fr5, w5⟩
    obtain ⟨hDs, stop | go⟩ := turn i n ys σ5 H5 w5
    · obtain ⟨stop, qn⟩ := stop
      refine thn (T.done (cxC X scope N' cl s3.heap.objs.size s3 H3 fp (X.pn ++ pins)) rfl rfl rfl hc i [] s5 σ5 H5 _ I5 (stat fr5) st5 stop) fun r s6 ⟨hr, I6⟩ => ?_
      subst hr
      obtain ⟨m, hn, _⟩ := id I6.loc
      have IO : Inv X pins σ H5 s6 := fin I6 s6.heap (Heap.SameBut.refl _ _)
      have hCn : H5 s3.heap.objs.size = none := I6.free
      have hC : ∀ {H' : Hp}, H' s3.heap.objs.size = none → FpOk X pins H' s3.heap.objs.size := fun {H'} z => I3'.fpOk (Nat.le_refl _) z
      obtain ⟨oC, es, ep, hoC, rC⟩ := hn
      have IP := IO.pinned (fp := [s3.heap.objs.size]) (fun b hb => by rw [List.mem_singleton.mp hb]; exact hC hCn) (fun b hb => by rw [List.mem_singleton.mp hb]; exact ⟨oC, hoC, fun v z => by (rw [rC.1] at z; cases z)⟩)
      show wpAny _ _ (assign (.Name x pos') X.env (.ref D)) _ _ _
      refine thn (pg_name hN hix hlx hf _ s6 σ H5 (.ref D) (.ref D) _ IP rfl qn) fun _ s7 ⟨σ7, H7, I7, q7⟩ => ?_
      obtain ⟨g1, g2, _⟩ := I7.pin (s3.heap.objs.size, oC) (List.mem_append_right _ (List.mem_append_right _ (mem_pinsAt (List.mem_singleton.mpr rfl) hoC)))
      refine ⟨m, ⟨oC, es, ep, g1, rC⟩, fun h' sb => wpAny_pure (wpAny_pure ⟨σ7, H7, ?_, q7⟩)⟩
      exact I7.unpinned.turnedL (t' := s7.toks) (ch := [s3.heap.objs.size]) (fun b o hb e => sb.extBut b o (fun z => hb (by rw [z]; exact List.mem_singleton.mpr rfl)) e) (fun b hb => by rw [List.mem_singleton.mp hb]; exact hC g2)
    · obtain ⟨go, N, hN, step⟩ := go
      refine thn (T.item (cxC X scope N' cl s3.heap.objs.size s3 H3 fp (X.pn ++ pins)) rfl rfl rfl hc i [] s5 σ5 H5 _ I5 (stat fr5) st5 go) fun r s6 ⟨u, hr, h6⟩ => ?_
      subst hr
      refine thn h6 fun _ s7 ⟨x, H7, I7, r7, y7, st7, fr7⟩ => ?_
      have I7' := I7.pinned (stat fr7) (T.obj _ _ st7)
      have again : ∀ {s8 : Shared} {σ8 : St} {H8 : Hp} {ys' : List V}, Inv (cxC X scope N' cl s3.heap.objs.size s3 H3 fp (X.pn ++ pins)) ([] ++ pinsAt fp s7.heap) σ8 H8 s8 → (∃ m', m' < n ∧ W (i + 1) m' ys' σ8 H8) →
          ∃ m, m < n ∧ ∃ i ys σ' H', Inv (cxC X scope N' cl s3.heap.objs.size s3 H3 fp (X.pn ++ pins)) [] σ' H' s8 ∧ tn i s8.heap ∧ (∀ b ∈ fp, H' b = none) ∧ W i m ys σ' H' := fun {s8 σ8 H8 ys'} I8 ⟨m', hm, w8⟩ => by
        refine ⟨m', hm, i + 1, ys', σ8, H8, I8.unpinned, T.keep _ _ _ st7 fun b hb o e => (I8.pin (b, o) (List.mem_append_right _ (List.mem_append_right _ (mem_pinsAt hb e)))).1, fun b hb => ?_, w8⟩
        obtain ⟨o, e, d⟩ := T.obj _ _ st7 b hb
        exact (I8.pin (b, o) (List.mem_append_right _ (List.mem_append_right _ (mem_pinsAt hb e)))).2.1
      refine thn (hg cl _ s3 H3 fp _ _ s7 σ5 H7 x u _ I7' r7 (step x H7 y7)) fun _ s8 ⟨σ8, H8, I8, q8⟩ => ?_
      refine thn (ht cl _ s3 H3 fp _ _ s8 σ8 H8 _ I8 q8) fun ok s9 ⟨H9, I9, q9⟩ => ?_
      cases ok with
      | false => exact again I9 (hN _ _ _ q9)
      | true =>
        rw [if_pos rfl]
        refine thn (he cl _ s3 H3 fp _ _ s9 σ8 H9 _ I9 q9) fun y s10 ⟨yv, H10, I10, r10, q10⟩ => ?_
        obtain ⟨hDy, hlen, w10⟩ := q10
        refine thn (mt_append (X := cxC X scope N' cl s3.heap.objs.size s3 H3 fp (X.pn ++ pins)) _ s10 σ8 H10 (.ref D) [yv] (.ref D) [y] (fun _ H' => H' = upd H10 D (.lst (ys ++ [yv]))) I10 rfl (.cons r10 .nil) ⟨D, ys, yv, rfl, rfl, hDy, hlen, rfl⟩) fun _ s11 ⟨_, H11, I11, _, e11⟩ => ?_
        subst e11
        exact again I11 (hN _ _ _ w10)
  exact codeAny_compStart_list loop (T.self _ 0 _ _ _ (T.keep _ _ _ st3 fun b _ o e => keep4 b o e) loop)
end
end L2
namespace L2
open PySem PySem.Spec PyProof.Rows
/-! ### an exception of the program's own: it flies over B, which is all that stays behind it but the frames -/
structure Fly (P : Program) (w : World) (l : List Env) (H : Hp) (h : Heap) (e : Addr) (cls : Value) (H' : Hp) (h' B : Heap) : Prop where
  fl : ∃ a0, Heap.FlyingW B l e cls a0 h'
  hok : HOk P w H' B
  keep : ∀ b o, h.get? b = some o → H b = none → b ∉ frs l → B.get? b = some o
  slot : ∀ b o, h.get? b = some o → H b = none → b ∈ frs l → ∃ sl, h'.get? b = some { o with slots := sl }
  al : ∀ b o, h.get? b = some o → b ∉ frs l → ∃ o', B.get? b = some o'
  free : ∀ b o, h.get? b = some o → H b = none → H' b = none
  tups : ∀ b xs, H b = some (.tup xs) → H' b = some (.tup xs)
  frzs : ∀ b o u, H b = some (.frz o u) → H' b = some (.frz o u)
  tbls : ∀ b ps, H b = some (.tbl ps) → ∃ more, H' b = some (.tbl (ps ++ more))
section
variable {P : Program} {w : World} {l : List Env} {H H' : Hp} {h h' h'' B : Heap} {e : Addr} {cls : Value}
end
section
variable {X : Cx} {pins : List (Addr × Obj)} {σ : St} {H H' : Hp} {s s' : Shared} {h' B : Heap} {e : Addr} {cls : Value} {M : Model} {A : Around} {Q : Unit → Shared → Prop} {EE : Value → Shared → Prop}
end
/-- how an exception lies behind a call -/
def CXF (P : Program) (w : World) : CXT := fun l H s E e s' => ∃ (a : Addr) (cls : Value) (H' : Hp) (B : Heap), e = .ref a ∧ s'.os = s.os ∧ AllBare s'.gens ∧ Fly P w l H s.heap a cls H' s'.heap B ∧ E cls none H'
/-- a body from which exceptions may go -/
abbrev Gx.cxX (g : Gx) (N : List Str) (qual : Str) (st : Stmt) (f : Addr) (cdv : Value) (A : Around) (outer : List Env) (s : Shared) (H : Hp) (E : XK) : Cx := cxOf (CXF g.P g.w) g.P g.w g.K g.mg g.base N qual (defScope st) f cdv A outer s H E
section
variable {g : Gx} {N : List Str} {qual : Str} {st : Stmt} {f : Addr} {cdv : Value} {A : Around} {outer : List Env} {s : Shared} {H : Hp} {E : XK}
/-- what a raise asks -/
def Raises (X : Cx) (E : XK) : Prop := ∀ (pins : List (Addr × Obj)) (σ : St) (H : Hp) (s : Shared) (h' : Heap) (e : Addr) (cls : Value) (vs : List Value), Inv X pins σ H s → Heap.MadeExcOf s.heap h' e cls vs → E cls none H → X.xe (.ref e) { s with heap := h' }
end
def Gx.FnX (g : Gx) (k : Nat) (x : Str) (ps : List Str) (sp : Sp) : Prop := ∃ f fd, FnOk g.P g.w g.K g.mg g.base (CXF g.P g.w) k f fd ps sp ∧ Binds g.K fd ps [] ∧ PySem.W.keepIn g.K (.ref f) = true ∧ g.mg x = some (.ref f)
def BodyX (g : Gx) (k : Nat) (N : List Str) (qual : Str) (st : Stmt) (sp : Sp) : Prop := ∀ (f : Addr) (cdv : Value) (A : Around) (outer : List Env) (s : Shared) (H : Hp) (vs : List V) (Q : VK) (E : XK), Room k (g.cxX N qual st f cdv A outer s H E).A → sp vs H Q E →
  ∃ t, PSs (g.cxX N qual st f cdv A outer s H E) (defBody st) t ∧ t { nx := fun _ H' => Q .non H', rt := Q } (start N vs) H
section
variable {g : Gx} {k : Nat} {x qual m : Str} {st : Stmt} {N ps : List Str} {sp : Sp} {C : Addr}
end
section
variable {g : Gx} {X : Cx} {k j : Nat} {x : Str} {ps : List Str} {sp : Sp} {E : XK} {e : Expr} {es : List Expr} {t : TA} {p pos cpos np : Pos}
/-- the built-in line that our classes stand in -/
abbrev veLine : List Value := [.type "ValueError", .type "Exception", .type "BaseException", .type "object"]
/-- an exception class of the text, without an __init__ of its own -/
structure Gx.Exc (g : Gx) (x : Str) (C : Addr) : Prop where
  bound : g.mg x = some (.ref C)
  own : PySem.W.excIn g.K C veLine "ValueError.__new__" = true
def tRaise (C : Addr) (E : XK) (t : TA) : TS := fun _ σ H => t σ H fun vs H1 => vs.length ≤ sizeLine ∧ E (.ref C) none H1
end
/-! ### try: x = f(..) except C: suite -/
abbrev Cx.caught (X : Cx) (e : Addr) : Cx := { X with A := X.A.mark (some (.ref e)), calm := false, xe := fun _ _ => False }
section
variable {X : Cx} {pins : List (Addr × Obj)} {σ : St} {H H' H1 : Hp} {s s1 s' : Shared} {e : Value} {D : Ends} {ts : TS} {b₀ : Stmt} {suite : List Stmt} {c : Str} {cv : Value} {cp hpos : Pos}
end
def tTry (K : PySem.W.Frag) (cv : Value) (sp : Sp) (t : TA) (i : Nat) (ts : TS) : TS := fun D σ H => t σ H fun vs H1 => sp (vs ++ []) H1 (fun v H2 => D.nx (σ.set i (some v)) H2) (fun cls _ H2 => PySem.W.exmOne K cls cv = some true ∧ ts D σ H2)
section
variable {g : Gx} {X : Cx} {k j i : Nat} {x f c : Str} {ps : List Str} {sp : Sp} {e : Expr} {es : List Expr} {t : TA} {ts : TS} {b₀ : Stmt} {suite : List Stmt} {cv : Value} {fp px cp hpos apos cpos pos : Pos}
end
end L2
namespace L2
open PySem PySem.Spec PyProof.Rows
/-! ### enumerate, over a tuple, or from a number on -/
def Ite' (k : Nat) (G : Hp → List V → Prop) : It :=
  ⟨fun i H => ∃ xs x, G H xs ∧ xs[i]? = some x, fun i H v H' => ∃ T, v = .ref T ∧ H T = none ∧ ∀ xs x, G H xs → xs[i]? = some x → H' = upd H T (.tup [.int ((i + k : Nat) : Int), x]), fun i H => ∃ xs, G H xs ∧ xs.length = i⟩
section
variable {prog : Program} {w : World} {A : Around} {E : Value → Shared → Prop} {s : Shared}
open AutoSeq1 (wpAny_loadPart') in
end
section
variable {X : Cx} {elts : List Expr} {kk : Nat} {tpos : Pos}
def iEnumT (K : PySem.W.Frag) (ta : TA) : TI := fun σ H R => ta σ H fun vs H1 => ∃ a xs, vs = [.ref a] ∧ SqT K H1 a xs ∧ R (Ite' 0 fun H xs => SqT K H a xs) H1
end
/-! ### loops over it -/
section
variable {g : TG} {tb : TS} {D : Ends} {σ : St} {H : Hp}
end
end L2
namespace L2
open PySem PySem.Spec PyProof.Rows
/-! ### enumerate(xs, start=1) -/
section
variable {prog : Program} {w : World} {A : Around} {E : Value → Shared → Prop} {s : Shared}
open AutoSeq1 (wpAny_loadPart') in
end
end L2
namespace L2
open PySem PySem.Spec PyProof.Rows
section
variable {X : Cx} {elts : List Expr} {kk : Nat} {tpos : Pos}
def iEnum1 (K : PySem.W.Frag) (ta : TA) : TI := fun σ H R => ta σ H fun vs H1 => ∃ a xs, vs = [.ref a] ∧ SqL K H1 a xs ∧ R (Ite' 1 fun H xs => SqL K H a xs) H1
end
section
variable {g : TG} {tb : TS} {D : Ends} {σ : St} {H : Hp}
end
/-! ### range(a, b, c), c above 0 -/
section
variable {X : Cx} {tg : Expr}
/-- lo, lo + c, .., n of them -/
def Itu (lo c : Int) (n : Nat) : It := ⟨fun i _ => i < n, fun i H v H' => v = .int (lo + i * c) ∧ H' = H, fun i _ => n ≤ i⟩
def iRngU (ta : TA) : TI := fun σ H R => ta σ H fun vs H1 => ∃ i j c : Int, vs = [.int i, .int j, .int c] ∧ (-(2 ^ 60) ≤ i ∧ i < 2 ^ 60 ∧ -(2 ^ 60) ≤ j ∧ j < 2 ^ 60 ∧ 0 < c ∧ c < 2 ^ 29) ∧ R (Itu i c (Builtin.Range.rangeSize i j c).toNat) H1
end
end L2
namespace L2
open PySem PySem.Spec PyProof.Rows
/-! ### an exception that was caught by a name: a thing of the heap -/
def ExcO (a : Addr) (cls : Value) : HO := .ext fun h => ∃ o vs, h.get? a = some o ∧ o.cls = cls ∧ o.data = .fields vs
section
variable {P : Program} {w : World} {l : List Env} {H H' : Hp} {h h' h'' B : Heap} {a e : Addr} {cls : Value} {o : HO}
end
section
variable {X : Cx} {pins : List (Addr × Obj)} {σ : St} {H H' H1 : Hp} {s s1 s' : Shared}
end
/-- behind an except clause by a name: the name stands for nothing -/
def Ends.gone (D : Ends) (j : Nat) : Ends := { nx := fun σ H => D.nx (σ.set j none) H, rt := D.rt, bk := fun σ H => D.bk (σ.set j none) H, ct := fun σ H => D.ct (σ.set j none) H }
section
variable {X : Cx} {pins : List (Addr × Obj)} {σ : St} {H H' H1 : Hp} {s s1 s' : Shared} {e : Value} {D : Ends} {ts : TS} {b₀ : Stmt} {suite : List Stmt} {c n : Str} {cv : Value} {cp hpos : Pos} {j : Nat}
end
end L2
namespace L2
open PySem PySem.Spec PyProof.Rows
/-! ### try by a name; a def that is called within an except suite -/
def tTryAs (K : PySem.W.Frag) (cv : Value) (sp : Sp) (t : TA) (i j : Nat) (ts : TS) : TS := fun D σ H => t σ H fun vs H1 => sp (vs ++ []) H1 (fun v H2 => D.nx (σ.set i (some v)) H2) (fun cls _ H2 => PySem.W.exmOne K cls cv = some true ∧ ∀ a, H2 a = none → ts (D.gone j) (σ.set j (some (.ref a))) (upd H2 a (ExcO a cls)))
section
variable {g : Gx} {X : Cx} {k jj i j : Nat} {x f c n : Str} {ps : List Str} {sp : Sp} {e : Expr} {es : List Expr} {t : TA} {ts : TS} {b₀ : Stmt} {suite : List Stmt} {cv : Value} {fp px cp hpos apos cpos pos : Pos}
end
/-- room, whatever is handled -/
structure RoomM (k : Nat) (A : Around) : Prop where
  dp : A.depth + 3 * k + 5 < recursionLimit
  un : A.units + 16 * k + 200 < cLine
structure FnOkM (P : Program) (w : World) (K : PySem.W.Frag) (mg : Str → Option Value) (base : Heap) (k : Nat) (f : Addr) (fd : FuncData) (ps : List Str) (sp : Sp) : Prop where
  len : ∀ vs H Q E, sp vs H Q E → vs.length = ps.length
  run : ∀ (A : Around) (outer : List Env) (s : Shared) (H : Hp) (args : Args) (us : List Value) (vs : List V) (Q : VK) (E : XK), RoomM k A → Env0 P w K mg base A outer s H → BindsTo s fd args (ps.zip us) → Vals vs us → sp vs H Q E →
    codeAny (model P w) A (.call (.ref f) args) (CR CX0 outer P w H s Q E) s
def Gx.FnM (g : Gx) (k : Nat) (x : Str) (ps : List Str) (sp : Sp) : Prop := ∃ f fd, FnOkM g.P g.w g.K g.mg g.base k f fd ps sp ∧ Binds g.K fd ps [] ∧ PySem.W.keepIn g.K (.ref f) = true ∧ g.mg x = some (.ref f)
abbrev Gx.cxM (g : Gx) (N : List Str) (qual : Str) (st : Stmt) (f : Addr) (cdv : Value) (A : Around) (outer : List Env) (s : Shared) (H : Hp) (E : XK) : Cx := { cxOf CX0 g.P g.w g.K g.mg g.base N qual (defScope st) f cdv A outer s H E with calm := false, xe := fun _ _ => False }
def BodyM (g : Gx) (k : Nat) (N : List Str) (qual : Str) (st : Stmt) (sp : Sp) : Prop := ∀ (f : Addr) (cdv : Value) (A : Around) (outer : List Env) (s : Shared) (H : Hp) (vs : List V) (Q : VK) (E : XK), RoomM k (g.cxM N qual st f cdv A outer s H E).A → sp vs H Q E →
  ∃ t, PSs (g.cxM N qual st f cdv A outer s H E) (defBody st) t ∧ t { nx := fun _ H' => Q .non H', rt := Q } (start N vs) H
section
variable {g : Gx} {k : Nat} {x qual : Str} {st : Stmt} {N ps : List Str} {sp : Sp}
end
section
variable {g : Gx} {X : Cx} {k j : Nat} {x : Str} {ps : List Str} {sp : Sp} {e : Expr} {es : List Expr} {t : TA} {p pos : Pos}
end
end L2
namespace PySem.W
open PySem PySem.Calls PyProof.Rows Builtin Builtin.ObjectAttr Builtin.Getset_descriptor
section
variable {prog : Program} {w : World} {A : Around} {E : Value → Shared → Prop} {K : Frag} {x C : Addr} {ox : Obj} {hh : Heap} {g : Array GenState} {d : Drawn} {t : Nat} {os : OsState}
end
end PySem.W
namespace L2
open PySem PySem.Spec PyProof.Rows
/-- what the text's exception class has from its line -/
structure ExcT (K : PySem.W.Frag) (C : Addr) : Prop where
  hd : PySem.W.hasDictIn K C = true
  hm : PySem.W.mroIn K C (.type "object") = some true
  hb : PySem.W.mroIn K C (.type "BaseException") = some true
  ha : PySem.W.findIn K (.ref C) "__class__" = some (some (.builtin "object.__class__"))
  hga : PySem.W.findIn K (.ref C) "__getattribute__" = some (some (.builtin "BaseException.__getattribute__"))
  hgt : PySem.W.findIn K (.ref C) "__getattr__" = some none
section
variable {X : Cx}
end
theorem caught_K {X : Cx} {a : Addr} : (X.caught a).K = X.K := rfl
end L2
namespace L2
open PySem PySem.Spec PyProof.Rows
end L2
namespace L2
open PySem PySem.Spec PyProof.Rows
section
variable {src : List (Option Nat)} {te : TE} {σ : St} {H : Hp} {Q : VK}
end
end L2
namespace L2
open PySem PySem.Spec PyProof.Rows
section
variable {X : Cx}
end
end L2
namespace L2
open PySem PySem.Spec PyProof.Rows
section
variable {src : List (Option Nat)} {te : TE} {σ : St} {H : Hp} {Q : VK}
end
end L2
namespace L2
open PySem PySem.Spec PyProof.Rows
/-! the script itself as a list that + may read -/
def SqX (K : PySem.W.Frag) (H : Hp) (a : Addr) (xs : List V) : Prop := Rd H a (.lst xs) ∨ ∃ (its : Array Value) (n : Nat), K.lookup a = some { cls := .type "list", data := .seq its n } ∧ its.size ≤ sizeLine ∧ Vals xs its.toList
section
variable {X : Cx}
def rCatX (K : PySem.W.Frag) : R2 := fun x y H Q => ∃ l b xs zs, x = .ref l ∧ y = .ref b ∧ SqX K H l xs ∧ SqX K H b zs ∧ xs.length + zs.length ≤ sizeLine ∧ ∀ p, H p = none → Q (.ref p) (upd H p (.lst (xs ++ zs)))
end
def spTrueX (K : PySem.W.Frag) : Sp := fun vs H Q _ => ∃ (a : Addr) (ns : List Int), vs = [.ref a] ∧ SqX K H a (ns.map V.int) ∧ ns.length ≤ 63 ∧ ∀ H', Q (.bl true) H'
end L2
namespace L2
open PySem PySem.Spec PyProof.Rows
/-! defs as values: a def's name as an argument, a call of what a name of one's own holds -/
def Gx.FnV (g : Gx) (k : Nat) (f : Addr) (ps : List Str) (sp : Sp) : Prop := ∃ fd, FnOk g.P g.w g.K g.mg g.base CX0 k f fd ps sp ∧ Binds g.K fd ps [] ∧ PySem.W.keepIn g.K (.ref f) = true
def tFn (g : Gx) (k : Nat) (ps : List Str) (sp : Sp) : TE := fun _ H Q => ∀ f, g.FnV k f ps sp → Q (.ref f) H
def tCallV (g : Gx) (k i : Nat) (t : TA) : TE := fun σ H Q => ∃ f ps sp, σ[i]? = some (some (.ref f)) ∧ g.FnV k f ps sp ∧ t σ H fun vs H1 => sp vs H1 Q E0
section
variable {X : Cx} {g : Gx} {k j i : Nat} {x : Str} {ps : List Str} {sp : Sp} {p pos : Pos} {e : Expr} {es : List Expr} {t : TA}
end
/-! the arguments of a call, one by one: for tuples and lists, said once (by rfl at the place it costs minutes) -/
theorem star_lst (es : List Expr) (p : Pos) (es' : List Expr) (env : Env) : starEach (.List es p :: es') env = (false, eval (.List es p) env) :: starEach es' env := rfl
end L2
namespace L2
open PySem PySem.Spec PyProof.Rows
/-! isinstance(x, (T, U)); comprehensions over the pairs of two lists, two tuples, either -/
section
variable {X : Cx} {pins : List (Addr × Obj)} {σ : St} {H : Hp} {s : Shared} {A : Around} {E Q : Value → Shared → Prop}
end
section
variable {X : Cx}
end
section
variable {src : List (Option Nat)} {te : TE} {σ : St} {Q : VK}
variable {X : Cx} {H : Hp}
/-- f() -/
theorem pe_fn0 {g : Gx} {j k : Nat} {x : Str} {ps : List Str} {sp : Sp} {p pos : Pos} (F : g.Fn j x ps sp) (hr : Room k X.A) (hj : j ≤ k := by omega) (hX : X.gx = g := by rfl) (hg : Gl X x := by rfl) (hdb : (x == ("__debug__" : Str)) = false := by decide) : PE X (.Call (.Name x p) [] [] pos) (tCall sp [] E0 tNil) := by
  subst hX
  obtain ⟨f, fd, F, b, kp, hm⟩ := F
  exact pe_call0 F (hr.mono hj) hg hm kp b .nil pass0 hdb
/-- an iteration over either of two kinds -/
def iOr (a b : TI) : TI := fun σ H R => a σ H R ∨ b σ H R
theorem pi_or {tg : Expr} {l : Expr} {a b : TI} (ha : PI X tg l a) (hb : PI X tg l b) : PI X tg l (iOr a b) := by
  intro pins s σ H R I h
  rcases h with h | h
  · exact ha pins s σ H R I h
  · exact hb pins s σ H R I h
end
end L2
namespace L2
open PySem PySem.Spec PyProof.Rows
/-! ### < of data: ints and tuples of them, to any depth -/
mutual
/-- d < e, of which this is the answer -/
inductive LtR : PyData → PyData → Bool → Prop
  | int (i j : Int) : LtR (.int i) (.int j) (decide (i < j))
  | tup {ds es : List PyData} {b : Bool} : LtA ds es b → LtR (.tuple ds) (.tuple es) b
inductive LtA : List PyData → List PyData → Bool → Prop
  | nn : LtA [] [] false
  | nc {e : PyData} {es : List PyData} : LtA [] (e :: es) true
  | cn {d : PyData} {ds : List PyData} : LtA (d :: ds) [] false
  | eq {d e : PyData} {ds es : List PyData} {b : Bool} : PyData.eqv d e = true → LtA ds es b → LtA (d :: ds) (e :: es) b
  | ne {d e : PyData} {ds es : List PyData} {b : Bool} : PyData.eqv d e = false → LtR d e b → LtA (d :: ds) (e :: es) b
end
def LtAt (A : Around) (s : Shared) (u v : Value) (b : Bool) : Prop := ∀ (prog : Program) (w : World) (E : Value → Shared → Prop) (Q : Value → Shared → Prop), Q (.bool b) s → wpAny (model prog w) A (richCompare .Lt u v) Q E s
section
open PySem.SeqAt
open PySem.AutoSeq1 (wpAny_loadPart')
open PySem.MeetsSeq PySem.MeetsSeq2 PySem.MeetsSeq3
/-- pairs of items: equal by the data, or comparable -/
inductive Two (A : Around) (s : Shared) : List Value → List Value → Bool → Prop
  | nn : Two A s [] [] false
  | nc {v : Value} {vs : List Value} : Two A s [] (v :: vs) true
  | cn {v : Value} {vs : List Value} : Two A s (v :: vs) [] false
  | eq {u v : Value} {us vs : List Value} {b : Bool} : EqAt A s u v true → Two A s us vs b → Two A s (u :: us) (v :: vs) b
  | ne {u v : Value} {us vs : List Value} {b : Bool} : EqAt A s u v false → LtAt A s u v b → Two A s (u :: us) (v :: vs) b
variable {X : Cx}
end
end L2
namespace L2
open PySem PySem.Spec PyProof.Rows
/-! ### <= of data: ints and tuples of them, to any depth -/
mutual
/-- d <= e, of which this is the answer -/
inductive LeR : PyData → PyData → Bool → Prop
  | int (i j : Int) : LeR (.int i) (.int j) (decide (i ≤ j))
  | tup {ds es : List PyData} {b : Bool} : LeA ds es b → LeR (.tuple ds) (.tuple es) b
inductive LeA : List PyData → List PyData → Bool → Prop
  | nn : LeA [] [] true
  | nc {e : PyData} {es : List PyData} : LeA [] (e :: es) true
  | cn {d : PyData} {ds : List PyData} : LeA (d :: ds) [] false
  | eq {d e : PyData} {ds es : List PyData} {b : Bool} : PyData.eqv d e = true → LeA ds es b → LeA (d :: ds) (e :: es) b
  | ne {d e : PyData} {ds es : List PyData} {b : Bool} : PyData.eqv d e = false → LeR d e b → LeA (d :: ds) (e :: es) b
end
def LeAt (A : Around) (s : Shared) (u v : Value) (b : Bool) : Prop := ∀ (prog : Program) (w : World) (E : Value → Shared → Prop) (Q : Value → Shared → Prop), Q (.bool b) s → wpAny (model prog w) A (richCompare .LtE u v) Q E s
section
open PySem.SeqAt
open PySem.AutoSeq1 (wpAny_loadPart')
open PySem.MeetsSeq PySem.MeetsSeq2 PySem.MeetsSeq3
/-- pairs of items: equal by the data, or comparable -/
inductive TwoE (A : Around) (s : Shared) : List Value → List Value → Bool → Prop
  | nn : TwoE A s [] [] true
  | nc {v : Value} {vs : List Value} : TwoE A s [] (v :: vs) true
  | cn {v : Value} {vs : List Value} : TwoE A s (v :: vs) [] false
  | eq {u v : Value} {us vs : List Value} {b : Bool} : EqAt A s u v true → TwoE A s us vs b → TwoE A s (u :: us) (v :: vs) b
  | ne {u v : Value} {us vs : List Value} {b : Bool} : EqAt A s u v false → LeAt A s u v b → TwoE A s (u :: us) (v :: vs) b
variable {X : Cx}
variable {K : PySem.W.Frag}
end
end L2
namespace L2
open PySem
/-! keys: ints and tuples of keys; their order -/
mutual
inductive KD : PyData → Prop
  | int (i : Int) : KD (.int i)
  | tup {ds : List PyData} : KDs ds → KD (.tuple ds)
inductive KDs : List PyData → Prop
  | nil : KDs []
  | cons {d : PyData} {ds : List PyData} : KD d → KDs ds → KDs (d :: ds)
end
mutual
/-- the order of keys, ints ahead of tuples -/
inductive KLt : PyData → PyData → Prop
  | int {i j : Int} : i < j → KLt (.int i) (.int j)
  | mix {i : Int} {ds : List PyData} : KLt (.int i) (.tuple ds)
  | tup {ds es : List PyData} : KLs ds es → KLt (.tuple ds) (.tuple es)
inductive KLs : List PyData → List PyData → Prop
  | nil {e : PyData} {es : List PyData} : KLs [] (e :: es)
  | here {d e : PyData} {ds es : List PyData} : KLt d e → KLs (d :: ds) (e :: es)
  | there {d : PyData} {ds es : List PyData} : KLs ds es → KLs (d :: ds) (d :: es)
end
/-! where < answers, it answers by the order -/
/-! two keys that < can be asked of: of one make where they first differ -/
mutual
inductive Sim : PyData → PyData → Prop
  | int (i j : Int) : Sim (.int i) (.int j)
  | tup {ds es : List PyData} : Sims ds es → Sim (.tuple ds) (.tuple es)
inductive Sims : List PyData → List PyData → Prop
  | nil {es : List PyData} : Sims [] es
  | end_ {ds : List PyData} : Sims ds []
  | cons {d e : PyData} {ds es : List PyData} : Sim d e → (d = e → Sims ds es) → Sims (d :: ds) (e :: es)
end
end L2
namespace L2
open PySem
section
variable {src : List (Option Nat)} {te : TE} {σ : St} {H : Hp} {Q : VK}
/-- a comprehension whose things keep a promise each, apart from its own list -/
theorem lc_relD {J : It} {P : Hp → Prop} {xs : List V} (hJ : ItSeq J P xs) {H1 : Hp} {D : Addr} (Rl : Nat → V → Hp → Prop) (st : ∀ i y H H', Rl i y H → Same H H' → Rl i y H') (su : ∀ i y H zs zs', Rl i y H → H D = some (.lst zs) → Rl i y (upd H D (.lst zs')))
    (hP : ∀ H', Same H1 H' → P H') (hD : H1 D = none) (hlen : xs.length ≤ 100000)
    (step : ∀ (i : Nat) x H' zs, xs[i]? = some x → Same H1 H' → H' D = some (.lst zs) → ∀ R : VK, (∀ y H'', Same H' H'' → Rl i y H'' → R y H'') → te (some x :: capSt src σ) H' R)
    (fin : ∀ (ys : List V) H', Same H1 H' → H' D = some (.lst ys) → ys.length = xs.length → (∀ (j : Nat) y, ys[j]? = some y → Rl j y H') → Q (.ref D) H') : LC (none :: src) J (gName 0) tYes te σ H1 Q D := by
  have h6 : 100000 < sizeLine := by decide
  refine lc_on hJ (fun i zs σ' H' => zs.length = i ∧ (∃ o, σ' = o :: capSt src σ) ∧ Same H1 H' ∧ H' D = some (.lst zs) ∧ ∀ (j : Nat) y, zs[j]? = some y → Rl j y H')
    ⟨rfl, ⟨none, rfl⟩, .upd_new hD _, upd_same, fun j y h => by simp at h⟩ (fun i zs σ' H' ⟨_, _, p1, p2, _⟩ => ⟨hP _ p1, p2⟩) (gName_mono 0) ?_ ?_
  · rintro i zs σ' H' x hx ⟨hi', ⟨o, rfl⟩, sm, hd, hts⟩
    have hi := (List.getElem?_eq_some_iff.mp hx).1
    show te (some x :: capSt src σ) H' _
    refine step i x H' zs hx sm hd _ fun y H'' s2 hy => ⟨s2 _ _ hd, by omega, by simp [hi'], ⟨_, rfl⟩, .upd_over hD (sm.trans s2) _, upd_same, fun j z hj => su _ _ _ _ _ ?_ (s2 _ _ hd)⟩
    rcases Nat.lt_trichotomy j zs.length with h1 | h1 | h1
    · rw [List.getElem?_append_left h1] at hj
      exact st _ _ _ _ (hts j z hj) s2
    · have hb : y = z := by subst h1; simpa using hj
      subst hb
      rw [h1, hi']
      exact hy
    · rw [List.getElem?_eq_none (by rw [List.length_append, List.length_singleton]; omega)] at hj; cases hj
  · rintro zs σ' H' ⟨hn, _, sm, hd, hts⟩
    exact fin zs H' sm hd hn hts
theorem tLC_relD {K : PySem.W.Frag} {tl : TE} {xs : List V} {b : Addr} (Rl : Addr → Nat → V → Hp → Prop) (st : ∀ D i y H H', Rl D i y H → Same H H' → Rl D i y H') (su : ∀ D i y H zs zs', Rl D i y H → H D = some (.lst zs) → Rl D i y (upd H D (.lst zs')))
    (ha : ∀ R : V → Hp → Prop, R (.ref b) H → tl σ H R) (hS : SqL K H b xs) (hlen : xs.length ≤ 100000)
    (step : ∀ D (i : Nat) x H' zs, xs[i]? = some x → Same H H' → H' D = some (.lst zs) → ∀ R : VK, (∀ y H'', Same H' H'' → Rl D i y H'' → R y H'') → te (some x :: capSt src σ) H' R)
    (fin : ∀ D (ys : List V) H', H D = none → Same H H' → H' D = some (.lst ys) → ys.length = xs.length → (∀ (j : Nat) y, ys[j]? = some y → Rl D j y H') → Q (.ref D) H') : tLC (none :: src) (iList K tl) (gName 0) tYes te σ H Q :=
  ha _ ⟨b, rfl, ⟨xs, hS⟩, fun D hD => lc_relD (itseq_list.imp fun H' (e : Same H H') => e.seq hS) (Rl D) (st D) (su D) (fun _ e => e) hD hlen (fun i x H' zs hx sm hd R r => step D i x H' zs hx sm hd R r) fun ys H' sm => fin D ys H' hD sm⟩
end
end L2
namespace L2
open PySem
/-! values with the lists that stand in them, in their order -/
mutual
inductive VL (H : Hp) : V → PyData → List Addr → Prop
  | int (i : Int) : VL H (.int i) (.int i) []
  | str (x : Str) (h : PyData.strOk x = true) : VL H (.str x) (.str x) []
  | lst {a : Addr} {vs : List V} {ds : List PyData} {L : List Addr} : H a = some (.lst vs) → vs.length ≤ 10000 → VLs H vs ds L → VL H (.ref a) (.list ds) (a :: L)
  | tup {a : Addr} {vs : List V} {ds : List PyData} {L : List Addr} : H a = some (.tup vs) → vs.length ≤ 10000 → VLs H vs ds L → VL H (.ref a) (.tuple ds) L
inductive VLs (H : Hp) : List V → List PyData → List Addr → Prop
  | nil : VLs H [] [] []
  | cons {v : V} {d : PyData} {L : List Addr} {vs : List V} {ds : List PyData} {L' : List Addr} : VL H v d L → VLs H vs ds L' → VLs H (v :: vs) (d :: ds) (L ++ L')
end
/-- tuples stay -/
def Tps (H H' : Hp) : Prop := ∀ a vs, H a = some (.tup vs) → H' a = some (.tup vs)
theorem Same.tps {H H' : Hp} (s : Same H H') : Tps H H' := fun a vs h => s a _ h
theorem Tps.upd_lst {H : Hp} {p : Addr} {xs ys : List V} (h : H p = some (.lst xs)) : Tps H (upd H p (.lst ys)) := fun a vs ha => by
  rw [upd_ne (ne_of ha h (by intro z; cases z))]; exact ha
mutual
theorem VL.keepL {H H' : Hp} (t : Tps H H') : ∀ {v : V} {d : PyData} {L : List Addr}, VL H v d L → (∀ a ∈ L, ∀ vs, H a = some (.lst vs) → H' a = some (.lst vs)) → VL H' v d L
  | _, _, _, .int i, _ => .int i
  | _, _, _, .str x h, _ => .str x h
  | _, _, _, .lst h hn hs, e => .lst (e _ (.head _) _ h) hn (hs.keepL t fun a ha => e a (.tail _ ha))
  | _, _, _, .tup h hn hs, e => .tup (t _ _ h) hn (hs.keepL t e)
theorem VLs.keepL {H H' : Hp} (t : Tps H H') : ∀ {vs : List V} {ds : List PyData} {L : List Addr}, VLs H vs ds L → (∀ a ∈ L, ∀ vs, H a = some (.lst vs) → H' a = some (.lst vs)) → VLs H' vs ds L
  | _, _, _, .nil, _ => .nil
  | _, _, _, .cons h hs, e => .cons (h.keepL t fun a ha => e a (List.mem_append_left _ ha)) (hs.keepL t fun a ha => e a (List.mem_append_right _ ha))
end
theorem VL.keep {H H' : Hp} {v : V} {d : PyData} {L : List Addr} (h : VL H v d L) (s : Same H H') : VL H' v d L := h.keepL s.tps fun a _ vs e => s _ _ e
theorem VLs.keep {H H' : Hp} {vs : List V} {ds : List PyData} {L : List Addr} (h : VLs H vs ds L) (s : Same H H') : VLs H' vs ds L := h.keepL s.tps fun a _ vs e => s _ _ e
mutual
theorem VL.mem {H : Hp} : ∀ {v : V} {d : PyData} {L : List Addr}, VL H v d L → ∀ a ∈ L, ∃ vs, H a = some (.lst vs) ∧ vs.length ≤ 10000
  | _, _, _, .lst (a := b) h hn hs, a, ha => by
    rcases List.mem_cons.mp ha with e | ha
    · subst e; exact ⟨_, h, hn⟩
    · exact hs.mem a ha
  | _, _, _, .tup h hn hs, a, ha => hs.mem a ha
theorem VLs.mem {H : Hp} : ∀ {vs : List V} {ds : List PyData} {L : List Addr}, VLs H vs ds L → ∀ a ∈ L, ∃ vs, H a = some (.lst vs) ∧ vs.length ≤ 10000
  | _, _, _, .cons h hs, a, ha => by
    rcases List.mem_append.mp ha with ha | ha
    · exact h.mem a ha
    · exact hs.mem a ha
end
theorem VLs.length {H : Hp} : ∀ {vs : List V} {ds : List PyData} {L : List Addr}, VLs H vs ds L → vs.length = ds.length
  | _, _, _, .nil => rfl
  | _, _, _, .cons _ hs => congrArg (· + 1) hs.length
theorem VLs.at {H : Hp} : ∀ {vs : List V} {ds : List PyData} {L : List Addr} {i : Nat} {v : V}, VLs H vs ds L → vs[i]? = some v → ∃ d L', ds[i]? = some d ∧ VL H v d L'
  | _, _, _, 0, v, .cons a _, h => by
    have : _ = v := Option.some.inj h
    subst this
    exact ⟨_, _, rfl, a⟩
  | _, _, _, i + 1, v, .cons _ b, h => b.at (i := i) h
theorem VLs.append {H : Hp} {vs' : List V} {ds' : List PyData} {L' : List Addr} : ∀ {vs : List V} {ds : List PyData} {L : List Addr}, VLs H vs ds L → VLs H vs' ds' L' → VLs H (vs ++ vs') (ds ++ ds') (L ++ L')
  | _, _, _, .nil, h => h
  | _, _, _, .cons a b, h => by rw [List.append_assoc]; exact .cons a (b.append h)
theorem VL.one {H : Hp} {v : V} {d : PyData} {L : List Addr} (h : VL H v d L) : VLs H [v] [d] L := by
  have := VLs.cons h .nil
  rwa [List.append_nil] at this
/-- its lists are all new, each but once -/
structure Own (H0 H : Hp) (v : V) (d : PyData) (L : List Addr) : Prop where
  vl : VL H v d L
  nd : L.Nodup
  new : ∀ a ∈ L, H0 a = none
structure Owns (H0 H : Hp) (vs : List V) (ds : List PyData) (L : List Addr) : Prop where
  vl : VLs H vs ds L
  nd : L.Nodup
  new : ∀ a ∈ L, H0 a = none
/-- something more behind, new as of now; a list of another place is made longer -/
theorem Owns.put {H0 H1 H2 : Hp} {vs : List V} {ds : List PyData} {L L' : List Addr} {y : V} {d : PyData} {D : Addr} {zs zs' : List V} (h : Owns H0 H1 vs ds L) (hD : ∀ a ∈ L, a ≠ D) (s0 : Same H0 H1) (s : Same H1 H2) (o : Own H1 H2 y d L') (h1 : H1 D = some (.lst zs)) : Owns H0 (upd H2 D (.lst zs')) (vs ++ [y]) (ds ++ [d]) (L ++ L') ∧ ∀ a ∈ L ++ L', a ≠ D := by
  have hD' : ∀ a ∈ L', a ≠ D := fun a ha e => by have := o.new a ha; rw [e, h1] at this; cases this
  have t : Tps H2 (upd H2 D (.lst zs')) := .upd_lst (s _ _ h1)
  refine ⟨⟨((h.vl.keep s).keepL t fun a ha vs e => by rw [upd_ne (hD a ha)]; exact e).append ((o.vl.keepL t fun a ha vs e => by rw [upd_ne (hD' a ha)]; exact e).one), ?_, fun a ha => ?_⟩, fun a ha => ?_⟩
  · refine List.nodup_append.mpr ⟨h.nd, o.nd, fun a ha b hb e => ?_⟩
    subst e
    obtain ⟨vs, e1, _⟩ := h.vl.mem a ha
    rw [o.new a hb] at e1
    cases e1
  · rcases List.mem_append.mp ha with ha | ha
    · exact h.new a ha
    · exact s0.free (o.new a ha)
  · rcases List.mem_append.mp ha with ha | ha
    · exact hD a ha
    · exact hD' a ha
theorem Own.inv {H0 H : Hp} {D : Addr} {ds : List PyData} {L : List Addr} (h : Own H0 H (.ref D) (.list ds) L) : ∃ ys L1, L = D :: L1 ∧ H D = some (.lst ys) ∧ ys.length ≤ 10000 ∧ Owns H0 H ys ds L1 ∧ D ∉ L1 ∧ H0 D = none := by
  obtain ⟨vl, nd, new⟩ := h
  cases vl with
  | lst h1 h2 h3 =>
    have := List.nodup_cons.mp nd
    exact ⟨_, _, rfl, h1, h2, ⟨h3, this.2, fun a ha => new a (.tail _ ha)⟩, this.1, new _ (.head _)⟩
theorem tFor_tup {K : PySem.W.Frag} {tl : TE} {g : TG} {tb : TS} {D : Ends} {σ : St} {H : Hp} {a : Addr} {xs : List V} (Pv : Nat → St → Hp → Prop) (ha : ∀ R : V → Hp → Prop, R (.ref a) H → tl σ H R) (h0 : Pv 0 σ H) (hl : ∀ i σ H, i ≤ xs.length → Pv i σ H → SqT K H a xs)
    (hs : ∀ i x σ H, xs[i]? = some x → Pv i σ H → g x σ H fun σ2 H2 => tb { D with nx := Pv (i + 1), ct := Pv (i + 1), bk := D.nx } σ2 H2) (hd : ∀ σ H, Pv xs.length σ H → D.nx σ H) : tFor (iTup K tl) g tb D σ H := by
  refine ha _ ⟨a, rfl, ⟨xs, hl 0 σ H (Nat.zero_le _) h0⟩, ?_⟩
  exact for_tup Pv h0 hl hs hd
section
variable {src : List (Option Nat)} {te : TE} {σ : St} {H : Hp} {Q : VK}
/-- a comprehension of things of their own -/
theorem lc_own {J : It} {P : Hp → Prop} {xs : List V} (hJ : ItSeq J P xs) {H1 : Hp} {D : Addr} (ds : List PyData) (hP : ∀ H', Same H1 H' → P H') (hD : H1 D = none) (hl : ds.length = xs.length) (hlen : xs.length ≤ 10000)
    (step : ∀ (i : Nat) x d H', xs[i]? = some x → ds[i]? = some d → Same H1 H' → ∀ R : VK, (∀ y H'' L, Same H' H'' → Own H' H'' y d L → R y H'') → te (some x :: capSt src σ) H' R)
    (fin : ∀ (ys : List V) H' L, Same H1 H' → Own H1 H' (.ref D) (.list ds) L → Q (.ref D) H') : LC (none :: src) J (gName 0) tYes te σ H1 Q D := by
  have h6 : 100000 < sizeLine := by decide
  refine lc_on hJ (fun i zs σ' H' => zs.length = i ∧ (∃ o, σ' = o :: capSt src σ) ∧ Same H1 H' ∧ H' D = some (.lst zs) ∧ ∃ L, Owns H1 H' zs (ds.take i) L ∧ ∀ a ∈ L, a ≠ D)
    ⟨rfl, ⟨none, rfl⟩, .upd_new hD _, upd_same, [], ⟨by simp; exact .nil, .nil, fun a h => by cases h⟩, fun a h => by cases h⟩ (fun i zs σ' H' ⟨_, _, p1, p2, _⟩ => ⟨hP _ p1, p2⟩) (gName_mono 0) ?_ ?_
  · rintro i zs σ' H' x hx ⟨hi', ⟨o, rfl⟩, sm, hd, L, hL, hLD⟩
    have hi := (List.getElem?_eq_some_iff.mp hx).1
    have hdi : ds[i]? = some (ds[i]'(by omega)) := List.getElem?_eq_getElem _
    show te (some x :: capSt src σ) H' _
    refine step i x _ H' hx hdi sm _ fun y H'' L' s2 hy => ⟨s2 _ _ hd, by omega, by simp [hi'], ⟨_, rfl⟩, .upd_over hD (sm.trans s2) _, upd_same, L ++ L', ?_⟩
    rw [take_snoc hdi]
    exact hL.put hLD sm s2 hy hd
  · rintro zs σ' H' ⟨hn, _, sm, hd, L, hL, hLD⟩
    rw [← hl, List.take_length] at hL
    refine fin zs H' (D :: L) sm ⟨.lst hd (by omega) hL.vl, List.nodup_cons.mpr ⟨fun h => hLD _ h rfl, hL.nd⟩, fun a ha => ?_⟩
    rcases List.mem_cons.mp ha with e | ha
    · subst e; exact hD
    · exact hL.new a ha
theorem tLC_own {K : PySem.W.Frag} {tl : TE} {xs : List V} {b : Addr} (ds : List PyData) (ha : ∀ R : V → Hp → Prop, R (.ref b) H → tl σ H R) (hS : SqL K H b xs) (hl : ds.length = xs.length) (hlen : xs.length ≤ 10000)
    (step : ∀ (i : Nat) x d H', xs[i]? = some x → ds[i]? = some d → Same H H' → ∀ R : VK, (∀ y H'' L, Same H' H'' → Own H' H'' y d L → R y H'') → te (some x :: capSt src σ) H' R)
    (fin : ∀ D H' L, Same H H' → Own H H' (.ref D) (.list ds) L → Q (.ref D) H') : tLC (none :: src) (iList K tl) (gName 0) tYes te σ H Q :=
  ha _ ⟨b, rfl, ⟨xs, hS⟩, fun D hD => lc_own (itseq_list.imp fun H' (e : Same H H') => e.seq hS) ds (fun _ e => e) hD hl hlen step fun _ H' L sm => fin D H' L sm⟩
theorem tLC_ownT {K : PySem.W.Frag} {tl : TE} {xs : List V} {b : Addr} (ds : List PyData) (ha : ∀ R : V → Hp → Prop, R (.ref b) H → tl σ H R) (hS : SqT K H b xs) (hl : ds.length = xs.length) (hlen : xs.length ≤ 10000)
    (step : ∀ (i : Nat) x d H', xs[i]? = some x → ds[i]? = some d → Same H H' → ∀ R : VK, (∀ y H'' L, Same H' H'' → Own H' H'' y d L → R y H'') → te (some x :: capSt src σ) H' R)
    (fin : ∀ D H' L, Same H H' → Own H H' (.ref D) (.list ds) L → Q (.ref D) H') : tLC (none :: src) (iTup K tl) (gName 0) tYes te σ H Q :=
  ha _ ⟨b, rfl, ⟨xs, hS⟩, fun D hD => lc_own (itseq_tup.imp fun H' (e : Same H H') => e.tup hS) ds (fun _ e => e) hD hl hlen step fun _ H' L sm => fin D H' L sm⟩
/-- so many turns of range(0, n, c) -/
def UpTo (n c m : Nat) : Prop := (∀ i, i < m → i * c < n) ∧ n ≤ m * c
/-- what is left of a list by the places -/
def sel (p : Nat → Bool) (ds : List PyData) (n : Nat) : List PyData := ((List.range n).filter p).filterMap (ds[·]?)
end
end L2
namespace L2
open PySem PySem.Spec PyProof.Rows
section
variable {X : Cx} {pos : Pos}
def rStarts : V → List V → Hp → VK → Prop := fun x vs H Q => ∃ (z y : Str), x = .str z ∧ vs = [.str y] ∧ Q (.bl (Txt.startswith z y)) H
end
/-- the signs of a number's text -/
def dg (i : Int) : List Nat := (Str.ofString (toString i)).cps.toList
end L2
namespace L2
open PySem
section
variable {src : List (Option Nat)} {te : TE} {σ : St} {H : Hp} {Q : VK}
end
end L2
namespace L2
open PySem PySem.Spec PyProof.Rows
/-! ### methods that may raise -/
def Gx.MeX (g : Gx) (k : Nat) (C : Addr) (m : Str) (ps : List Str) (sp : Sp) : Prop := ∃ f fd, FnOk g.P g.w g.K g.mg g.base (CXF g.P g.w) k f fd ps sp ∧ Binds g.K fd ps [] ∧ Meth g.K C m f
section
variable {g : Gx} {k : Nat} {x qual m : Str} {st : Stmt} {N ps : List Str} {sp : Sp} {C : Addr}
end
section
variable {g : Gx} {X : Cx} {k j : Nat} {x m : Str} {ps : List Str} {sp : Sp} {E : XK} {C : Addr} {e o : Expr} {es : List Expr} {t : TA} {ta : TE} {p pos apos : Pos}
end
/-- an expression that is never reached -/
def tNo : TE := fun _ _ _ => False
/-! ### try: f(..) except C as e: suite -/
def tTryE (K : PySem.W.Frag) (cv : Value) (sp : Sp) (t : TA) (j : Nat) (ts : TS) : TS := fun D σ H => t σ H fun vs H1 => sp (vs ++ []) H1 (fun v H2 => D.nx σ H2) (fun cls _ H2 => PySem.W.exmOne K cls cv = some true ∧ ∀ a, H2 a = none → ts (D.gone j) (σ.set j (some (.ref a))) (upd H2 a (ExcO a cls)))
section
variable {g : Gx} {X : Cx} {k jj j : Nat} {f c n : Str} {ps : List Str} {sp : Sp} {e : Expr} {es : List Expr} {t : TA} {ts : TS} {b₀ : Stmt} {suite : List Stmt} {cv : Value} {fp cp hpos apos cpos pos : Pos}
end
end L2
namespace L2
open PySem PySem.Spec PyProof.Rows
/-! ### sets of texts: set(text), set(list of texts), len of it -/
def addOnce (l : List Str) (v : Str) : List Str := if l.any (· == v) then l else l ++ [v]
def met (val : Nat → Str) (i : Nat) : List Str := ((List.range i).map val).foldl addOnce []
section
variable {prog : Program} {w : World} {A : Around} {R : Result → Shared → Prop} {I : Addr} {fp wr : List Addr} {G : Array GenState → Array GenState → Prop} {n : Nat} {P : Nat → Value → Prop} {St : Nat → Shared → Prop}
end
end L2
namespace L2
open PySem PySem.Spec PyProof.Rows
def sg (x : Str) (i : Nat) : Str := ⟨#[x.cps.getD i 0]⟩
section
variable {prog : Program} {w : World} {A : Around} {E : Value → Shared → Prop} {s : Shared}
end
/-- a set, so many in it -/
def SetO (a : Addr) (n : Nat) : HO := .ext fun h => ∃ (o : Obj) (es : Array (Int × Value)) (ep : Nat) (t : SetTable), h.get? a = some o ∧ o.ExactSet ∧ o.data = .set es ep t ∧ t.fits es.size = true ∧ es.size = n ∧ n < scanBound
section
variable {X : Cx}
end
end L2
namespace L2
open PySem PySem.Spec PyProof.Rows
/-- a test that is never reached -/
def tNoT : TT := fun _ _ _ => False
section
variable {X : Cx}
end
end L2
namespace L2
open PySem PySem.Spec PyProof.Rows
/-! ### x.split(one sign) -/
section
variable {X : Cx}
def rSplit : V → List V → Hp → VK → Prop := fun x vs H Q => ∃ (z : Str) (c : Nat), x = .str z ∧ vs = [.str ⟨#[c]⟩] ∧ z.length ≤ 100000 ∧ ∀ l, H l = none → Q (.ref l) (upd H l (.lst ((Txt.split z ⟨#[c]⟩).map V.str)))
end
end L2
namespace L2
open PySem PySem.Spec PyProof.Rows
section
variable {X : Cx}
end
end L2
namespace L2
open PySem PySem.Spec PyProof.Rows
/-! ### xs[k::step], and defs asked of a class by its name -/
section
variable {X : Cx} {e lo st : Expr} {te tl ts : TE} {pos p2 : Pos}
/-- xs[k::step] of a list, k not below 0, step above it: a new list of some of its things -/
def tSlStep (K : PySem.W.Frag) (te tl ts : TE) : TE := fun σ H Q => te σ H fun x H1 => tl σ H1 fun y H2 => ts σ H2 fun z H3 =>
  ∃ (a : Addr) (xs : List V) (k n : Int), x = .ref a ∧ y = .int k ∧ z = .int n ∧ 0 ≤ k ∧ 0 < n ∧ SqL K H3 a xs ∧ ∀ p ys, H3 p = none → (∀ v ∈ ys, v ∈ xs) → ys.length ≤ xs.length → Q (.ref p) (upd H3 p (.lst ys))
end
/-- what a class has from its line, to be asked for a def by its own name -/
structure ClsFn (K : PySem.W.Frag) (B : Addr) (m : Str) (f : Addr) : Prop where
  ga : PySem.W.specialIn K (.ref B) "__getattribute__" = some (some (.builtin "type.__getattribute__"))
  rd : PySem.W.readsIn K B (.type "type") = true
  at_ : PySem.W.findCls K (.ref B) (.type "type") m = some (.val (.ref f))
  kp : PySem.W.keepIn K (.ref f) = true
/-- the def m of the class at B, which the text calls x -/
def Gx.Cf (g : Gx) (k : Nat) (x m : Str) (ps : List Str) (sp : Sp) : Prop := ∃ B f fd, FnOk g.P g.w g.K g.mg g.base CX0 k f fd ps sp ∧ Binds g.K fd ps [] ∧ ClsFn g.K B m f ∧ g.mg x = some (.ref B)
def Gx.RawC (g : Gx) (x m qual : Str) (st : Stmt) (ps : List Str) : Prop := ∃ B f fd, Fun g.K m qual st f fd ∧ Binds g.K fd ps [] ∧ ClsFn g.K B m f ∧ g.mg x = some (.ref B)
section
variable {g : Gx} {X : Cx} {k j : Nat} {x m : Str} {ps : List Str} {sp : Sp} {e : Expr} {es : List Expr} {t : TA} {p pos apos : Pos}
end
end L2
namespace L2
open PySem PySem.Spec PyProof.Rows
/-- y not in d, y in d, of a dict -/
def rNotInD : R2 := fun y x H Q => ∃ a o, x = .ref a ∧ DGet H a y o ∧ Q (.bl (!o.isSome)) H
def rInD : R2 := fun y x H Q => ∃ a o, x = .ref a ∧ DGet H a y o ∧ Q (.bl o.isSome) H
section
variable {X : Cx}
end
section
variable {K : PySem.W.Frag} {h : Heap} {mg : Str → Option Value} {P : Program} {w : World} {base : Heap} {f B : Addr} {x qual m : Str} {st : Stmt} {ps N : List Str} {oc kV dc pm cd ct : Value} {od an : Option Addr} {sl : Array (Option Value)} {g : Gx} {k : Nat} {sp : Sp}
end
end L2
namespace L2
/-- one reading or the other: an expression whose object is of one class or of another -/
def tEither (a b : TE) : TE := fun σ H Q => a σ H Q ∨ b σ H Q
end L2
namespace L2
open PySem PySem.Spec PyProof.Rows
section
variable {g : TG} {tb : TS} {D : Ends} {σ : St} {H : Hp}
/-- for i, x in enumerate(xs), a list -/
theorem tFor_enumL {K : PySem.W.Frag} {ta : TA} {a : Addr} {xs : List V} (Pv : Nat → St → Hp → Prop) (ha : ∀ R : List V → Hp → Prop, R [.ref a] H → ta σ H R) (h0 : Pv 0 σ H) (hl : ∀ i σ H, i ≤ xs.length → Pv i σ H → SqL K H a xs)
    (hs : ∀ i x σ H T, xs[i]? = some x → Pv i σ H → H T = none → g (.ref T) σ (upd H T (.tup [.int (i : Int), x])) fun σ2 H2 => tb { D with nx := Pv (i + 1), ct := Pv (i + 1), bk := D.nx } σ2 H2) (hd : ∀ σ H, Pv xs.length σ H → D.nx σ H) : tFor (iEnumL K ta) g tb D σ H := by
  refine ha _ ⟨a, xs, rfl, hl 0 σ H (Nat.zero_le _) h0, ?_⟩
  refine ⟨fun i m σ H => m = xs.length - i ∧ i ≤ xs.length ∧ Pv i σ H, ⟨xs.length, by simp, Nat.zero_le _, h0⟩, ?_⟩
  rintro i m σ H ⟨rfl, hi, p⟩
  have q := hl i σ H hi p
  by_cases hlt : i < xs.length
  · have hx : xs[i]? = some xs[i] := List.getElem?_eq_getElem hlt
    refine .inr ⟨⟨xs, _, q, hx⟩, Pv (i + 1), fun σ' H' p' => ⟨xs.length - (i + 1), by omega, rfl, hlt, p'⟩, ?_⟩
    rintro v H' ⟨T, rfl, hT, heq⟩
    have e := heq xs _ q hx
    subst e
    exact hs i _ σ H T hx p hT
  · have e : i = xs.length := by omega
    subst e
    exact .inl ⟨⟨xs, q, Nat.le_refl _⟩, hd σ H p⟩
end
/-! ### data without lists: it stays as long as tuples stay -/
def V0s (H : Hp) (us : List V) (ds : List PyData) : Prop := us.length = ds.length ∧ ∀ (i : Nat) u d, us[i]? = some u → ds[i]? = some d → VL H u d []
end L2
namespace L2
open PySem
end L2
namespace L2
open PySem
end L2
namespace L2
open PySem PySem.Spec PyProof.Rows
/-- zip of a list and a tuple -/
def iZipM (K : PySem.W.Frag) (ta : TA) : TI := fun σ H R => ta σ H fun vs H1 => ∃ a b xs ys, vs = [.ref a, .ref b] ∧ SqL K H1 a xs ∧ SqT K H1 b ys ∧ R (Itz (fun H xs => SqL K H a xs) (fun H ys => SqT K H b ys)) H1
section
variable {X : Cx} {elts : List Expr} {kk : Nat} {tpos : Pos}
end
section
variable {tb : TS} {D : Ends} {σ : St} {H : Hp}
end
end L2
namespace L2
open PySem
end L2
namespace L2
open PySem PySem.Spec PyProof.Rows
/-! closures: a function object of the heap, the code object it has, the cells it holds -/
abbrev FnO (f : Addr) (fd : FuncData) : HO := .ext fun h => h.get? f = some { cls := .type "function", data := .func fd }
abbrev CdO (c : Addr) (q : Str) : HO := .ext fun h => h.CodeRec (.ref c) q
abbrev CellO (c : Addr) (v : V) : HO := .ext fun h => ∃ u, RelV v u ∧ h.IsCell c (some u)
section
variable {P : Program} {w : World} {H H' : Hp} {h h' : Heap}
theorem fnO_mk {f : Addr} {fd : FuncData} (e : h.get? f = some { cls := .type "function", data := .func fd }) : ObjOk P w H h f (FnO f fd) := ⟨e, ⟨_, e⟩, fun _ _ p k => k _ p⟩
theorem cdO_mk {c : Addr} {q : Str} (e : h.CodeRec (.ref c) q) : ObjOk P w H h c (CdO c q) := by
  obtain ⟨c', o, vs, t, e1, e2, e3⟩ := id e
  cases e1
  refine ⟨e, ⟨_, e2⟩, fun h1 h2 p k => ?_⟩
  obtain ⟨c', o, vs, t, e1, e2, e3⟩ := p
  cases e1
  exact ⟨c, o, vs, t, rfl, k _ e2, e3⟩
theorem cellO_mk {c : Addr} {v : V} {u : Value} (r : RelV v u) (e : h.IsCell c (some u)) : ObjOk P w H h c (CellO c v) := by
  obtain ⟨o, e1, e2⟩ := id e
  refine ⟨⟨u, r, e⟩, ⟨_, e1⟩, fun h1 h2 p k => ?_⟩
  obtain ⟨u, r, o, e1, e2⟩ := p
  exact ⟨u, r, o, k _ e1, e2⟩
/-- what was there untracked is tracked -/
theorem HOk.track {c : Addr} {o : HO} (x : HOk P w H h) (hn : H c = none) (new : ObjOk P w (upd H c o) h c o) : HOk P w (upd H c o) h := fun b u e => by
  by_cases hb : b = c
  · subst hb; rw [upd_same] at e; cases e; exact new
  · rw [upd_ne hb] at e
    exact (x b u e).stay (fun _ _ _ q => q) (fun d q => by rw [upd_ne (ne_of_none q hn)]; exact q) fun d xs q => by rw [upd_ne (ne_of_none q hn)]; exact q
end
/-! cells out of sight, and back -/
def off (H : Hp) (cs : List Addr) : Hp := fun b => if b ∈ cs then none else H b
def on (H' H : Hp) (cs : List Addr) : Hp := fun b => if b ∈ cs then H b else H' b
section
variable {H H' : Hp} {cs : List Addr} {b : Addr} {o : HO}
theorem off_in (h : b ∈ cs) : off H cs b = none := if_pos h
theorem off_out (h : b ∉ cs) : off H cs b = H b := if_neg h
theorem on_in (h : b ∈ cs) : on H' H cs b = H b := if_pos h
theorem on_out (h : b ∉ cs) : on H' H cs b = H' b := if_neg h
theorem off_none (h : H b = none) : off H cs b = none := by unfold off; split <;> first | rfl | exact h
theorem of_off (h : off H cs b = some o) : H b = some o ∧ b ∉ cs := by
  by_cases hb : b ∈ cs
  · rw [off_in hb] at h; cases h
  · rw [off_out hb] at h; exact ⟨h, hb⟩
end
/-- the cells that are held: their names, addresses, values -/
abbrev Caps := List (Str × Addr × V)
def Caps.cl (l : Caps) : List (Str × Addr) := l.map fun p => (p.1, p.2.1)
def Caps.as (l : Caps) : List Addr := l.map fun p => p.2.1
def Caps.vs (l : Caps) : List V := l.map fun p => p.2.2
def Caps.In (l : Caps) (H : Hp) : Prop := ∀ p ∈ l, H p.2.1 = some (CellO p.2.1 p.2.2)
section
variable {l : Caps} {H : Hp}
theorem cap_mem {c : Addr} (h : c ∈ l.as) : ∃ p ∈ l, p.2.1 = c := by
  obtain ⟨p, hp, e⟩ := List.mem_map.mp h
  exact ⟨p, hp, e⟩
theorem cap_lookup : ∀ {l : Caps} {x : Str} {c : Addr}, l.cl.lookup x = some c → ∃ p ∈ l, p.1 = x ∧ p.2.1 = c
  | p :: l, x, c, h => by
    rw [Caps.cl, List.map_cons, List.lookup_cons] at h
    cases hb : x == p.1 with
    | true => rw [hb] at h; exact ⟨p, .head _, (eq_of_beq hb).symm, Option.some.inj h⟩
    | false =>
      rw [hb] at h
      obtain ⟨q, h1, h2⟩ := cap_lookup (l := l) h
      exact ⟨q, .tail _ h1, h2⟩
theorem cap_lk : ∀ {l : Caps}, (l.map (·.1)).Nodup → ∀ p ∈ l, l.cl.lookup p.1 = some p.2.1
  | a :: q, nd, p, hp => by
    rw [List.map_cons, List.nodup_cons] at nd
    rw [Caps.cl, List.map_cons, List.lookup_cons]
    rcases List.mem_cons.mp hp with rfl | hp
    · simp
    · have : (p.1 == a.1) = false := by
        rw [beq_eq_false_iff_ne]
        intro z
        exact nd.1 (z ▸ List.mem_map_of_mem hp)
      rw [this]
      exact cap_lk nd.2 p hp
theorem off_tup {b : Addr} {xs : List V} (hl : l.In H) (h : H b = some (.tup xs)) : off H l.as b = some (.tup xs) := by
  rw [off_out fun hb => ?_]
  · exact h
  · obtain ⟨p, hp, rfl⟩ := cap_mem hb
    rw [hl p hp] at h; cases h
theorem off_get {b : Addr} {o : HO} (hl : l.In H) (h : H b = some o) (ho : ∀ φ, o ≠ .ext φ) : off H l.as b = some o := by
  rw [off_out fun hb => ?_]
  · exact h
  · obtain ⟨p, hp, rfl⟩ := cap_mem hb
    rw [hl p hp] at h
    exact ho _ (Option.some.inj h).symm
theorem off_hok {P : Program} {w : World} {h : Heap} (hl : l.In H) (x : HOk P w H h) : HOk P w (off H l.as) h := fun b o e => by
  obtain ⟨e1, e2⟩ := of_off e
  refine (x b o e1).stay (fun _ _ _ q => q) (fun c q => off_get hl q fun φ z => by cases z) fun c xs q => off_tup hl q
end
/-- the context of a closure's body -/
def cxCl (P : Program) (w : World) (K : PySem.W.Frag) (mg : Str → Option Value) (base : Heap) (N : List Str) (qual : Str) (scope : Scope) (f : Addr) (cd : Value) (cl : List (Str × Addr)) (A : Around) (outer : List Env) (s : Shared) (H : Hp) : Cx where
  prog := P
  w := w
  K := K
  mg := mg
  base := base
  A := A.deeper (PySem.W.envX qual scope s.heap.objs.size f cd cl)
  N := N
  s₀ := s
  H₀ := H
  env := PySem.W.envX qual scope s.heap.objs.size f cd cl
  outer := outer
  stack := PySem.W.envX qual scope s.heap.objs.size f cd cl :: outer
  ex := []
  calm := true
  fn := fun _ => false
  pn := []
  xe := fun _ _ => False
/-- names: parameters, further ones, captured ones -/
structure ClScope (N ps : List Str) (l : List Str) (sc : Scope) : Prop where
  kind : sc.kind = .function
  co : sc.isCoroutine = false
  gen : sc.isGenerator = false
  nd : N.Nodup
  pre : N.take ps.length = ps
  suf : N.drop (N.length - l.length) = l
  len : ps.length + l.length ≤ N.length
  par : ∀ x ∈ ps, sc.names.lookup x = some .local
  fre : ∀ x ∈ l, sc.names.lookup x = some .free
  nocell : ∀ y ∈ sc.names, y.2 ≠ .cell
  all : ∀ y ∈ sc.names, y.2 = .free → y.1 ∈ l
def startC (N : List Str) (vs fv : List V) : St := vs.map some ++ List.replicate (N.length - vs.length - fv.length) none ++ fv.map some
section
variable {P : Program} {w : World} {K : PySem.W.Frag} {mg : Str → Option Value} {base : Heap} {N ps : List Str} {qual name : Str} {scope : Scope} {f c : Addr} {A : Around} {outer : List Env} {s : Shared} {H : Hp} {us : List Value} {vs : List V} {l : Caps} {cd : Value}
theorem zip_rev_lookup : ∀ {ps : List Str} {us : List Value} {i : Nat} {x : Str} {u : Value}, ps.Nodup → ps[i]? = some x → us[i]? = some u → (ps.zip us).reverse.lookup x = some u := by
  intro ps us i x u nd h1 h2
  have hm : (x, u) ∈ ps.zip us := List.mem_of_getElem? (show (ps.zip us)[i]? = some (x, u) from List.getElem?_zip_eq_some.mpr ⟨h1, h2⟩)
  have key : ∀ (q : List (Str × Value)), (q.map (·.1)).Nodup → (x, u) ∈ q → q.lookup x = some u := by
    intro q
    induction q with
    | nil => intro _ h; cases h
    | cons a q ih =>
      intro nd h
      rw [List.lookup_cons]
      rw [List.map_cons, List.nodup_cons] at nd
      rcases List.mem_cons.mp h with rfl | h
      · simp
      · have : (x == a.1) = false := by
          rw [beq_eq_false_iff_ne]
          intro z
          exact nd.1 (z ▸ List.mem_map_of_mem h)
        rw [this]
        exact ih nd.2 h
  refine key _ ?_ (List.mem_reverse.mpr hm)
  rw [List.map_reverse]
  have hz : ∀ (ps : List Str) (us : List Value), ps.Nodup → ((ps.zip us).map (·.1)).Nodup ∧ ∀ z ∈ (ps.zip us).map (·.1), z ∈ ps := by
    intro ps
    induction ps with
    | nil => intro us _; simp
    | cons a ps ih =>
      intro us nd
      cases us with
      | nil => simp
      | cons u us =>
        have nd' := List.nodup_cons.mp nd
        obtain ⟨i1, i2⟩ := ih us nd'.2
        rw [List.zip_cons_cons, List.map_cons]
        refine ⟨List.nodup_cons.mpr ⟨fun hm => nd'.1 (i2 _ hm), i1⟩, fun z hz => ?_⟩
        rcases List.mem_cons.mp hz with rfl | hz
        · exact .head _
        · exact .tail _ (i2 z hz)
  exact List.pairwise_reverse.mpr ((hz ps us nd).1.imp fun h => Ne.symm h)
theorem inv_startC {h1 : Heap} {tk : Nat} (S : ClScope N ps (l.map (·.1)) scope) (hnd : l.as.Nodup) (hd : A.handled = none) (e0 : Env0 P w K mg base A outer s H) (hl : vs.length = ps.length) (r : Vals vs us) (hin : l.In H)
    (hns : h1.Ns s.heap.objs.size (fun x => (ps.zip us).reverse.lookup x)) (hk : ∀ b o, s.heap.get? b = some o → h1.get? b = some o) :
    Inv (cxCl P w K mg base N qual scope f cd l.cl A outer s (off H l.as)) [] (startC N vs l.vs) (off H l.as) { s with heap := h1, toks := tk } := by
  have lfst : l.cl.map (·.1) = l.map (·.1) := by rw [Caps.cl, List.map_map]; rfl
  have cellAt : ∀ p ∈ l, ∃ u, RelV p.2.2 u ∧ s.heap.IsCell p.2.1 (some u) := fun p hp => (e0.hok _ _ (hin p hp)).1
  have ndN : (l.map (·.1)).Nodup := by rw [← S.suf]; exact S.nd.sublist (List.drop_sublist _ _)
  have noA : ∀ b : Addr, b ∉ (cxCl P w K mg base N qual scope f cd l.cl A outer s (off H l.as)).ex := fun b z => absurd (show b ∈ ([] : List Addr) from z) (by simp)
  have lk := cap_lk ndN
  have cinj : ∀ p ∈ l, ∀ q ∈ l, p.2.1 = q.2.1 → p = q := fun p hp q hq e => by
    obtain ⟨i, hi, e1⟩ := List.getElem_of_mem hp
    obtain ⟨j, hj, e2⟩ := List.getElem_of_mem hq
    have h1 : l.as[i]? = some p.2.1 := by rw [Caps.as, List.getElem?_map, List.getElem?_eq_getElem hi, e1]; rfl
    have h2 : l.as[j]? = some p.2.1 := by rw [Caps.as, List.getElem?_map, List.getElem?_eq_getElem hj, e2, e]; rfl
    have hij : i = j := by
      obtain ⟨g1, g2⟩ := List.getElem?_eq_some_iff.mp h1
      obtain ⟨g3, g4⟩ := List.getElem?_eq_some_iff.mp h2
      exact (List.getElem_inj hnd).mp (g2.trans g4.symm)
    subst hij
    rw [← e1, ← e2]
  refine ⟨⟨e0.mod, S.kind, rfl, rfl, Nat.le_refl _, fun y z c h1 h2 => ?_, fun y hy => ?_, fun y c h _ => absurd h (by show ¬ (false = true); decide), fun _ => hd, Around.frames_deeper e0.frames, .inr ⟨rfl, rfl⟩, fun b z => absurd z (noA b), fun b o e => ⟨(e0.bs b o e).1, off_none (e0.bs b o e).2⟩, e0.bsz, fun b _ _ => noA b, fun b z => absurd z (noA b), e0.funs, fun b hb => off_none (e0.frf b hb)⟩,
    rfl, e0.bare, Un.kept hk, ⟨_, hns, fun i y v h1 h2 h3 => ?_⟩, fun y c h => ?_, off_none (e0.hok.fresh (Nat.le_refl _)), fun y c h => ?_, fun p hp => absurd (show p ∈ ([] : List (Addr × Obj)) from hp) (by simp), (off_hok hin e0.hok).kept hk, ?_⟩
  · obtain ⟨p, hp, e1, e2⟩ := cap_lookup h1
    obtain ⟨q, hq, e3, e4⟩ := cap_lookup h2
    have := cinj p hp q hq (e2.trans e4.symm)
    rw [← e1, ← e3, this]
  · have hy : scope.names.lookup y = some .cell ∨ scope.names.lookup y = some .free := hy
    rcases hy with hy | hy
    · exact absurd rfl (S.nocell _ (PySem.mem_of_lookup hy))
    · obtain ⟨p, hp, e⟩ := List.mem_map.mp (S.all _ (PySem.mem_of_lookup hy) rfl)
      exact ⟨p.2.1, by show l.cl.lookup y = _; rw [← show p.1 = y from e]; exact lk p hp⟩
  · have hvl : l.vs.length = (l.map (·.1)).length := by rw [Caps.vs, List.length_map, List.length_map]
    have hsl := S.len
    unfold startC at h2
    by_cases hi : i < vs.length
    · have ha : vs[i]? = some v := by
        rw [List.append_assoc, List.getElem?_append_left (by simpa using hi), List.getElem?_map] at h2
        cases e : vs[i]? with
        | none => rw [e] at h2; cases h2
        | some a => rw [e] at h2; cases h2; rfl
      obtain ⟨u, hu, rv⟩ := r.get ha
      have hp : ps[i]? = some y := by
        rw [← S.pre, List.getElem?_take_of_lt (by omega)]; exact h1
      have ndP : ps.Nodup := by rw [← S.pre]; exact S.nd.sublist (List.take_sublist _ _)
      exact ⟨u, rv, .inl ⟨S.par y (List.mem_of_getElem? hp), zip_rev_lookup ndP hp hu⟩⟩
    · by_cases hi2 : i < vs.length + (N.length - vs.length - l.vs.length)
      · rw [List.getElem?_append_left (by rw [List.length_append, List.length_map, List.length_replicate]; exact hi2), List.getElem?_append_right (by rw [List.length_map]; omega), List.getElem?_replicate] at h2
        split at h2 <;> cases h2
      · rw [List.getElem?_append_right (by rw [List.length_append, List.length_map, List.length_replicate]; omega), List.length_append, List.length_map, List.length_replicate, List.getElem?_map] at h2
        obtain ⟨v', hv', e⟩ := Option.map_eq_some_iff.mp h2
        cases e
        have hv2 : (l.map fun p => p.2.2)[i - (vs.length + (N.length - vs.length - l.vs.length))]? = some _ := hv'
        rw [List.getElem?_map] at hv2
        obtain ⟨p, hp, rfl⟩ := Option.map_eq_some_iff.mp hv2
        have hpm := List.mem_of_getElem? hp
        have hy : (l.map (·.1))[i - (vs.length + (N.length - vs.length - l.vs.length))]? = some y := by
          rw [← S.suf, List.getElem?_drop]
          rw [show N.length - (l.map (·.1)).length + (i - (vs.length + (N.length - vs.length - l.vs.length))) = i by omega]
          exact h1
        rw [List.getElem?_map, hp] at hy
        have ey : p.1 = y := Option.some.inj hy
        obtain ⟨u, ru, hc⟩ := cellAt p hpm
        obtain ⟨o, ho, hd'⟩ := hc
        refine ⟨u, ru, .inr ⟨.inr ?_, p.2.1, by show l.cl.lookup y = _; rw [← ey]; exact lk p hpm, o, hk _ _ ho, hd'⟩⟩
        exact S.fre y (by rw [← ey]; exact List.mem_map_of_mem hpm)
  · obtain ⟨p, hp, e1, e2⟩ := cap_lookup (show l.cl.lookup y = some c from h)
    obtain ⟨u, ru, o, ho, hd'⟩ := cellAt p hp
    exact ⟨some u, o, by rw [← e2]; exact hk _ _ ho, hd'⟩
  · obtain ⟨p, hp, e1, e2⟩ := cap_lookup (show l.cl.lookup y = some c from h)
    exact off_in (by rw [← e2]; exact List.mem_map_of_mem hp)
  · unfold startC
    show _ = N.length
    have hvl : l.vs.length = (l.map (·.1)).length := by rw [Caps.vs, List.length_map, List.length_map]
    have hsl := S.len
    rw [List.length_append, List.length_append, List.length_map, List.length_map, List.length_replicate]
    omega
/-- behind a closure's body -/
theorem ce_of {Q : VK} {v : V} {u : Value} {σ' : St} {H' : Hp} {s' : Shared} (e0 : Env0 P w K mg base A outer s H) (hin : l.In H) (J : Inv (cxCl P w K mg base N qual scope f cd l.cl A outer s (off H l.as)) [] σ' H' s') (hlk : ∀ p ∈ l, l.cl.lookup p.1 = some p.2.1) (rv : RelV v u) (q : (∀ c ∈ l.as, H' c = none) → Q v (on H' H l.as)) :
    CE outer P w H s Q u s' := by
  have un := J.base
  have nin : ∀ {b : Addr}, H b = none → b ∉ l.as := fun hb hm => by
    obtain ⟨p, hp, rfl⟩ := cap_mem hm
    rw [hin p hp] at hb; cases hb
  have freeC : ∀ c ∈ l.as, H' c = none := fun c hc => by
    obtain ⟨p, hp, rfl⟩ := cap_mem hc
    exact J.freeC p.1 p.2.1 (hlk p hp)
  refine ⟨v, on H' H l.as, J.os, J.bare, ⟨fun b o e n hb hx => un.keep b o e (off_none n) hb hx, fun b o e n hb hx => un.slot b o e (off_none n) hb hx, fun b o e n hx => ?_, fun b o e hx => un.there b o e hx, fun b xs e => ?_, fun b o u e => ?_, fun b ps e => ?_⟩, fun b o e => ?_, rv, q freeC⟩
  · rw [on_out (nin n)]
    exact un.free b o e (off_none n) hx
  · have h1 := off_tup hin e
    rw [on_out (of_off h1).2]
    exact un.tups b xs h1
  · have h1 := off_get hin e fun φ z => by cases z
    rw [on_out (of_off h1).2]
    exact un.frzs b o u h1
  · have h1 := off_get hin e fun φ z => by cases z
    rw [on_out (of_off h1).2]
    exact un.tbls b ps h1
  · by_cases hb : b ∈ l.as
    · rw [on_in hb] at e
      obtain ⟨p, hp, rfl⟩ := cap_mem hb
      rw [hin p hp] at e
      cases e
      obtain ⟨⟨u, r, oc, ho, hd'⟩, _⟩ := e0.hok _ _ (hin p hp)
      refine cellO_mk r ⟨oc, un.keep _ _ ho (off_in hb) (fun hf => ?_) (by intro z; exact absurd (show p.2.1 ∈ ([] : List Addr) from z) (by simp)), hd'⟩
      have := e0.frf _ hf
      rw [hin p hp] at this; cases this
    · rw [on_out hb] at e
      refine (J.hok b o e).stay (fun _ _ _ q => q) (fun c q => ?_) fun c xs q => ?_
      · rw [on_out fun hc => ?_]
        · exact q
        · rw [freeC c hc] at q; cases q
      · rw [on_out fun hc => ?_]
        · exact q
        · rw [freeC c hc] at q; cases q
end
/-- a closure in the heap: its object, its code, its cells -/
def ClIn (H : Hp) (f c : Addr) (fd : FuncData) (qual : Str) (l : Caps) : Prop := H f = some (FnO f fd) ∧ H c = some (CdO c qual) ∧ l.In H
/-- THE RULE for a closure: its body -/
theorem clos_of {P : Program} {w : World} {K : PySem.W.Frag} {mg : Str → Option Value} {base : Heap} {k : Nat} {f c : Addr} {name qual : Str} {params : Arguments} {body : List Stmt} {scope : Scope} {doc pm ctv : Value} {N ps : List Str} {l : Caps} {sp : List V → Hp → VK → Prop}
    (S : ClScope N ps (l.map (·.1)) scope) (hnd : l.as.Nodup) (len : ∀ vs H Q, sp vs H Q → vs.length = ps.length)
    (hbody : ∀ (A : Around) (outer : List Env) (s : Shared) (H : Hp) (vs : List V) (Q : VK), Room k (A.deeper (PySem.W.envX qual scope s.heap.objs.size f (.ref c) l.cl)) → sp vs H Q →
      ∃ t, PSs (cxCl P w K mg base N qual scope f (.ref c) l.cl A outer s H) body t ∧ t { nx := fun _ H' => Q .non H', rt := Q } (startC N vs l.vs) H) :
    FnOk P w K mg base CX0 (k + 1) f (PySem.W.fnX name qual params body scope l.cl .none .none doc pm none (.ref c) ctv) ps
      (fun vs H Q _ => ClIn H f c (PySem.W.fnX name qual params body scope l.cl .none .none doc pm none (.ref c) ctv) qual l ∧ sp vs (off H l.as) fun v H' => (∀ c ∈ l.as, H' c = none) → Q v (on H' H l.as)) := by
  refine ⟨fun vs H Q E h => len _ _ _ h.2, fun A outer s H args us vs Q E hr e0 hb r hsp => ?_⟩
  obtain ⟨⟨hf, hc, hin⟩, hsp⟩ := hsp
  have hl := len _ _ _ hsp
  have lim : s.heap.NoLimit := e0.mod.nolimit.keeps fun b o e => (e0.bs b o e).1
  have hfo := (e0.hok _ _ hf).1
  have hco : s.heap.CodeRec (.ref c) qual := (e0.hok _ _ hc).1
  have hlu : ps.length = us.length := by rw [← hl]; exact r.length
  refine codeAny_call_function hr.depth hfo rfl S.co S.gen rfl hco (hb _ _ _ _ ?_)
  refine wpAny_newFunctionEnv S.nocell (fun y hy => S.par y.1 (List.of_mem_zip hy).1) (fun h₁ hns hsb => ?_) S.kind
  have hk₁ : ∀ b o, s.heap.get? b = some o → h₁.get? b = some o := fun b o e => hsb.extBut b o (Nat.ne_of_lt (Heap.lt_size e)) (Heap.get?_push_of_some _ e)
  refine ⟨lim.keeps hk₁, codeAny_func ?_⟩
  obtain ⟨t, ht, hq⟩ := hbody A outer s (off H l.as) vs _ (hr.deeper _) hsp
  have I := inv_startC (cd := .ref c) (qual := qual) (f := f) (tk := s.toks + (ps.zip us).length) S hnd hr.hd e0 hl r hin hns hk₁
  have lk := cap_lk (l := l) (by rw [← S.suf]; exact S.nd.sublist (List.drop_sublist _ _))
  refine wpAny_mono (ht [] _ _ _ _ I hq) (fun fl s' hs => ?_) fun e s' hs => hs.elim
  cases fl with
  | ret u =>
    obtain ⟨v, σ', H', J, rv, q⟩ := hs
    exact ce_of e0 hin J lk rv q
  | next =>
    obtain ⟨σ', H', J, q⟩ := hs
    exact ce_of (v := V.non) (u := Value.none) e0 hin J lk rfl q
  | brk =>
    obtain ⟨_, _, _, q⟩ := hs
    exact False.elim q
  | cont =>
    obtain ⟨_, _, _, q⟩ := hs
    exact False.elim q
end L2
namespace L2
open PySem PySem.Spec PyProof.Rows
/-! making closures -/
def Bm (mg : Str → Option Value) (base : Heap) : Prop := ∃ bm ob, mg "__builtins__" = some (.ref bm) ∧ bm ≠ builtinsNs ∧ bm ≠ mainGlobals ∧ base.get? bm = some ob ∧ ob.cls = .type "module" ∧ ob.dict = some builtinsNs ∧ ob.data = .plain
section
variable {X : Cx} {pins : List (Addr × Obj)} {σ : St} {H : Hp} {s : Shared}
theorem Inv.madeF {P c' : Addr} {ps more : Array Value} {h' : Heap} {tk : Nat} {fd : FuncData} {qual : Str} (I : Inv X pins σ H s) (hP : H P = some (.tbl ps)) (hx : Heap.ExtBut P s.heap h') (hge : s.heap.objs.size ≤ c') (hlt : c' < h'.objs.size) (hrec : h'.CodeRec (.ref c') qual) (htb : h'.get? P = some (PySem.W.tabObj (ps ++ more))) :
    Inv X pins σ (upd (upd (upd H P (.tbl (ps ++ more))) c' (CdO c' qual)) h'.objs.size (FnO h'.objs.size fd)) { s with heap := h'.push { cls := .type "function", data := .func fd }, toks := tk } := by
  have hPl : P < s.heap.objs.size := I.hok.lt hP
  have hcf : s.heap.objs.size ≤ h'.objs.size := Nat.le_trans hge (Nat.le_of_lt hlt)
  have hlc : ∀ {b : Addr}, b < s.heap.objs.size → b ≠ c' ∧ b ≠ h'.objs.size := fun e => ⟨Nat.ne_of_lt (Nat.lt_of_lt_of_le e hge), Nat.ne_of_lt (Nat.lt_of_lt_of_le e hcf)⟩
  have hHc : ∀ {b : Addr} {o : HO}, H b = some o → b ≠ c' ∧ b ≠ h'.objs.size := fun e => hlc (I.hok.lt e)
  have push : ∀ b o, h'.get? b = some o → (h'.push { cls := .type "function", data := .func fd }).get? b = some o := fun b o e => Heap.get?_push_of_some _ e
  have hget : ∀ {b : Addr}, b ≠ P → b ≠ c' → b ≠ h'.objs.size → (upd (upd (upd H P (.tbl (ps ++ more))) c' (CdO c' qual)) h'.objs.size (FnO h'.objs.size fd)) b = H b := fun h1 h2 h3 => by rw [upd_ne h3, upd_ne h2, upd_ne h1]
  have atP : (upd (upd (upd H P (.tbl (ps ++ more))) c' (CdO c' qual)) h'.objs.size (FnO h'.objs.size fd)) P = some (.tbl (ps ++ more)) := by rw [upd_ne (hlc hPl).2, upd_ne (hlc hPl).1, upd_same]
  refine I.un ⟨fun b o e n _ _ => push b o (hx b o (fun z => by rw [z, hP] at n; cases n) e), fun b o e n _ _ => ⟨o.slots, push b o (hx b o (fun z => by rw [z, hP] at n; cases n) e)⟩, fun b o e n _ => ?_, fun b o e _ => ?_, fun b xs e => ?_, fun b o u e => ?_, fun b qs e => ?_⟩ fun b o e => ?_
  · have := Heap.lt_size e
    rw [hget (fun z => by rw [z, hP] at n; cases n) (hlc this).1 (hlc this).2]; exact n
  · by_cases hb : b = P
    · subst hb; exact ⟨_, push _ _ htb⟩
    · exact ⟨o, push b o (hx b o hb e)⟩
  · rw [hget (ne_of e hP (by intro z; cases z)) (hHc e).1 (hHc e).2]; exact e
  · rw [hget (ne_of e hP (by intro z; cases z)) (hHc e).1 (hHc e).2]; exact e
  · by_cases hb : b = P
    · subst hb
      rw [hP] at e; cases e
      exact ⟨more, atP⟩
    · exact ⟨#[], by rw [hget hb (hHc e).1 (hHc e).2, e]; simp⟩
  · by_cases h3 : b = h'.objs.size
    · subst h3
      rw [upd_same] at e; cases e
      exact fnO_mk (Heap.get?_push_size _ rfl)
    · by_cases h2 : b = c'
      · subst h2
        rw [upd_ne h3, upd_same] at e; cases e
        exact cdO_mk (hrec.push _)
      · by_cases h1 : b = P
        · subst h1
          rw [atP] at e; cases e
          exact push _ _ htb
        · rw [hget h1 h2 h3] at e
          refine (I.hok b o e).stay (fun c u hc q => push c u (hx c u ?_ q)) (fun c q => ?_) fun c xs q => ?_
          · rcases hc with rfl | hc
            · exact h1
            · exact ne_of hc hP (by intro z; cases z)
          · rw [hget (ne_of q hP (by intro z; cases z)) (hHc q).1 (hHc q).2]; exact q
          · rw [hget (ne_of q hP (by intro z; cases z)) (hHc q).1 (hHc q).2]; exact q
end
/-- a function is made: its code for the first time, or again -/
def Made (P : Addr) (pos : Pos) (q : Str) (mk : Addr → FuncData → Prop) (H : Hp) (Q : VK) : Prop := ∃ ps, H P = some (.tbl ps) ∧ TriplesOk ps.toList ∧
  ((codeAmong pos ps.toList = none ∧ ∀ f c fd, H f = none → H c = none → f ≠ c → mk c fd → Q (.ref f) (upd (upd (upd H P (.tbl (ps ++ #[rawInt pos.line, rawInt pos.col, .ref c]))) c (CdO c q)) f (FnO f fd))) ∨
   ∃ c, codeAmong pos ps.toList = some (.ref c) ∧ ∀ f fd, H f = none → mk c fd → Q (.ref f) (upd H f (FnO f fd)))
section
variable {X : Cx} {c P : Addr} {name qual : Str} {params : Arguments} {body : List Stmt} {eb : Expr} {scope : Scope} {clos : List (Str × Addr)} {pos : Pos} {ln : Nat}
abbrev FnMk (name qual : Str) (params : Arguments) (body : List Stmt) (scope : Scope) (clos : List (Str × Addr)) (c : Addr) (fd : FuncData) : Prop := ∃ doc pm ctv, fd = PySem.W.fnX name qual params body scope clos .none .none doc pm none (.ref c) ctv
abbrev LamMk (qual : Str) (params : Arguments) (body : Expr) (scope : Scope) (clos : List (Str × Addr)) (c : Addr) (fd : FuncData) : Prop := ∃ pm ctv, fd = PySem.W.kla_fn "<lambda>" qual params body scope clos pm (.ref c) ctv
theorem tab_facts {pins : List (Addr × Obj)} {σ : St} {H : Hp} {s : Shared} {ps : Array Value} (I : Inv X pins σ H s) (bm : Bm X.mg X.base) (hP : H P = some (.tbl ps)) : mainGlobals ≠ P ∧ s.heap.BuiltinsAt X.mg P := by
  refine ⟨fun z => ?_, ?_⟩
  · obtain ⟨o, es, ep, e, _⟩ := I.mod.glob
    have := (I.bs _ _ e).2
    rw [z, hP] at this; cases this
  · obtain ⟨b, ob, h1, h2, h3, h4, h5⟩ := bm
    refine ⟨b, ob, h1, h2, h3, fun z => ?_, (I.bs _ _ h4).1, h5⟩
    have := (I.bs _ _ h4).2
    rw [z, hP] at this; cases this
theorem mk_fn {pins : List (Addr × Obj)} {σ : St} {H : Hp} {s : Shared} {Q : VK} (bm : Bm X.mg X.base) (C : PySem.W.CodeHd X.base c P) (hcode : X.env.code = .ref c) (hcl : closureFor scope X.env = pure clos) (I : Inv X pins σ H s) (h : Made P pos qual (FnMk name qual params body scope clos) H Q) :
    wpAny (model X.prog X.w) X.A (makeFunction name qual params (.stmts body) scope X.env [] [] [] pos ln) (EP X pins σ Q) X.xe s := by
  obtain ⟨ps, hP, ht, h⟩ := h
  obtain ⟨hgP, hb⟩ := tab_facts I bm hP
  have hPo : s.heap.get? P = some (PySem.W.tabObj ps) := I.hok P _ hP
  rcases h with ⟨hnf, h⟩ | ⟨c', hf, h⟩
  · refine PySem.W.makeFunction_K (mg := X.mg) hcl I.ok.glob (I.mod.glob.keeps I.bk) hcode (C.keeps I.bk) hPo ht hnf hgP hb fun c' ctv doc h' tk hx hge hlt hrec htb => ?_
    refine ⟨.ref h'.objs.size, _, I.madeF hP hx hge hlt hrec htb, rfl, h _ _ _ (I.hok.fresh (Nat.le_trans hge (Nat.le_of_lt hlt))) (I.hok.fresh hge) (Nat.ne_of_gt hlt) ⟨_, _, _, rfl⟩⟩
  · refine PySem.W.makeFunction_hit (mg := X.mg) hcl I.ok.glob (I.mod.glob.keeps I.bk) hcode (C.keeps I.bk) hPo ht hf hb fun ctv doc h' tk hk hsz => ?_
    exact ⟨.ref h'.objs.size, _, I.laid (fun b o e => Heap.get?_push_of_some _ (hk b o e)) hsz (fnO_mk (Heap.get?_push_size _ rfl)), rfl, h _ _ (I.hok.fresh hsz) ⟨_, _, _, rfl⟩⟩
theorem mk_lam {pins : List (Addr × Obj)} {σ : St} {H : Hp} {s : Shared} {Q : VK} (bm : Bm X.mg X.base) (C : PySem.W.CodeHd X.base c P) (hcode : X.env.code = .ref c) (hcl : closureFor scope X.env = pure clos) (I : Inv X pins σ H s) (h : Made P pos qual (LamMk qual params eb scope clos) H Q) :
    wpAny (model X.prog X.w) X.A (makeFunction "<lambda>" qual params (.expr eb) scope X.env [] [] [] pos ln) (EP X pins σ Q) X.xe s := by
  obtain ⟨ps, hP, ht, h⟩ := h
  obtain ⟨hgP, hb⟩ := tab_facts I bm hP
  have hPo : s.heap.get? P = some (PySem.W.tabObj ps) := I.hok P _ hP
  rcases h with ⟨hnf, h⟩ | ⟨c', hf, h⟩
  · refine PySem.W.kla_makeFunction (mg := X.mg) hcl I.ok.glob (I.mod.glob.keeps I.bk) hcode (C.keeps I.bk) hPo ht hnf hgP hb fun c' ctv h' tk hx hge hlt hrec htb => ?_
    refine ⟨.ref h'.objs.size, _, I.madeF hP hx hge hlt hrec htb, rfl, h _ _ _ (I.hok.fresh (Nat.le_trans hge (Nat.le_of_lt hlt))) (I.hok.fresh hge) (Nat.ne_of_gt hlt) ⟨_, _, rfl⟩⟩
  · refine PySem.W.kla_makeFunctionHit (mg := X.mg) hcl I.ok.glob (I.mod.glob.keeps I.bk) hcode (C.keeps I.bk) hPo ht hf hb fun ctv h' tk hk hsz => ?_
    exact ⟨.ref h'.objs.size, _, I.laid (fun b o e => Heap.get?_push_of_some _ (hk b o e)) hsz (fnO_mk (Heap.get?_push_size _ rfl)), rfl, h _ _ (I.hok.fresh hsz) ⟨_, _, rfl⟩⟩
/-- def name(..): within a body -/
def tDef (i : Nat) (P : Addr) (pos : Pos) (q : Str) (mk : Addr → FuncData → Prop) : TS := fun D σ H => Made P pos q mk H fun v H' => D.nx (σ.set i (some v)) H'
theorem ps_def (i : Nat) (bm : Bm X.mg X.base) (C : PySem.W.CodeHd X.base c P) (hcode : X.env.code = .ref c) (hcl : closureFor scope X.env = pure clos) (hN : X.N.Nodup) (hi : X.N[i]? = some name) (hx : Loc X.env.scope name) (hq : qualnameIn X.env name name = qual)
    (hd0 : params.defaults = []) (hk0 : params.kw_defaults = []) (ha : annTrees params none X.env = []) (hf : X.fn name = true ∨ X.env.scope.names.lookup name = some .local) :
    PS X (.FunctionDef name params body [] none [] scope none name pos) (tDef i P pos qual (FnMk name qual params body scope clos)) := by
  intro pins s σ H D I h
  refine PySem.W.nestDef_K hd0 hk0 ha ?_
  rw [hq]
  refine thn (mk_fn bm C hcode hcl I h) fun v s1 ⟨x, H1, I1, r, q⟩ => ?_
  exact store_ok I1 hN hi hx r (fun s2 I2 => ⟨_, H1, I2, q⟩) hf
/-- lambda ..: -/
def tLam (P : Addr) (pos : Pos) (q : Str) (mk : Addr → FuncData → Prop) : TE := fun _ H Q => Made P pos q mk H Q
theorem pe_lam (bm : Bm X.mg X.base) (C : PySem.W.CodeHd X.base c P) (hcode : X.env.code = .ref c) (hcl : closureFor scope X.env = pure clos) (hq : X.env.qual ++ "<lambda>" = qual) (hdef : defaultsOf params X.env = ([], [])) :
    PE X (.Lambda params eb scope pos) (tLam P pos qual (LamMk qual params eb scope clos)) := by
  intro pins s σ H Q I h
  refine PySem.W.kla_eval hdef ?_
  rw [hq]
  exact mk_lam bm C hcode hcl I h
end
/-! leaving a body: its cells stay, and are seen -/
def lay (H : Hp) : Caps → Hp
  | [] => H
  | p :: l => upd (lay H l) p.2.1 (CellO p.2.1 p.2.2)
theorem lay_out {H : Hp} {b : Addr} : ∀ {l : Caps}, b ∉ l.as → lay H l b = H b
  | [], _ => rfl
  | p :: l, h => by
    have h1 : b ≠ p.2.1 := fun z => h (by rw [z]; exact .head _)
    rw [lay, upd_ne h1]
    exact lay_out fun z => h (.tail _ z)
theorem lay_in {H : Hp} : ∀ {l : Caps}, l.as.Nodup → l.In (lay H l)
  | [], _ => fun p hp => by cases hp
  | q :: l, nd => fun p hp => by
    have nd' := List.nodup_cons.mp nd
    rcases List.mem_cons.mp hp with rfl | hp
    · exact upd_same
    · have hne : p.2.1 ≠ q.2.1 := fun z => nd'.1 (by
        have : p.2.1 ∈ Caps.as l := List.mem_map_of_mem (f := fun p : Str × Addr × V => p.2.1) hp
        rw [z] at this
        exact this)
      rw [lay, upd_ne hne]
      exact lay_in nd'.2 p hp
/-- the state's cells -/
def CellsOf (X : Cx) (σ : St) (l : Caps) : Prop := l.as.Nodup ∧ ∀ p ∈ l, ∃ i : Nat, X.N[i]? = some p.1 ∧ σ[i]? = some (some p.2.2) ∧ X.env.kindOf p.1 = some .cell ∧ X.env.cells.lookup p.1 = some p.2.1
theorem cells_hok {X : Cx} {pins : List (Addr × Obj)} {σ : St} {H : Hp} {s : Shared} (I : Inv X pins σ H s) : ∀ {l : Caps}, CellsOf X σ l → HOk X.prog X.w (lay H l) s.heap
  | [], _ => I.hok
  | p :: l, h => by
    have nd' := List.nodup_cons.mp h.1
    have ih := cells_hok I (l := l) ⟨nd'.2, fun q hq => h.2 q (.tail _ hq)⟩
    obtain ⟨i, h1, h2, h3, h4⟩ := h.2 p (.head _)
    obtain ⟨m, hn, hl⟩ := I.loc
    obtain ⟨u, r, lk⟩ := hl i p.1 p.2.2 h1 h2 (.inr (.inl h3))
    rcases lk with ⟨k, _⟩ | ⟨_, c, hc, hcell⟩
    · rw [h3] at k; cases k
    · rw [h4] at hc
      cases hc
      refine ih.track ?_ (cellO_mk r hcell)
      rw [lay_out nd'.1]
      exact I.freeC p.1 p.2.1 h4
/-- a body that returns, with the state at the end -/
def PR (X : Cx) (b : List Stmt) (t : (St → V → Hp → Prop) → St → Hp → Prop) : Prop := ∀ (pins : List (Addr × Obj)) (s : Shared) (σ : St) (H : Hp) (R : St → V → Hp → Prop), Inv X pins σ H s → t R σ H →
  wpAny (model X.prog X.w) X.A (execs b X.env) (fun fl s' => ∃ u, fl = .ret u ∧ ∃ v σ' H', Inv X pins σ' H' s' ∧ RelV v u ∧ R σ' v H') X.xe s
section
variable {X : Cx} {st : Stmt} {rest : List Stmt} {t : TS} {u : (St → V → Hp → Prop) → St → Hp → Prop} {e : Expr} {te : TE} {pos : Pos}
def rRet (te : TE) : (St → V → Hp → Prop) → St → Hp → Prop := fun R σ H => te σ H fun v H' => R σ v H'
theorem pr_ret (he : PE X e te) : PR X [.Return (some e) pos] (rRet te) := by
  intro pins s σ H R I h
  refine wpAny_execs_cons (wpAny_Return_some (thn (he pins s σ H _ I h) fun v s1 ⟨x, H1, I1, r1, q1⟩ => ⟨v, rfl, x, σ, H1, I1, r1, q1⟩))
def rSeq (t : TS) (u : (St → V → Hp → Prop) → St → Hp → Prop) : (St → V → Hp → Prop) → St → Hp → Prop := fun R σ H => t { nx := u R, rt := fun _ _ => False } σ H
theorem pr_cons (h1 : PS X st t) (h2 : PR X rest u) : PR X (st :: rest) (rSeq t u) := by
  intro pins s σ H R I h
  refine wpAny_execs_cons (thn (h1 pins s σ H _ I h) fun f s1 q => ?_)
  cases f with
  | next =>
    obtain ⟨σ', H', I', q⟩ := q
    exact h2 pins s1 σ' H' R I' q
  | ret v => obtain ⟨_, _, _, _, _, q⟩ := q; exact q.elim
  | brk => obtain ⟨_, _, _, q⟩ := q; exact q.elim
  | cont => obtain ⟨_, _, _, q⟩ := q; exact q.elim
end
/-- a def whose cells are seen behind it -/
theorem Fun.okC {P : Program} {w : World} {K : PySem.W.Frag} {mg : Str → Option Value} {base : Heap} {x qual : Str} {st : Stmt} {f : Addr} {fd : FuncData} {N ps : List Str} {k : Nat} {sp : Sp} (F : Fun K x qual st f fd) (S : FnScope N ps (defScope st)) (len : ∀ vs H Q E, sp vs H Q E → vs.length = ps.length)
    (hbody : ∀ (cdv : Value) (A : Around) (outer : List Env) (s : Shared) (H : Hp) (vs : List V) (Q : VK) (E : XK), fd.code = cdv → Room k (A.deeper (envOfC qual (defScope st) s.heap.objs.size f cdv)) → sp vs H Q E →
      ∃ t, PR (cxOf CX0 P w K mg base N qual (defScope st) f cdv A outer s H E).nox (defBody st) t ∧
        t (fun σ v H' => ∃ l, CellsOf (cxOf CX0 P w K mg base N qual (defScope st) f cdv A outer s H E).nox σ l ∧ ((∀ c ∈ l.as, H' c = none) → Q v (lay H' l))) (start N vs) H) : FnOk P w K mg base CX0 (k + 1) f fd ps sp := by
  obtain ⟨oc, od, kV, doc, pm, an, cdv, ct, osl, rfl, lk, hcd⟩ := F.ex
  refine ⟨len, fun A outer s H args us vs Q E hr e0 hb r hsp => ?_⟩
  have hl := len _ _ _ _ hsp
  have KX : K.In s.heap := e0.mod.kin.keeps fun b o e => (e0.bs b o e).1
  have lim : s.heap.NoLimit := e0.mod.nolimit.keeps fun b o e => (e0.bs b o e).1
  have hkind : ∀ y ∈ ps.zip us, (defScope st).names.lookup y.1 = some .local ∨ ((defScope st).names.lookup y.1 = some .cell ∧ ((cellsFrom (s.heap.objs.size + 1) (defScope st).names []).lookup y.1).isSome = true) := fun ⟨n, v⟩ hy => by
    rcases S.par n (List.of_mem_zip hy).1 with q | q
    · exact .inl q
    · exact .inr ⟨q, PySem.W.cellsFrom_some _ _ _ (.inl q)⟩
  refine codeAny_call_function hr.depth (KX _ _ lk) rfl S.co S.gen rfl (PySem.W.codeRec_of KX hcd) (hb _ _ _ _ ?_)
  refine wpAny_newFunctionEnv_cells S.kind hkind fun env he s1 xx => ?_
  subst he
  refine ⟨lim.keeps xx.toInCall.keep, codeAny_func ?_⟩
  obtain ⟨t, ht, hq⟩ := hbody cdv A outer s H vs Q E rfl (hr.deeper _) hsp
  have I : Inv (cxOf CX0 P w K mg base N qual (defScope st) f cdv A outer s H E).nox [] (start N vs) H s1 := (inv_start (CX := CX0) (E := E) S hr.hd e0 hl r xx).wish _
  refine wpAny_mono (ht [] s1 (start N vs) H _ I hq) (fun fl s' hs => ?_) fun e s' hs => hs.elim
  obtain ⟨u, rfl, v, σ', H', J, rv, l, hc, q⟩ := hs
  have un := J.base
  have hab : ∀ b ∈ l.as, s.heap.objs.size ≤ b := fun b hb => by
    obtain ⟨p, hp, rfl⟩ := cap_mem hb
    obtain ⟨i, h1, h2, h3, h4⟩ := hc.2 p hp
    exact J.ok.cab p.1 p.2.1 rfl h4
  have hno : ∀ b ∈ l.as, H' b = none := fun b hb => by
    obtain ⟨p, hp, rfl⟩ := cap_mem hb
    obtain ⟨i, h1, h2, h3, h4⟩ := hc.2 p hp
    exact J.freeC p.1 p.2.1 h4
  have keep : ∀ {b : Addr} {o : HO}, H' b = some o → lay H' l b = some o := fun {b o} e => by
    rw [lay_out fun hb => ?_]
    · exact e
    · rw [hno b hb] at e; cases e
  refine ⟨v, lay H' l, J.os, J.bare, ⟨un.keep, un.slot, fun b o e n hx => ?_, un.there, fun b xs e => keep (un.tups b xs e), fun b o u e => keep (un.frzs b o u e), fun b qs e => ?_⟩, cells_hok J hc, rv, q hno⟩
  · rw [lay_out fun hb => ?_]
    · exact un.free b o e n hx
    · have h1 := hab b hb
      have h2 := Heap.lt_size (show s.heap.get? b = some o from e)
      exact absurd (Nat.lt_of_lt_of_le h2 h1) (Nat.lt_irrefl _)
  · obtain ⟨more, e'⟩ := un.tbls b qs e
    exact ⟨more, keep e'⟩
end L2
namespace L2
open PySem PySem.Spec PyProof.Rows
/-! a call of a closure that a name holds -/
def tCallC (g : Gx) (k i : Nat) (t : TA) : TE := fun σ H Q => ∃ f fd ps sp, σ[i]? = some (some (.ref f)) ∧ FnOk g.P g.w g.K g.mg g.base CX0 k f fd ps sp ∧ (∀ us : List Value, us.length = ps.length → bindArgs fd ⟨us, []⟩ = pure (ps.zip us)) ∧ H f = some (FnO f fd) ∧ t σ H fun vs H1 => H1 f = some (FnO f fd) ∧ sp vs H1 Q E0
section
variable {X : Cx} {g : Gx} {k j i : Nat} {x : Str} {p pos : Pos} {e : Expr} {es : List Expr} {t : TA}
theorem fnAt_of {pins : List (Addr × Obj)} {σ : St} {H : Hp} {s : Shared} {f : Addr} {fd : FuncData} (I : Inv X pins σ H s) (h : H f = some (FnO f fd)) : PySem.W.FnAt f s.heap := ⟨_, _, _, _, (I.hok _ _ h).1⟩
theorem pe_callC (i : Nat) (hr : Room k X.A) (ha : PA X (e :: es) t) (hj : j ≤ k := by omega) (hX : X.gx = g := by rfl) (hN : X.N[i]? = some x := by rfl) (hv : Vis X.env.scope x := by first | exact Or.inl rfl | exact Or.inr (Or.inl rfl) | exact Or.inr (Or.inr rfl)) (hdb : (x == ("__debug__" : Str)) = false := by decide)
    (hcd : (x == ("__classdict__" : Str)) = false := by decide) (he : starEach (e :: es) X.env = (false, eval e X.env) :: starEach es X.env := by rfl) (hpl : (backTo pos (starEach es X.env)).any (·.1) = false := by rfl) : PE X (.Call (.Name x p) (e :: es) [] pos) (tCallC g j i t) := by
  subst hX
  intro pins s σ H Q I h
  obtain ⟨f, fd, ps, sp, hσ, F, b, hf, ht⟩ := h
  refine wpAny_Call_Name_kw (thn (pe_var hN hv hdb hcd pins s σ H (fun v H1 => v = .ref f ∧ H1 f = some (FnO f fd) ∧ t σ H1 fun vs H1 => H1 f = some (FnO f fd) ∧ sp vs H1 Q E0) I ⟨.ref f, hσ, rfl, hf, ht⟩) fun u s1 ⟨v, H1, I1, r, e, hf1, ht⟩ => ?_)
  subst e
  obtain rfl : u = Value.ref f := r
  refine PySem.W.callWith_F (fnAt_of I1 hf1) (thn (ha pos pins s1 σ H1 _ I1 ht) fun us s2 ⟨vs, H2, I2, r2, hf2, q⟩ => ⟨fnAt_of I2 hf2, ?_⟩) he hpl
  exact run_fn F (hr.mono hj) (.all b) .nil pass0 I2 r2 (by rw [List.append_nil]; exact q)
theorem pe_callC0 (i : Nat) (hr : Room k X.A) (hj : j ≤ k := by omega) (hX : X.gx = g := by rfl) (hN : X.N[i]? = some x := by rfl) (hv : Vis X.env.scope x := by first | exact Or.inl rfl | exact Or.inr (Or.inl rfl) | exact Or.inr (Or.inr rfl)) (hdb : (x == ("__debug__" : Str)) = false := by decide)
    (hcd : (x == ("__classdict__" : Str)) = false := by decide) : PE X (.Call (.Name x p) [] [] pos) (tCallC g j i tNil) := by
  subst hX
  intro pins s σ H Q I h
  obtain ⟨f, fd, ps, sp, hσ, F, b, hf, ht⟩ := h
  have ht : H f = some (FnO f fd) ∧ sp [] H Q E0 := ht
  refine wpAny_Call_Name_kw (thn (pe_var hN hv hdb hcd pins s σ H (fun v H1 => v = .ref f ∧ H1 f = some (FnO f fd) ∧ sp [] H1 Q E0) I ⟨.ref f, hσ, rfl, hf, ht.2⟩) fun u s1 ⟨v, H1, I1, r, e, hf1, ht⟩ => ?_)
  subst e
  obtain rfl : u = Value.ref f := r
  refine PySem.W.callWith_F0 (fnAt_of I1 hf1) ?_
  exact run_fn F (hr.mono hj) (.all b) .nil pass0 I1 .nil (by rw [List.append_nil]; exact ht)
end
/-! the law's entry, with the tables of the defs that make functions -/
abbrev Tbs := List (Str × Addr × Addr)
theorem law_callT {P : Program} {w : World} {K : PySem.W.Frag} {mg mb : Str → Option Value} {CX : CXT} {k : Nat} {fa a : Addr} {fd : FuncData} {x : Str} {sp : Sp} {s₁ : Shared} {vs : List Value} {ns : List Int} (tabs : Tbs)
    (KX : K.In s₁.heap) (hns : s₁.heap.Ns mainGlobals mg) (hb : s₁.heap.Ns builtinsNs mb) (hbb : ∀ x : Str, x ≠ "__name__" → mb x = bootBuiltins x) (hlim : s₁.heap.NoLimit) (hg : s₁.gens = #[])
    (ha : s₁.heap.get? a = some { cls := .type "list", data := .seq vs.toArray }) (hi : IntsAre vs ns) (hl : ns.length ≤ sizeLine) (hr : Room k callerA)
    (hT : ∀ q ∈ tabs, PySem.W.CodeHd s₁.heap q.2.1 q.2.2 ∧ s₁.heap.get? q.2.2 = some (PySem.W.tabObj #[])) (hK : ∀ q ∈ tabs, K.lookup q.2.2 = none)
    (bmn : ∃ bm ob, mg "__builtins__" = some (.ref bm) ∧ bm ≠ builtinsNs ∧ s₁.heap.get? bm = some ob ∧ ob.cls = .type "module" ∧ ob.dict = some builtinsNs ∧ ob.data = .plain)
    (F : ∀ base : Heap, K.In base → base.Ns mainGlobals mg → Bm mg base → (∀ q ∈ tabs, PySem.W.CodeHd base q.2.1 q.2.2) → FnOk P w K mg base CX k fa fd [x] sp) (hbind : ∀ (s : Shared) (u : Value), BindsTo s fd ⟨[u], []⟩ [(x, u)])
    (hsp : ∀ H : Hp, (∀ q ∈ tabs, H q.2.2 = some (.tbl #[])) → SqL K H a (ns.map V.int) → sp [.ref a] H (fun v _ => v = .bl true) fun _ _ _ => False)
    (hCX : ∀ H e s', CX [] H s₁ (fun _ _ _ => False) e s' → False) :
    codeAny (model P w) callerA (.call (.ref fa) ⟨[.ref a], []⟩) (fun r s' => r = .ok (.ret (.bool true)) ∧ OldK s₁.heap s'.heap ∧ s'.os = s₁.os ∧ AllBare s'.gens) s₁ := by
  have rv := vals_ints hi
  have lenV := hi.length
  have tobj : ∀ b ∈ tabs.map (·.2.2), s₁.heap.get? b = some (PySem.W.tabObj #[]) := fun b hb => by
    obtain ⟨q, hq, rfl⟩ := List.mem_map.mp hb
    exact (hT q hq).2
  have aT : a ∉ tabs.map (·.2.2) := fun hb => by
    have := tobj a hb
    rw [ha] at this
    cases this
  have core : ∀ H : Hp, (∀ b, H b = none ∨ (∃ o xs, H b = some (.frz o (.lst xs))) ∨ (b ∈ tabs.map (·.2.2) ∧ H b = some (.tbl #[]))) → SqL K H a (ns.map V.int) → HOk P w H s₁.heap → (∀ b, H b ≠ none → b = a ∨ b ∈ tabs.map (·.2.2)) → (H a ≠ none → K.lookup a = none) → (∀ q ∈ tabs, H q.2.2 = some (.tbl #[])) →
      codeAny (model P w) callerA (.call (.ref fa) ⟨[.ref a], []⟩) (fun r s' => r = .ok (.ret (.bool true)) ∧ OldK s₁.heap s'.heap ∧ s'.os = s₁.os ∧ AllBare s'.gens) s₁ := by
    intro H hO hS hok hA hKa hTb
    have base_of : ∀ {b : Addr} {o : Obj}, s₁.heap.get? b = some o → H b = none → (hidT s₁.heap H).get? b = some o := fun e n => hidT_get e n
    have noC : ∀ {b : Addr} {o : Obj}, s₁.heap.get? b = some o → o.cls ≠ .type "list" → o ≠ PySem.W.tabObj #[] → H b = none := fun {b o} e d1 d2 => by
      cases q : H b with
      | none => rfl
      | some u =>
        rcases hA b (by rw [q]; simp) with e' | e'
        · subst e'
          rw [ha] at e; cases e
          exact absurd rfl d1
        · rw [tobj b e'] at e
          exact absurd (Option.some.inj e).symm d2
    have noA : ∀ {b : Addr} {o : Obj} {es : Array DictEntry} {ep : Nat}, s₁.heap.get? b = some o → o.data = .dict es ep → H b = none := fun {b o es ep} e d => by
      cases q : H b with
      | none => rfl
      | some u =>
        rcases hA b (by rw [q]; simp) with e' | e'
        · subst e'
          rw [ha] at e; cases e
          have d' : Data.seq vs.toArray _ = Data.dict es ep := d
          cases d'
        · rw [tobj b e'] at e
          cases e
          have d' : Data.fields #[] = Data.dict es ep := d
          cases d'
    have nsK : ∀ {b : Addr} {m : Str → Option Value}, s₁.heap.Ns b m → (hidT s₁.heap H).Ns b m := fun {b m} ⟨o, es, ep, e, d, r⟩ => ⟨o, es, ep, base_of e (noA e d), d, r⟩
    have hKb : K.In (hidT s₁.heap H) := fun b o e => base_of (KX b o e) (by
      cases q : H b with
      | none => rfl
      | some u =>
        rcases hA b (by rw [q]; simp) with e' | e'
        · subst e'
          rw [hKa (by rw [q]; simp)] at e; cases e
        · obtain ⟨z, hz, rfl⟩ := List.mem_map.mp e'
          rw [hK z hz] at e; cases e)
    have hM : Mod K mg (hidT s₁.heap H) := ⟨hKb, nsK hns, ⟨mb, nsK hb, hbb⟩, let ⟨mc, h1, h2⟩ := hlim; ⟨mc, nsK h1, h2⟩⟩
    have e0 : Env0 P w K mg (hidT s₁.heap H) callerA [] s₁ H := ⟨rfl, hM, fun b o e => of_hidT e, Nat.le_of_eq (hidT_size _ _), trivial, fun b hb => absurd (show b ∈ ([] : List Addr) from hb) (by simp), hok, .of_eq hg⟩
    have hBm : Bm mg (hidT s₁.heap H) := by
      obtain ⟨bm, ob, b1, b2, b3, b4, b5, b6⟩ := bmn
      refine ⟨bm, ob, b1, b2, fun z => ?_, base_of b3 (noC b3 (by rw [b4]; decide) fun z => by rw [z] at b4; cases b4), b4, b5, b6⟩
      obtain ⟨o, es, ep, e, d, _⟩ := hns
      rw [z, e] at b3; cases b3
      rw [d] at b6; cases b6
    have hCd : ∀ q ∈ tabs, PySem.W.CodeHd (hidT s₁.heap H) q.2.1 q.2.2 := fun q hq => by
      obtain ⟨o, vs', file, tf, flags, tg, inF, text, tt, e1, e2, r⟩ := (hT q hq).1
      exact ⟨o, vs', file, tf, flags, tg, inF, text, tt, base_of e1 (noC e1 (by rw [e2]; decide) fun z => by rw [z] at e2; cases e2), e2, r⟩
    refine codeAny_mono ((F _ hKb (nsK hns) hBm hCd).run callerA [] s₁ H ⟨[.ref a], []⟩ [.ref a] [.ref a] _ _ hr e0 (hbind s₁ (.ref a)) (.cons rfl .nil) (hsp H hTb hS)) fun r s' h => ?_
    cases r with
    | error e => exact (hCX H e s' h).elim
    | ok fl =>
      cases fl with
      | next => exact False.elim h
      | brk => exact False.elim h
      | cont => exact False.elim h
      | ret u =>
        obtain ⟨v, H', os, bare, un, hok', r', q⟩ := h
        have q' : v = .bl true := q
        subst q'
        obtain rfl : u = Value.bool true := r'
        have each : ∀ b o, s₁.heap.get? b = some o → s'.heap.get? b = some o ∨ ((∃ z ∈ tabs, z.2.2 = b) ∧ o = PySem.W.tabObj #[] ∧ ∃ ps, s'.heap.get? b = some (PySem.W.tabObj ps)) := fun b o e => by
          rcases hO b with q | ⟨ob, xs, z⟩ | ⟨z1, z2⟩
          · exact .inl (un.keep b o e q (by intro z; exact absurd (show b ∈ ([] : List Addr) from z) (by simp)) (by simp))
          · have z2 := un.frzs b ob _ z
            obtain ⟨e1, _⟩ := hok b _ z
            obtain ⟨e2, _⟩ := hok' b _ z2
            rw [e] at e1; cases e1
            exact .inl e2
          · obtain ⟨q, hq, e3⟩ := List.mem_map.mp z1
            obtain ⟨more, e4⟩ := un.tbls b _ z2
            have e5 : s'.heap.get? b = some (PySem.W.tabObj (#[] ++ more)) := hok' b _ e4
            rw [tobj b z1] at e
            exact .inr ⟨⟨q, hq, e3⟩, (Option.some.inj e).symm, _, e5⟩
        refine ⟨rfl, ⟨fun b o e => ?_, fun b o e => ?_⟩, os, bare⟩
        · rcases each b o e with h | ⟨⟨z, hz, rfl⟩, rfl, ps, h⟩
          · exact .inl h
          · exact .inr (.inl ⟨((hT z hz).1.tab (hT z hz).2).isCodeTable, rfl, #[], ps, rfl, by rw [Array.empty_append]; exact h⟩)
        · rcases each b o e with h | ⟨_, _, ps, h⟩
          · exact ⟨o, h⟩
          · exact ⟨_, h⟩
  have tbIn : ∀ q ∈ tabs, q.2.2 ∈ tabs.map (·.2.2) := fun q hq => List.mem_map_of_mem hq
  have tbOk : ∀ {H : Hp} {b : Addr}, b ∈ tabs.map (·.2.2) → ObjOk P w H s₁.heap b (.tbl #[]) := fun hb => tobj _ hb
  cases hk : K.lookup a with
  | some o =>
    have e := KX a o hk
    rw [ha] at e
    cases e
    refine core (fun b => if b ∈ tabs.map (·.2.2) then some (.tbl #[]) else none) (fun b => ?_) (.inr ⟨_, vs.toArray, _, hk, rfl, rfl, rfl, by rw [List.size_toArray, lenV]; exact hl, by simpa using rv⟩) (fun b u z => ?_) (fun b z => ?_) (fun z => absurd (if_neg aT) z) fun q hq => if_pos (tbIn q hq)
    · by_cases hb : b ∈ tabs.map (·.2.2)
      · exact .inr (.inr ⟨hb, if_pos hb⟩)
      · exact .inl (if_neg hb)
    · by_cases hb : b ∈ tabs.map (·.2.2)
      · have z' := (if_pos hb).symm.trans z
        cases z'
        exact tbOk hb
      · have z' := (if_neg hb).symm.trans z
        cases z'
    · by_cases hb : b ∈ tabs.map (·.2.2)
      · exact .inr hb
      · exact absurd (if_neg hb) z
  | none =>
    refine core (fun b => if b ∈ tabs.map (·.2.2) then some (.tbl #[]) else if b = a then some (.frz { cls := .type "list", data := .seq vs.toArray } (.lst (ns.map V.int))) else none) (fun b => ?_) (.inl (.inr ⟨{ cls := .type "list", data := .seq vs.toArray }, (if_neg aT).trans (if_pos rfl)⟩)) (fun b u z => ?_) (fun b z => ?_) (fun _ => hk) fun q hq => if_pos (tbIn q hq)
    · by_cases hb : b ∈ tabs.map (·.2.2)
      · exact .inr (.inr ⟨hb, if_pos hb⟩)
      · by_cases hb2 : b = a
        · exact .inr (.inl ⟨_, _, (if_neg hb).trans (if_pos hb2)⟩)
        · exact .inl ((if_neg hb).trans (if_neg hb2))
    · by_cases hb : b ∈ tabs.map (·.2.2)
      · have z' := (if_pos hb).symm.trans z
        cases z'
        exact tbOk hb
      · have z1 := (if_neg hb).symm.trans z
        by_cases hb2 : b = a
        · have z' := (if_pos hb2).symm.trans z1
          cases z'
          subst hb2
          exact ⟨ha, by rw [List.length_map]; exact hl, vs, _, rv, ha⟩
        · have z' := (if_neg hb2).symm.trans z1
          cases z'
    · by_cases hb : b ∈ tabs.map (·.2.2)
      · exact .inr hb
      · by_cases hb2 : b = a
        · exact .inl hb2
        · exact absurd ((if_neg hb).trans (if_neg hb2)) z
/-- what the law is asked for, the tables at hand -/
def spTrueT (K : PySem.W.Frag) (tabs : Tbs) : Sp := fun vs H Q _ => ∃ (a : Addr) (ns : List Int), vs = [.ref a] ∧ SqL K H a (ns.map V.int) ∧ ns.length ≤ 63 ∧ (∀ q ∈ tabs, H q.2.2 = some (.tbl #[])) ∧ ∀ H', Q (.bl true) H'
theorem walk_gxT {l : PySem.W.OpenLaw} {q : Program} {loose : List Str} {XP : (Str → Option Value) → Heap → Prop} {YP : World → Heap → Prop} {d : DefRec} {K : Params → PySem.W.Frag} (tabs : Tbs) (k : Nat) (x : Str) (st : Stmt) (N : List Str) (hn : l.most = some 63) (hdf : d.params.defaults = []) (hk : Room (k + 1) callerA) (S : FnScope N [x] (defScope st))
    (hY : ∀ (w : World) (h : Heap), YP w h → (K w.params).In h)
    (hrec : ∀ p ∈ tabs, ∃ d', (recsOf q).find? (fun e => e.name == p.1) = some d')
    (htab : ∀ (w : World), ∀ p ∈ tabs, PySem.W.tabIn (K w.params) p.1 = some p.2)
    (hno : ∀ (w : World), ∀ p ∈ tabs, (K w.params).lookup p.2.2 = none)
    (F : ∀ (w : World) (mg : Str → Option Value) (h : Heap), (K w.params).In h → h.Ns mainGlobals mg → LawRaw (K w.params) mg st x d.name ∧ ∀ base, Bm mg base → (∀ p ∈ tabs, PySem.W.CodeHd base p.2.1 p.2.2) → Body (Gx.mk l.prog w (K w.params) mg base) k N d.name st (spTrueT (K w.params) tabs)) :
    PySem.W.WalkO q loose XP YP l.row.toRowW d [] (fun f vs => PySem.call f vs) := by
  refine Att.attach_call hn hdf fun w s₀ s₁ mg mb fa o pm cd doc a vs ns G Y ho hd hcd hmg hobj hints hlen hg => ?_
  have KX := hY w _ Y
  obtain ⟨⟨f, fd, Fu, hb, hm⟩, B⟩ := F w mg _ KX G.T.g
  have e := hmg.symm.trans hm
  cases e
  refine law_callT (CX := CX0) (sp := spTrueT (K w.params) tabs) tabs KX G.T.g G.T.b G.T.builtins G.T.nolimit hg hobj hints (Nat.le_trans hlen (by decide)) hk (fun p hp => ?_) (hno w) G.T.bmain
    (fun base _ _ hB hC => Fu.ok S (fun vs H Q E h => by obtain ⟨a, ns, rfl, _⟩ := h; rfl) fun cdv A outer s H vs Q E hr h => B base hB hC fa cdv A outer s H vs Q E hr h) hb (fun H hT hS => ⟨a, ns, rfl, hS, hlen, hT, fun _ => rfl⟩) fun H e s' z => z
  obtain ⟨d', hd'⟩ := hrec p hp
  exact PySem.W.tab_of G.T KX hd' (htab w p hp)
/-! defs that make functions -/
def inDef (s : Stmt) (j : Nat) : Stmt := (defBody s).getD j (.Pass ⟨0, 0, 0, 0⟩)
def Gx.RawT (g : Gx) (x qual : Str) (st : Stmt) (ps : List Str) (c : Addr) : Prop := ∃ f fd, Fun g.K x qual st f fd ∧ Binds g.K fd ps [] ∧ g.mg x = some (.ref f) ∧ fd.code = .ref c
theorem Gx.RawT.fnC {g : Gx} {k : Nat} {x qual : Str} {st : Stmt} {N ps : List Str} {c : Addr} {sp : Sp} (R : g.RawT x qual st ps c) (S : FnScope N ps (defScope st)) (len : ∀ vs H Q E, sp vs H Q E → vs.length = ps.length)
    (b : ∀ (f : Addr) (A : Around) (outer : List Env) (s : Shared) (H : Hp) (vs : List V) (Q : VK) (E : XK), Room k (g.cx N qual st f (.ref c) A outer s H E).A → sp vs H Q E →
      ∃ t, PR (g.cx N qual st f (.ref c) A outer s H E) (defBody st) t ∧ t (fun σ v H' => ∃ l, CellsOf (g.cx N qual st f (.ref c) A outer s H E) σ l ∧ ((∀ c ∈ l.as, H' c = none) → Q v (lay H' l))) (start N vs) H) : g.Fn (k + 1) x ps sp := by
  obtain ⟨f, fd, F, bd, hm, hc⟩ := R
  refine ⟨f, fd, F.okC S len fun cdv A outer s H vs Q E e hr h => ?_, bd, F.kp, hm⟩
  have e' : cdv = .ref c := e.symm.trans hc
  subst e'
  exact b f A outer s H vs Q E hr h
theorem rawT_mk {K : PySem.W.Frag} {h : Heap} {mg : Str → Option Value} {f : Addr} {x : Str} {st : Stmt} {c : Addr} {oc kV dc pm cd ct : Value} {od an : Option Addr} {sl : Array (Option Value)} (X : K.In h) (G : h.Ns mainGlobals mg) (ps : List Str)
    (a : PySem.W.nsIn K mainGlobals x = some (some (.ref f))) (l : K.lookup f = some ⟨oc, od, .func (PySem.W.fnOf x x (defArgs st) (defBody st) (defScope st) .none kV dc pm an cd ct), sl⟩) (cc : PySem.W.codeIn K cd x = true) (k : PySem.W.keepIn K (.ref f) = true) (e : cd = .ref c)
    (b : ∀ (kV doc pm : Value) (an : Option Addr) (cdv ct : Value) (us : List Value), us.length = ps.length → bindArgs (PySem.W.fnOf x x (defArgs st) (defBody st) (defScope st) .none kV doc pm an cdv ct) ⟨us, []⟩ = pure (ps.zip us)) :
    ∀ P w base, (Gx.mk P w K mg base).RawT x x st ps c := fun P w base =>
  have F := fun_mk (st := st) l cc k
  ⟨f, _, F, F.binds b, PySem.W.mg_of X G a, e⟩
end L2
namespace HT
open PySem PySem.Spec PyProof.Rows
variable {prog : Program} {w : World} {A : Around} {E : Value → Shared → Prop} {s : Shared}
end HT
namespace L2
open PySem PySem.Spec PyProof.Rows
/-- t[lo:hi] that is the whole of t: t itself -/
def rSlTA (K : PySem.W.Frag) : V → Option Int → Option Int → Hp → VK → Prop := fun x lo hi H Q => ∃ a xs, x = .ref a ∧ SqT K H a xs ∧ (HT.sIx xs.length 0 lo = 0 ∧ HT.sIx xs.length xs.length hi = xs.length) ∧ Q (.ref a) H
/-- either way -/
def rSlT2 (K : PySem.W.Frag) : V → Option Int → Option Int → Hp → VK → Prop := fun x lo hi H Q => ∃ a xs, x = .ref a ∧ SqT K H a xs ∧ (∀ p, H p = none → Q (.ref p) (upd H p (.tup (cutV xs lo hi)))) ∧ (cutV xs lo hi = xs → Q (.ref a) H)
end L2
namespace L2
open PySem PySem.Spec PyProof.Rows
section
variable {tb : TS} {D : Ends} {σ : St} {H : Hp}
theorem tFor_zipTN {K : PySem.W.Frag} {ta : TA} (i j : Nat) {xs ys : List V} (Pv : Addr → Addr → Nat → St → Hp → Prop) (ha : ∀ R : List V → Hp → Prop, (∀ a b H1, Pv a b 0 σ H1 → R [.ref a, .ref b] H1) → ta σ H R)
    (hl : ∀ a b n σ H, n ≤ min xs.length ys.length → Pv a b n σ H → SqT K H a xs ∧ SqT K H b ys)
    (hs : ∀ a b (n : Nat) x y σ H T, xs[n]? = some x → ys[n]? = some y → Pv a b n σ H → H T = none → tb { D with nx := Pv a b (n + 1), ct := Pv a b (n + 1), bk := D.nx } ((σ.set i (some x)).set j (some y)) (upd H T (.tup [x, y])))
    (hd : ∀ a b σ H, Pv a b (min xs.length ys.length) σ H → D.nx σ H) : tFor (iZipT K ta) (gTup K 2 (gCons (gName i) (gCons (gName j) gNil))) tb D σ H := by
  refine ha _ fun a b H1 h0 => ?_
  obtain ⟨s1, s2⟩ := hl a b 0 σ H1 (Nat.zero_le _) h0
  refine ⟨a, b, xs, ys, rfl, s1, s2, ?_⟩
  refine ⟨fun n m σ H => m = min xs.length ys.length - n ∧ n ≤ min xs.length ys.length ∧ Pv a b n σ H, ⟨min xs.length ys.length, by simp, Nat.zero_le _, h0⟩, ?_⟩
  rintro n m σ H ⟨rfl, hn, p⟩
  obtain ⟨g1, g2⟩ := hl a b n σ H hn p
  by_cases hlt : n < min xs.length ys.length
  · have hx : xs[n]? = some (xs[n]'(by omega)) := List.getElem?_eq_getElem _
    have hy : ys[n]? = some (ys[n]'(by omega)) := List.getElem?_eq_getElem _
    refine .inr ⟨⟨xs, ys, _, _, g1, g2, hx, hy⟩, Pv a b (n + 1), fun σ' H' p' => ⟨min xs.length ys.length - (n + 1), by omega, rfl, hlt, p'⟩, ?_⟩
    rintro v H' ⟨T, rfl, hT, heq⟩
    have e := heq xs ys _ _ g1 g2 hx hy
    subst e
    exact ⟨T, _, rfl, SqT.of upd_same, rfl, _, _, rfl, _, _, rfl, rfl, hs a b n _ _ σ H T hx hy p hT⟩
  · have e : n = min xs.length ys.length := by omega
    subst e
    refine .inl ⟨⟨xs, ys, g1, g2, ?_⟩, hd a b σ H p⟩
    omega
/-- zip of two lists or of two tuples -/
theorem tFor_zipU {K : PySem.W.Frag} {ta : TA} (b : Bool) (i j : Nat) {xs ys : List V} (Pv : Addr → Addr → Nat → St → Hp → Prop) (ha : ∀ R : List V → Hp → Prop, (∀ a b H1, Pv a b 0 σ H1 → R [.ref a, .ref b] H1) → ta σ H R)
    (hl : ∀ a c n σ H, n ≤ min xs.length ys.length → Pv a c n σ H → (if b = true then SqL K H a xs else SqT K H a xs) ∧ (if b = true then SqL K H c ys else SqT K H c ys))
    (hs : ∀ a b (n : Nat) x y σ H T, xs[n]? = some x → ys[n]? = some y → Pv a b n σ H → H T = none → tb { D with nx := Pv a b (n + 1), ct := Pv a b (n + 1), bk := D.nx } ((σ.set i (some x)).set j (some y)) (upd H T (.tup [x, y])))
    (hd : ∀ a b σ H, Pv a b (min xs.length ys.length) σ H → D.nx σ H) : tFor (iOr (iZipL K ta) (iZipT K ta)) (gTup K 2 (gCons (gName i) (gCons (gName j) gNil))) tb D σ H := by
  cases b with
  | true => exact Or.inl (tFor_zipN (K := K) i j Pv ha (fun a c n σ H h1 h2 => by simpa using hl a c n σ H h1 h2) hs hd)
  | false => exact Or.inr (tFor_zipTN (K := K) i j Pv ha (fun a c n σ H h1 h2 => by simpa using hl a c n σ H h1 h2) hs hd)
end
section
variable {src : List (Option Nat)} {te : TE} {tt : TT} {σ : St} {H : Hp} {Q : VK}
theorem tLC_rangeF {ta : TA} {n : Nat} (p : Nat → Bool) (ha : ∀ R : List V → Hp → Prop, R [.int n] H → ta σ H R) (hlen : n ≤ 100000)
    (test : ∀ (i : Nat) H', i < n → Same H H' → ∀ R : Bool → Hp → Prop, (∀ H'', Same H' H'' → R (p i) H'') → tt (some (.int i) :: capSt src σ) H' R)
    (step : ∀ (i : Nat) H', i < n → p i = true → Same H H' → ∀ R : VK, (∀ H'', Same H' H'' → R (.int i) H'') → te (some (.int i) :: capSt src σ) H' R)
    (fin : ∀ D H', H D = none → Same H H' → H' D = some (.lst (((List.range n).filter p).map fun (i : Nat) => V.int (i : Int))) → Q (.ref D) H') : tLC (none :: src) (iRng1 ta) (gName 0) tt te σ H Q := by
  refine ha _ ⟨n, rfl, by omega, by omega, fun D hD => ?_⟩
  have hmem : ∀ x ∈ (List.range n).map (fun (i : Nat) => V.int (0 + (i : Int))), ∃ i : Nat, i < n ∧ x = V.int (i : Int) := fun x hx => by
    obtain ⟨i, hi, rfl⟩ := List.mem_map.mp hx
    exact ⟨i, List.mem_range.mp hi, by rw [Int.zero_add]⟩
  refine lc_filt (itseq_range (lo := 0) (n := n) (P := fun _ => True)) (fun v => match v with | .int i => p i.toNat | _ => false) id (fun _ _ => trivial) hD (by simpa using hlen) (fun x H' hx sm R r => ?_) (fun x H' hx hp sm R r => ?_) fun H' sm hd => fin D H' hD sm ?_
  · obtain ⟨i, hi, rfl⟩ := hmem x hx
    exact test i H' hi sm R (by simpa using r)
  · obtain ⟨i, hi, rfl⟩ := hmem x hx
    exact step i H' hi (by simpa using hp) sm R r
  · rw [hd, List.map_id, List.filter_map]
    congr 2
    rw [show ((fun v : V => match v with | .int i => p i.toNat | _ => false) ∘ fun (i : Nat) => V.int (0 + (i : Int))) = p by funext i; simp]
    exact List.map_congr_left fun i _ => by rw [Int.zero_add]
end
end L2
namespace L2
open PySem PySem.Spec PyProof.Rows
/-! the text of a lambda that a def returns -/
def retE (s : Stmt) : Expr := match s with
  | .Return (some e) _ => e
  | _ => .Constant .none 0 ⟨0, 0, 0, 0⟩
def lamArgs (e : Expr) : Arguments := match e with
  | .Lambda a _ _ _ => a
  | _ => { posonlyargs := [], args := [], vararg := none, kwonlyargs := [], kw_defaults := [], kwarg := none, defaults := [] }
def lamBody (e : Expr) : Expr := match e with
  | .Lambda _ b _ _ => b
  | e => e
def lamScope (e : Expr) : Scope := match e with
  | .Lambda _ _ sc _ => sc
  | _ => { kind := .function, names := [], isGenerator := false, isCoroutine := false }
/-- THE RULE for a lambda: its body -/
theorem lam_of {P : Program} {w : World} {K : PySem.W.Frag} {mg : Str → Option Value} {base : Heap} {k : Nat} {f c : Addr} {qual : Str} {params : Arguments} {body : Expr} {scope : Scope} {pm ctv : Value} {N ps : List Str} {l : Caps} {sp : List V → Hp → VK → Prop}
    (S : ClScope N ps (l.map (·.1)) scope) (hnd : l.as.Nodup) (len : ∀ vs H Q, sp vs H Q → vs.length = ps.length)
    (hbody : ∀ (A : Around) (outer : List Env) (s : Shared) (H : Hp) (vs : List V) (Q : VK), Room k (A.deeper (PySem.W.envX qual scope s.heap.objs.size f (.ref c) l.cl)) → sp vs H Q →
      ∃ t, PE (cxCl P w K mg base N qual scope f (.ref c) l.cl A outer s H) body t ∧ t (startC N vs l.vs) H Q) :
    FnOk P w K mg base CX0 (k + 1) f (PySem.W.kla_fn "<lambda>" qual params body scope l.cl pm (.ref c) ctv) ps
      (fun vs H Q _ => ClIn H f c (PySem.W.kla_fn "<lambda>" qual params body scope l.cl pm (.ref c) ctv) qual l ∧ sp vs (off H l.as) fun v H' => (∀ c ∈ l.as, H' c = none) → Q v (on H' H l.as)) := by
  refine ⟨fun vs H Q E h => len _ _ _ h.2, fun A outer s H args us vs Q E hr e0 hb r hsp => ?_⟩
  obtain ⟨⟨hf, hc, hin⟩, hsp⟩ := hsp
  have hl := len _ _ _ hsp
  have lim : s.heap.NoLimit := e0.mod.nolimit.keeps fun b o e => (e0.bs b o e).1
  have hfo := (e0.hok _ _ hf).1
  have hco : s.heap.CodeRec (.ref c) qual := (e0.hok _ _ hc).1
  refine PySem.W.kla_callFunE hr.depth hfo rfl S.co S.gen rfl hco (hb _ _ _ _ ?_)
  refine wpAny_newFunctionEnv S.nocell (fun y hy => S.par y.1 (List.of_mem_zip hy).1) (fun h₁ hns hsb => ?_) S.kind
  have hk₁ : ∀ b o, s.heap.get? b = some o → h₁.get? b = some o := fun b o e => hsb.extBut b o (Nat.ne_of_lt (Heap.lt_size e)) (Heap.get?_push_of_some _ e)
  refine ⟨lim.keeps hk₁, PySem.W.kla_codeExpr ?_⟩
  obtain ⟨t, ht, hq⟩ := hbody A outer s (off H l.as) vs _ (hr.deeper _) hsp
  have I := inv_startC (cd := .ref c) (qual := qual) (f := f) (tk := s.toks + (ps.zip us).length) S hnd hr.hd e0 hl r hin hns hk₁
  have lk := cap_lk (l := l) (by rw [← S.suf]; exact S.nd.sublist (List.drop_sublist _ _))
  refine wpAny_mono (ht [] _ _ _ _ I hq) (fun u s' hs => ?_) fun e s' hs => hs.elim
  obtain ⟨v, H', J, rv, q⟩ := hs
  exact ce_of e0 hin J lk rv q
end L2
set_option maxHeartbeats 8000000
namespace KW
open PySem L2

def top (i : Nat) : Stmt := PySem.Challenge.pw_countgen_k81_deeds_of_their_own.main.body.getD i (.Pass ⟨0, 0, 0, 0⟩)
abbrev s_copied : Stmt := top 1
theorem sc_copied : FnScope ["thing"] ["thing"] (defScope s_copied) := ⟨rfl, rfl, rfl, by decide +kernel, rfl, by decide +kernel, by decide +kernel⟩
abbrev s_is_whole_number : Stmt := top 3
theorem sc_is_whole_number : FnScope ["thing"] ["thing"] (defScope s_is_whole_number) := ⟨rfl, rfl, rfl, by decide +kernel, rfl, by decide +kernel, by decide +kernel⟩
abbrev s_same_each : Stmt := top 5
theorem sc_same_each : FnScope ["one", "other", "mine", "others"] ["one", "other"] (defScope s_same_each) := ⟨rfl, rfl, rfl, by decide +kernel, rfl, by decide +kernel, by decide +kernel⟩
abbrev s_same : Stmt := top 6
theorem sc_same : FnScope ["one", "other"] ["one", "other"] (defScope s_same) := ⟨rfl, rfl, rfl, by decide +kernel, rfl, by decide +kernel, by decide +kernel⟩
abbrev s_is_truth : Stmt := top 7
theorem sc_is_truth : FnScope ["thing"] ["thing"] (defScope s_is_truth) := ⟨rfl, rfl, rfl, by decide +kernel, rfl, by decide +kernel, by decide +kernel⟩
abbrev s_is_text : Stmt := top 8
theorem sc_is_text : FnScope ["thing"] ["thing"] (defScope s_is_text) := ⟨rfl, rfl, rfl, by decide +kernel, rfl, by decide +kernel, by decide +kernel⟩
abbrev s_is_list : Stmt := top 9
theorem sc_is_list : FnScope ["thing"] ["thing"] (defScope s_is_list) := ⟨rfl, rfl, rfl, by decide +kernel, rfl, by decide +kernel, by decide +kernel⟩
abbrev s_apart : Stmt := top 11
theorem sc_apart : FnScope ["begin", "done", "model_begin", "model_done", "deeds", "state", "model_state", "place", "deed", "pair", "model_pair"] ["begin", "done", "model_begin", "model_done", "deeds"] (defScope s_apart) := ⟨rfl, rfl, rfl, by decide +kernel, rfl, by decide +kernel, by decide +kernel⟩
abbrev s_deed_judge : Stmt := top 12
theorem sc_deed_judge : FnScope ["begin", "done", "model_begin", "model_done"] ["begin", "done", "model_begin", "model_done"] (defScope s_deed_judge) := ⟨rfl, rfl, rfl, by decide +kernel, rfl, by decide +kernel, by decide +kernel⟩
abbrev s_law_cell_at : Stmt := top 14
theorem sc_law_cell_at : FnScope ["_law_script", "_law_k"] ["_law_script", "_law_k"] (defScope s_law_cell_at) := ⟨rfl, rfl, rfl, by decide +kernel, rfl, by decide +kernel, by decide +kernel⟩
abbrev s_law_further : Stmt := top 15
theorem sc_law_further : FnScope ["_law_cell", "_law_many", "_law_most", "_law_number", "_law_found", "_law_k"] ["_law_cell", "_law_many", "_law_most"] (defScope s_law_further) := ⟨rfl, rfl, rfl, by decide +kernel, rfl, by decide +kernel, by decide +kernel⟩
abbrev s_law_whole : Stmt := top 16
theorem sc_law_whole : FnScope ["_law_found"] ["_law_found"] (defScope s_law_whole) := ⟨rfl, rfl, rfl, by decide +kernel, rfl, by decide +kernel, by decide +kernel⟩
abbrev s_law_lists : Stmt := top 17
theorem sc_law_lists : FnScope ["_law_value", "_law_found", "_law_thing_here"] ["_law_value"] (defScope s_law_lists) := ⟨rfl, rfl, rfl, by decide +kernel, rfl, by decide +kernel, by decide +kernel⟩
abbrev s_law_own : Stmt := top 18
abbrev s_law_copy : Stmt := top 19
theorem sc_law_copy : FnScope ["_law_value"] ["_law_value"] (defScope s_law_copy) := ⟨rfl, rfl, rfl, by decide +kernel, rfl, by decide +kernel, by decide +kernel⟩
abbrev s_law_deed : Stmt := top 20
theorem sc_law_deed : FnScope ["_law_cell", "_law_pair"] ["_law_cell"] (defScope s_law_deed) := ⟨rfl, rfl, rfl, by decide +kernel, rfl, by decide +kernel, by decide +kernel⟩
abbrev s_law_mark : Stmt := top 21
theorem sc_law_mark : FnScope ["_law_deed_here"] ["_law_deed_here"] (defScope s_law_mark) := ⟨rfl, rfl, rfl, by decide +kernel, rfl, by decide +kernel, by decide +kernel⟩
abbrev s_law_thing : Stmt := top 22
theorem sc_law_thing : FnScope ["_law_bad", "_law_begin", "_law_done"] ["_law_bad"] (defScope s_law_thing) := ⟨rfl, rfl, rfl, by decide +kernel, rfl, by decide +kernel, by decide +kernel⟩
abbrev s_law_still : Stmt := top 23
theorem sc_law_still : FnScope ["_law_begin", "_law_done"] [] (defScope s_law_still) := ⟨rfl, rfl, rfl, by decide +kernel, rfl, by decide +kernel, by decide +kernel⟩
abbrev s_law : Stmt := top 24
theorem sc_law : FnScope ["_law_script", "_law_bad", "_law_at", "_law_more", "_law_deeds", "_law_kept", "_law_places", "_law_one", "_law_other", "_law_still_here", "_law_found", "_law_judge", "_law_beside", "_law_some", "_law_told", "_law_due"] ["_law_script"] (defScope s_law) := ⟨rfl, rfl, rfl, by decide +kernel, rfl, by decide +kernel, by decide +kernel⟩
abbrev s_deed_judge_lam : Expr := retE (inDef s_deed_judge 0)
theorem sc_deed_judge_lam : ClScope ["deeds", "model_done", "model_begin", "done", "begin"] ["deeds"] ["model_done", "model_begin", "done", "begin"] (lamScope s_deed_judge_lam) := ⟨rfl, rfl, rfl, by decide +kernel, rfl, rfl, by decide, by decide +kernel, by decide +kernel, by decide +kernel, by decide +kernel⟩
abbrev q_deed_judge_lam : Str := "deed_judge.<locals>.<lambda>"
theorem qe_deed_judge_lam : ((("deed_judge" : Str) ++ (".<locals>." : Str)) ++ ("<lambda>" : Str)) = q_deed_judge_lam := by decide +kernel
abbrev fd_deed_judge_lam (cl : List (Str × Addr)) (c : Addr) (pm ctv : Value) : FuncData := PySem.W.kla_fn "<lambda>" q_deed_judge_lam (lamArgs s_deed_judge_lam) (lamBody s_deed_judge_lam) (lamScope s_deed_judge_lam) cl pm (.ref c) ctv
abbrev s_law_thing__law_begin : Stmt := inDef s_law_thing 0
theorem sc_law_thing__law_begin : ClScope [] [] [] (defScope s_law_thing__law_begin) := ⟨rfl, rfl, rfl, by decide +kernel, rfl, rfl, by decide, by decide +kernel, by decide +kernel, by decide +kernel, by decide +kernel⟩
abbrev q_law_thing__law_begin : Str := "_law_thing.<locals>._law_begin"
theorem qe_law_thing__law_begin : ((("_law_thing" : Str) ++ (".<locals>." : Str)) ++ ("_law_begin" : Str)) = q_law_thing__law_begin := by decide +kernel
abbrev fd_law_thing__law_begin (cl : List (Str × Addr)) (c : Addr) (doc pm ctv : Value) : FuncData := PySem.W.fnX "_law_begin" q_law_thing__law_begin (defArgs s_law_thing__law_begin) (defBody s_law_thing__law_begin) (defScope s_law_thing__law_begin) cl .none .none doc pm none (.ref c) ctv
abbrev s_law_thing__law_done : Stmt := inDef s_law_thing 1
theorem sc_law_thing__law_done : ClScope ["_law_state", "_law_deed_here", "_law_some", "_law_answer", "_law_one", "_law_bad"] ["_law_state", "_law_deed_here"] ["_law_bad"] (defScope s_law_thing__law_done) := ⟨rfl, rfl, rfl, by decide +kernel, rfl, rfl, by decide, by decide +kernel, by decide +kernel, by decide +kernel, by decide +kernel⟩
abbrev q_law_thing__law_done : Str := "_law_thing.<locals>._law_done"
theorem qe_law_thing__law_done : ((("_law_thing" : Str) ++ (".<locals>." : Str)) ++ ("_law_done" : Str)) = q_law_thing__law_done := by decide +kernel
abbrev fd_law_thing__law_done (cl : List (Str × Addr)) (c : Addr) (doc pm ctv : Value) : FuncData := PySem.W.fnX "_law_done" q_law_thing__law_done (defArgs s_law_thing__law_done) (defBody s_law_thing__law_done) (defScope s_law_thing__law_done) cl .none .none doc pm none (.ref c) ctv
abbrev s_law_still__law_begin : Stmt := inDef s_law_still 0
theorem sc_law_still__law_begin : ClScope [] [] [] (defScope s_law_still__law_begin) := ⟨rfl, rfl, rfl, by decide +kernel, rfl, rfl, by decide, by decide +kernel, by decide +kernel, by decide +kernel, by decide +kernel⟩
abbrev q_law_still__law_begin : Str := "_law_still.<locals>._law_begin"
theorem qe_law_still__law_begin : ((("_law_still" : Str) ++ (".<locals>." : Str)) ++ ("_law_begin" : Str)) = q_law_still__law_begin := by decide +kernel
abbrev fd_law_still__law_begin (cl : List (Str × Addr)) (c : Addr) (doc pm ctv : Value) : FuncData := PySem.W.fnX "_law_begin" q_law_still__law_begin (defArgs s_law_still__law_begin) (defBody s_law_still__law_begin) (defScope s_law_still__law_begin) cl .none .none doc pm none (.ref c) ctv
abbrev s_law_still__law_done : Stmt := inDef s_law_still 1
theorem sc_law_still__law_done : ClScope ["_law_state", "_law_deed_here"] ["_law_state", "_law_deed_here"] [] (defScope s_law_still__law_done) := ⟨rfl, rfl, rfl, by decide +kernel, rfl, rfl, by decide, by decide +kernel, by decide +kernel, by decide +kernel, by decide +kernel⟩
abbrev q_law_still__law_done : Str := "_law_still.<locals>._law_done"
theorem qe_law_still__law_done : ((("_law_still" : Str) ++ (".<locals>." : Str)) ++ ("_law_done" : Str)) = q_law_still__law_done := by decide +kernel
abbrev fd_law_still__law_done (cl : List (Str × Addr)) (c : Addr) (doc pm ctv : Value) : FuncData := PySem.W.fnX "_law_done" q_law_still__law_done (defArgs s_law_still__law_done) (defBody s_law_still__law_done) (defScope s_law_still__law_done) cl .none .none doc pm none (.ref c) ctv
variable {g : Gx}
local macro_rules | `(tactic| walk_at "gn") => `(tactic| simp only [gName, List.set_cons_zero, List.set_cons_succ])
local macro_rules | `(tactic| walk_at "rd") => `(tactic| simp (config := { failIfUnchanged := false, maxSteps := 10000000 }) only [L2.start, cxOf_K, nox_K, List.map_cons, List.map_nil, List.length_cons, List.length_nil, List.cons_append, List.nil_append, List.replicate_succ, List.replicate_zero, Nat.zero_add, Nat.reduceAdd, Nat.reduceSub, Nat.sub_self, tSeq, tIfS, tTest, tOp, tC, tVar, rI0, rI, rU, tUn, tRet, tRetN, tDrop, tNext, tBreak, tCont, tAsg, gName, gNil, gCons, tCons, tNil, tCB, tCall, tTry, tTryAs, tRaise, sFld, tFld, tMake, tMeth, Ends.gone, caught_K, tB, tAnd, tOr, tNot, tAndV, tOrV, tNotV, tIf, tChain, tNoPart, tPart, tSl, tNever, tAug, rIxL, rIxT, rSlL, tLst, tTup, gTup, tRev, tLZ, tConT, tDict0, tDNewT, tDGet, sDPut, rNotInD, rInD, tEither, tSlStep, rBits, rFind, rIn, tBM, tBM0, rAppend, rReverse, rEq, rNe, scal_ii, scal_ss, rCat, rSetL, gSub, ipI, capSt, List.getD_cons_zero, List.getD_cons_succ, decide_true, not_true_eq_false, not_false_eq_true,
  exists_eq_left', exists_eq_left, exists_eq', exists_eq, exists_and_left, and_assoc, Option.some.injEq, V.int.injEq, V.bl.injEq, V.ref.injEq, V.str.injEq, List.getElem?_cons_zero, List.getElem?_cons_succ, List.set_cons_zero, List.set_cons_succ, List.cons.injEq, and_true, true_and, List.append_nil, decide_eq_true_eq, Bool.not_eq_true', decide_eq_false_iff_not, Bool.not_not, Bool.not_true, Bool.not_false, Bool.true_eq_false, Bool.false_eq_true, if_true, if_false, ite_true, ite_false])
theorem cm {i j : Int} {m n : Nat} (h1 : i.natAbs < 2 ^ m) (h2 : j.natAbs < 2 ^ n) (h : m + n ≤ 100000000 := by decide) : CMulB i j := ⟨m, n, h1, h2, h⟩
theorem cpow {i j : Int} (h : 0 ≤ j ∧ j ≤ 1000000 ∧ i.natAbs < 2 ^ 64 := by decide) : CPow i j := h
theorem few {n : Nat} (h : n ≤ 100000) : n ≤ sizeLine := Nat.le_trans h (by decide)
/-! what the law reads of its script -/
def sp_law_whole : Sp := fun vs H Q _ => ∃ i : Int, vs = [.int i] ∧ Q (.bl true) H
def sp_law_cell_at (K : PySem.W.Frag) : Sp := fun vs H Q _ => ∃ (a : Addr) (ns : List Int) (k : Nat), vs = [.ref a, .int k] ∧ SqL K H a (ns.map V.int) ∧ ns.length ≤ 63 ∧ Q (.int (ns.getD k 0)) H
theorem getD_at {ns : List Int} {k : Nat} (h : k < ns.length) : atI (ns.map V.int) (k : Int) = some (.int (ns.getD k 0)) := atI_nat (by rw [List.getElem?_map, List.getElem?_eq_getElem h]; simp [h])
theorem ok_law_whole  {c_deed_judge P_deed_judge : Addr} {c_law_thing P_law_thing : Addr} {c_law_still P_law_still : Addr} (R : g.Raw "_law_whole" "_law_whole" s_law_whole ["_law_found"]) (b_bool : g.mg "bool" = none) (b_int : g.mg "int" = none) (b_isinstance : g.mg "isinstance" = none) : g.Fn (1) "_law_whole" ["_law_found"] (sp_law_whole) := by
  refine R.fn sc_law_whole (fun vs H Q E h => by obtain ⟨i, rfl, q⟩ := h; rfl) fun f_ cdv A outer s H vs Q E hr h => ?_
  obtain ⟨i, rfl, q⟩ := h
  refine ⟨_, (@pss_one _ _ _ (@ps_ret _ _ _ _ (@pe_and _ _ _ _ _ _ _ (@pe_bf _ _ _ _ _ _ _ _ _ _ b_isinstance call_isinst (@pa_cons _ _ _ _ _ (@pv _ 0 _ _ (by rfl) (by first | exact Or.inl rfl | exact Or.inr (Or.inl rfl) | exact Or.inr (Or.inr rfl)) (by decide) (by decide)) (@pa_cons _ _ _ _ _ (@pe_bn _ _ _ _ ("int") b_int (by decide +kernel) (by rfl) (by rfl) (by decide) (by decide)) pa_nil (by rfl)) (by rfl)) (by decide +kernel) (by rfl) (by rfl) (by decide) (by decide) (by rfl) (by rfl)) (@pe_one _ _ _ _ _ (@pe_not _ _ _ _ (@pe_bf _ _ _ _ _ _ _ _ _ _ b_isinstance call_isinst (@pa_cons _ _ _ _ _ (@pv _ 0 _ _ (by rfl) (by first | exact Or.inl rfl | exact Or.inr (Or.inl rfl) | exact Or.inr (Or.inr rfl)) (by decide) (by decide)) (@pa_cons _ _ _ _ _ (@pe_bn _ _ _ _ ("bool") b_bool (by decide +kernel) (by rfl) (by rfl) (by decide) (by decide)) pa_nil (by rfl)) (by rfl)) (by decide +kernel) (by rfl) (by rfl) (by decide) (by decide) (by rfl) (by rfl))))))), ?_⟩
  walk_at "rd"
  exact ⟨_, rfl, _, .int _, true, rfl, iteT ⟨_, rfl, _, .int _, false, rfl, q⟩⟩
theorem ok_law_cell_at  {c_deed_judge P_deed_judge : Addr} {c_law_thing P_law_thing : Addr} {c_law_still P_law_still : Addr} (R : g.Raw "_law_cell_at" "_law_cell_at" s_law_cell_at ["_law_script", "_law_k"]) (b_len : g.mg "len" = none) : g.Fn (1) "_law_cell_at" ["_law_script", "_law_k"] (sp_law_cell_at g.K) := by
  refine R.fn sc_law_cell_at (fun vs H Q E h => by obtain ⟨a, ns, k, rfl, hS, hl, q⟩ := h; rfl) fun f_ cdv A outer s H vs Q E hr h => ?_
  obtain ⟨a, ns, k, rfl, hS, hl, q⟩ := h
  refine ⟨_, (@pss_cons _ _ _ _ _ (@ps_if _ _ _ _ _ _ _ _ (@pt_cmpR _ _ _ _ _ _ _ _ op_lt (@pv _ 1 _ _ (by rfl) (by first | exact Or.inl rfl | exact Or.inr (Or.inl rfl) | exact Or.inr (Or.inr rfl)) (by decide) (by decide)) (@pe_bf _ _ _ _ _ _ _ _ _ _ b_len call_len_seq (@pa_cons _ _ _ _ _ (@pv _ 0 _ _ (by rfl) (by first | exact Or.inl rfl | exact Or.inr (Or.inl rfl) | exact Or.inr (Or.inr rfl)) (by decide) (by decide)) pa_nil (by rfl)) (by decide +kernel) (by rfl) (by rfl) (by decide) (by decide) (by rfl) (by rfl)) (nomark _)) (@pss_one _ _ _ (@ps_ret _ _ _ _ (@pe_ix _ _ _ _ _ _ _ ix_list (@pv _ 0 _ _ (by rfl) (by first | exact Or.inl rfl | exact Or.inr (Or.inl rfl) | exact Or.inr (Or.inr rfl)) (by decide) (by decide)) (@pv _ 1 _ _ (by rfl) (by first | exact Or.inl rfl | exact Or.inr (Or.inl rfl) | exact Or.inr (Or.inr rfl)) (by decide) (by decide)) (fun _ _ => rfl)))) pss_nil) (@pss_one _ _ _ (@ps_ret _ _ _ _ pe_int))), ?_⟩
  walk_at "rd"
  refine ⟨_, .inl hS, ?_⟩
  refine ite2 (fun c => ?_) (fun c => ?_)
  · have c' := c
    rw [List.length_map] at c'
    exact ⟨_, hS, _, getD_at (by omega), q⟩
  · have c' := c
    rw [List.length_map] at c'
    rw [show ns.getD k 0 = 0 by simp [show ns.length ≤ k by omega]] at q
    exact q
end KW
set_option maxHeartbeats 8000000
namespace KW
open PySem L2

variable {g : Gx}
variable {m : Nat}
variable {src : List (Option Nat)} {te : TE} {σ : St} {H : Hp} {Q : VK}
local macro_rules | `(tactic| walk_at "gn") => `(tactic| simp only [gName, List.set_cons_zero, List.set_cons_succ])

local macro_rules | `(tactic| walk_at "rd") => `(tactic| simp (config := { failIfUnchanged := false, maxSteps := 10000000 }) only [L2.start, cxOf_K, nox_K, List.map_cons, List.map_nil, List.length_cons, List.length_nil, List.cons_append, List.nil_append, List.replicate_succ, List.replicate_zero, Nat.zero_add, Nat.reduceAdd, Nat.reduceSub, Nat.sub_self, tSeq, tIfS, tTest, tOp, tC, tVar, rI0, rI, rU, tUn, tRet, tRetN, tDrop, tNext, tBreak, tCont, tAsg, gName, gNil, gCons, tCons, tNil, tCB, tCall, tTry, tTryAs, tRaise, sFld, tFld, tMake, tMeth, Ends.gone, caught_K, tB, tAnd, tOr, tNot, tAndV, tOrV, tNotV, tIf, tChain, tNoPart, tPart, tSl, tNever, tAug, rIxL, rIxT, rSlL, tLst, tTup, gTup, tRev, tLZ, tConT, tDict0, tDNewT, tDGet, sDPut, rNotInD, rInD, tEither, tSlStep, rBits, rFind, rIn, tBM, tBM0, rAppend, rReverse, rEq, rNe, scal_ii, scal_ss, rCat, rSetL, gSub, ipI, capSt, List.getD_cons_zero, List.getD_cons_succ, decide_true, not_true_eq_false, not_false_eq_true,
  exists_eq_left', exists_eq_left, exists_eq', exists_eq, exists_and_left, and_assoc, Option.some.injEq, V.int.injEq, V.bl.injEq, V.ref.injEq, V.str.injEq, List.getElem?_cons_zero, List.getElem?_cons_succ, List.set_cons_zero, List.set_cons_succ, List.cons.injEq, and_true, true_and, List.append_nil, decide_eq_true_eq, Bool.not_eq_true', decide_eq_false_iff_not, Bool.not_not, Bool.not_true, Bool.not_false, Bool.true_eq_false, Bool.false_eq_true, if_true, if_false, ite_true, ite_false])

mutual
/-- data, with the lists in it -/
inductive DL (H : Hp) : V → PyData → List Addr → Prop
  | non : DL H .non .none []
  | bl (b : Bool) : DL H (.bl b) (.bool b) []
  | int (i : Int) : DL H (.int i) (.int i) []
  | str (x : Str) (h : PyData.strOk x = true) : DL H (.str x) (.str x) []
  | lst {a : Addr} {vs : List V} {ds : List PyData} {L : List Addr} : H a = some (.lst vs) → vs.length ≤ 10 → DLs H vs ds L → DL H (.ref a) (.list ds) (a :: L)
  | tup {a : Addr} {vs : List V} {ds : List PyData} {L : List Addr} : H a = some (.tup vs) → vs.length ≤ 10 → DLs H vs ds L → DL H (.ref a) (.tuple ds) L
inductive DLs (H : Hp) : List V → List PyData → List Addr → Prop
  | nil : DLs H [] [] []
  | cons {v : V} {d : PyData} {L : List Addr} {vs : List V} {ds : List PyData} {L' : List Addr} : DL H v d L → DLs H vs ds L' → DLs H (v :: vs) (d :: ds) (L ++ L')
end
mutual
theorem DL.keepL {H H' : Hp} (t : Tps H H') : ∀ {v : V} {d : PyData} {L : List Addr}, DL H v d L → (∀ a ∈ L, ∀ vs, H a = some (.lst vs) → H' a = some (.lst vs)) → DL H' v d L
  | _, _, _, .non, _ => .non
  | _, _, _, .bl b, _ => .bl b
  | _, _, _, .int i, _ => .int i
  | _, _, _, .str x h, _ => .str x h
  | _, _, _, .lst h hn hs, e => .lst (e _ (.head _) _ h) hn (hs.keepL t fun a ha => e a (.tail _ ha))
  | _, _, _, .tup h hn hs, e => .tup (t _ _ h) hn (hs.keepL t e)
theorem DLs.keepL {H H' : Hp} (t : Tps H H') : ∀ {vs : List V} {ds : List PyData} {L : List Addr}, DLs H vs ds L → (∀ a ∈ L, ∀ vs, H a = some (.lst vs) → H' a = some (.lst vs)) → DLs H' vs ds L
  | _, _, _, .nil, _ => .nil
  | _, _, _, .cons h hs, e => .cons (h.keepL t fun a ha => e a (List.mem_append_left _ ha)) (hs.keepL t fun a ha => e a (List.mem_append_right _ ha))
end
theorem DL.keep {H H' : Hp} {v : V} {d : PyData} {L : List Addr} (h : DL H v d L) (s : Same H H') : DL H' v d L := h.keepL s.tps fun a _ vs e => s a _ e
theorem DLs.length {H : Hp} : ∀ {vs : List V} {ds : List PyData} {L : List Addr}, DLs H vs ds L → vs.length = ds.length
  | _, _, _, .nil => rfl
  | _, _, _, .cons _ hs => congrArg (· + 1) hs.length
theorem DLs.at {H : Hp} : ∀ {vs : List V} {ds : List PyData} {L : List Addr} {i : Nat} {v : V}, DLs H vs ds L → vs[i]? = some v → ∃ d M, ds[i]? = some d ∧ DL H v d M
  | _, _, _, 0, v, .cons h _, e => by
    have : _ = v := Option.some.inj e
    subst this
    exact ⟨_, _, rfl, h⟩
  | _, _, _, i + 1, v, .cons _ hs, e => by
    obtain ⟨d, M, h1, h2⟩ := hs.at (i := i) (v := v) (by simpa using e)
    exact ⟨d, M, by simpa using h1, h2⟩
def isB : PyData → Bool
  | .bool _ => true
  | _ => false
def isI : PyData → Bool
  | .int _ => true
  | _ => false
def isS : PyData → Bool
  | .str _ => true
  | _ => false
def isL : PyData → Bool
  | .list _ => true
  | _ => false
def isT : PyData → Bool
  | .tuple _ => true
  | _ => false
/-- the same, of one kind all through -/
noncomputable def sm (a b : PyData) : Bool := @decide (a = b) (Classical.propDecidable _)
theorem sm_eq {a b : PyData} : sm a b = true ↔ a = b := by unfold sm; exact @decide_eq_true_iff _ (Classical.propDecidable _)
theorem sm_refl (a : PyData) : sm a a = true := sm_eq.mpr rfl
theorem sm_ne {a b : PyData} (h : a ≠ b) : sm a b = false := by
  cases e : sm a b with
  | false => rfl
  | true => exact absurd (sm_eq.mp e) h
theorem sm_iff {a b : PyData} {c : Bool} (h : a = b ↔ c = true) : sm a b = c := by
  cases c with
  | true => exact sm_eq.mpr (h.mpr rfl)
  | false => exact sm_ne fun e => by have := h.mp e; cases this
def tn8 : PyData → String
  | .none => "NoneType"
  | .bool _ => "bool"
  | .int _ => "int"
  | .str _ => "str"
  | .list _ => "list"
  | .tuple _ => "tuple"
  | .dict _ => "dict"
theorem dl_ty {K : PySem.W.Frag} {H : Hp} {v : V} {d : PyData} {L : List Addr} (h : DL H v d L) : TyOf K H v (.type (tn8 d)) := by
  cases h with
  | non => exact .non
  | bl b => exact .bl b
  | int i => exact .int i
  | str x h => exact .str _
  | lst h => exact .lst h
  | tup h => exact .tup h
end KW
set_option maxHeartbeats 8000000
namespace KW
open PySem L2

variable {g : Gx}
variable {m : Nat}
variable {src : List (Option Nat)} {te : TE} {σ : St} {H : Hp} {Q : VK}
local macro_rules | `(tactic| walk_at "gn") => `(tactic| simp only [gName, List.set_cons_zero, List.set_cons_succ])

local macro_rules | `(tactic| walk_at "rd") => `(tactic| simp (config := { failIfUnchanged := false, maxSteps := 10000000 }) only [L2.start, cxOf_K, nox_K, List.map_cons, List.map_nil, List.length_cons, List.length_nil, List.cons_append, List.nil_append, List.replicate_succ, List.replicate_zero, Nat.zero_add, Nat.reduceAdd, Nat.reduceSub, Nat.sub_self, tSeq, tIfS, tTest, tOp, tC, tVar, rI0, rI, rU, tUn, tRet, tRetN, tDrop, tNext, tBreak, tCont, tAsg, gName, gNil, gCons, tCons, tNil, tCB, tCall, tTry, tTryAs, tRaise, sFld, tFld, tMake, tMeth, Ends.gone, caught_K, tB, tAnd, tOr, tNot, tAndV, tOrV, tNotV, tIf, tChain, tNoPart, tPart, tSl, tNever, tAug, rIxL, rIxT, rSlL, tLst, tTup, gTup, tRev, tLZ, tConT, tDict0, tDNewT, tDGet, sDPut, rNotInD, rInD, tEither, tSlStep, rBits, rFind, rIn, tBM, tBM0, rAppend, rReverse, rEq, rNe, scal_ii, scal_ss, rCat, rSetL, gSub, ipI, capSt, List.getD_cons_zero, List.getD_cons_succ, decide_true, not_true_eq_false, not_false_eq_true,
  exists_eq_left', exists_eq_left, exists_eq', exists_eq, exists_and_left, and_assoc, Option.some.injEq, V.int.injEq, V.bl.injEq, V.ref.injEq, V.str.injEq, List.getElem?_cons_zero, List.getElem?_cons_succ, List.set_cons_zero, List.set_cons_succ, List.cons.injEq, and_true, true_and, List.append_nil, decide_eq_true_eq, Bool.not_eq_true', decide_eq_false_iff_not, Bool.not_not, Bool.not_true, Bool.not_false, Bool.true_eq_false, Bool.false_eq_true, if_true, if_false, ite_true, ite_false])

def sp_is8 (f : PyData → Bool) : Sp := fun vs H Q _ => ∃ (v : V) (d : PyData) (L : List Addr), vs = [v] ∧ DL H v d L ∧ Q (.bl (f d)) H
theorem ok_is_whole_number  {c_deed_judge P_deed_judge : Addr} {c_law_thing P_law_thing : Addr} {c_law_still P_law_still : Addr} (R : g.Raw "is_whole_number" "is_whole_number" s_is_whole_number ["thing"]) (b_bool : g.mg "bool" = none) (b_int : g.mg "int" = none) (b_isinstance : g.mg "isinstance" = none) : g.Fn (1) "is_whole_number" ["thing"] (sp_is8 isI) := by
  refine R.fn sc_is_whole_number (fun vs H Q E h => by obtain ⟨v, d, L, rfl, hd, q⟩ := h; rfl) fun f_ cdv A outer s H vs Q E hr h => ?_
  obtain ⟨v, d, L, rfl, hd, q⟩ := h
  refine ⟨_, (@pss_one _ _ _ (@ps_ret _ _ _ _ (@pe_and _ _ _ _ _ _ _ (@pe_bf _ _ _ _ _ _ _ _ _ _ b_isinstance call_isinst (@pa_cons _ _ _ _ _ (@pv _ 0 _ _ (by rfl) (by first | exact Or.inl rfl | exact Or.inr (Or.inl rfl) | exact Or.inr (Or.inr rfl)) (by decide) (by decide)) (@pa_cons _ _ _ _ _ (@pe_bn _ _ _ _ ("int") b_int (by decide +kernel) (by rfl) (by rfl) (by decide) (by decide)) pa_nil (by rfl)) (by rfl)) (by decide +kernel) (by rfl) (by rfl) (by decide) (by decide) (by rfl) (by rfl)) (@pe_one _ _ _ _ _ (@pe_not _ _ _ _ (@pe_bf _ _ _ _ _ _ _ _ _ _ b_isinstance call_isinst (@pa_cons _ _ _ _ _ (@pv _ 0 _ _ (by rfl) (by first | exact Or.inl rfl | exact Or.inr (Or.inl rfl) | exact Or.inr (Or.inr rfl)) (by decide) (by decide)) (@pa_cons _ _ _ _ _ (@pe_bn _ _ _ _ ("bool") b_bool (by decide +kernel) (by rfl) (by rfl) (by decide) (by decide)) pa_nil (by rfl)) (by rfl)) (by decide +kernel) (by rfl) (by rfl) (by decide) (by decide) (by rfl) (by rfl))))))), ?_⟩
  walk_at "rd"
  have ty := dl_ty (K := g.K) hd
  cases hd with
  | bl b => exact ⟨_, rfl, _, ty, true, rfl, iteT ⟨_, rfl, _, ty, true, rfl, q⟩⟩
  | int i => exact ⟨_, rfl, _, ty, true, rfl, iteT ⟨_, rfl, _, ty, false, rfl, q⟩⟩
  | _ => exact ⟨_, rfl, _, ty, false, rfl, iteF q⟩
theorem ok_is_truth  {c_deed_judge P_deed_judge : Addr} {c_law_thing P_law_thing : Addr} {c_law_still P_law_still : Addr} (R : g.Raw "is_truth" "is_truth" s_is_truth ["thing"]) (b_bool : g.mg "bool" = none) (b_isinstance : g.mg "isinstance" = none) : g.Fn (1) "is_truth" ["thing"] (sp_is8 isB) := by
  refine R.fn sc_is_truth (fun vs H Q E h => by obtain ⟨v, d, L, rfl, hd, q⟩ := h; rfl) fun f_ cdv A outer s H vs Q E hr h => ?_
  obtain ⟨v, d, L, rfl, hd, q⟩ := h
  refine ⟨_, (@pss_one _ _ _ (@ps_ret _ _ _ _ (@pe_bf _ _ _ _ _ _ _ _ _ _ b_isinstance call_isinst (@pa_cons _ _ _ _ _ (@pv _ 0 _ _ (by rfl) (by first | exact Or.inl rfl | exact Or.inr (Or.inl rfl) | exact Or.inr (Or.inr rfl)) (by decide) (by decide)) (@pa_cons _ _ _ _ _ (@pe_bn _ _ _ _ ("bool") b_bool (by decide +kernel) (by rfl) (by rfl) (by decide) (by decide)) pa_nil (by rfl)) (by rfl)) (by decide +kernel) (by rfl) (by rfl) (by decide) (by decide) (by rfl) (by rfl)))), ?_⟩
  walk_at "rd"
  have ty := dl_ty (K := g.K) hd
  cases hd with
  | bl b => exact ⟨_, rfl, _, ty, true, rfl, q⟩
  | _ => exact ⟨_, rfl, _, ty, false, rfl, q⟩
theorem ok_is_text  {c_deed_judge P_deed_judge : Addr} {c_law_thing P_law_thing : Addr} {c_law_still P_law_still : Addr} (R : g.Raw "is_text" "is_text" s_is_text ["thing"]) (b_isinstance : g.mg "isinstance" = none) (b_str : g.mg "str" = none) : g.Fn (1) "is_text" ["thing"] (sp_is8 isS) := by
  refine R.fn sc_is_text (fun vs H Q E h => by obtain ⟨v, d, L, rfl, hd, q⟩ := h; rfl) fun f_ cdv A outer s H vs Q E hr h => ?_
  obtain ⟨v, d, L, rfl, hd, q⟩ := h
  refine ⟨_, (@pss_one _ _ _ (@ps_ret _ _ _ _ (@pe_bf _ _ _ _ _ _ _ _ _ _ b_isinstance call_isinst (@pa_cons _ _ _ _ _ (@pv _ 0 _ _ (by rfl) (by first | exact Or.inl rfl | exact Or.inr (Or.inl rfl) | exact Or.inr (Or.inr rfl)) (by decide) (by decide)) (@pa_cons _ _ _ _ _ (@pe_bn _ _ _ _ ("str") b_str (by decide +kernel) (by rfl) (by rfl) (by decide) (by decide)) pa_nil (by rfl)) (by rfl)) (by decide +kernel) (by rfl) (by rfl) (by decide) (by decide) (by rfl) (by rfl)))), ?_⟩
  walk_at "rd"
  have ty := dl_ty (K := g.K) hd
  cases hd with
  | str b => exact ⟨_, rfl, _, ty, true, rfl, q⟩
  | _ => exact ⟨_, rfl, _, ty, false, rfl, q⟩
theorem ok_is_list  {c_deed_judge P_deed_judge : Addr} {c_law_thing P_law_thing : Addr} {c_law_still P_law_still : Addr} (R : g.Raw "is_list" "is_list" s_is_list ["thing"]) (b_isinstance : g.mg "isinstance" = none) (b_list : g.mg "list" = none) : g.Fn (1) "is_list" ["thing"] (sp_is8 isL) := by
  refine R.fn sc_is_list (fun vs H Q E h => by obtain ⟨v, d, L, rfl, hd, q⟩ := h; rfl) fun f_ cdv A outer s H vs Q E hr h => ?_
  obtain ⟨v, d, L, rfl, hd, q⟩ := h
  refine ⟨_, (@pss_one _ _ _ (@ps_ret _ _ _ _ (@pe_bf _ _ _ _ _ _ _ _ _ _ b_isinstance call_isinst (@pa_cons _ _ _ _ _ (@pv _ 0 _ _ (by rfl) (by first | exact Or.inl rfl | exact Or.inr (Or.inl rfl) | exact Or.inr (Or.inr rfl)) (by decide) (by decide)) (@pa_cons _ _ _ _ _ (@pe_bn _ _ _ _ ("list") b_list (by decide +kernel) (by rfl) (by rfl) (by decide) (by decide)) pa_nil (by rfl)) (by rfl)) (by decide +kernel) (by rfl) (by rfl) (by decide) (by decide) (by rfl) (by rfl)))), ?_⟩
  walk_at "rd"
  have ty := dl_ty (K := g.K) hd
  cases hd with
  | lst b => exact ⟨_, rfl, _, ty, true, rfl, q⟩
  | _ => exact ⟨_, rfl, _, ty, false, rfl, q⟩
end KW
set_option maxHeartbeats 8000000
namespace KW
open PySem L2

variable {g : Gx}
variable {m : Nat}
variable {src : List (Option Nat)} {te : TE} {σ : St} {H : Hp} {Q : VK}
local macro_rules | `(tactic| walk_at "gn") => `(tactic| simp only [gName, List.set_cons_zero, List.set_cons_succ])

local macro_rules | `(tactic| walk_at "rd") => `(tactic| simp (config := { failIfUnchanged := false, maxSteps := 10000000 }) only [L2.start, cxOf_K, nox_K, List.map_cons, List.map_nil, List.length_cons, List.length_nil, List.cons_append, List.nil_append, List.replicate_succ, List.replicate_zero, Nat.zero_add, Nat.reduceAdd, Nat.reduceSub, Nat.sub_self, tSeq, tIfS, tTest, tOp, tC, tVar, rI0, rI, rU, tUn, tRet, tRetN, tDrop, tNext, tBreak, tCont, tAsg, gName, gNil, gCons, tCons, tNil, tCB, tCall, tTry, tTryAs, tRaise, sFld, tFld, tMake, tMeth, Ends.gone, caught_K, tB, tAnd, tOr, tNot, tAndV, tOrV, tNotV, tIf, tChain, tNoPart, tPart, tSl, tNever, tAug, rIxL, rIxT, rSlL, tLst, tTup, gTup, tRev, tLZ, tConT, tDict0, tDNewT, tDGet, sDPut, rNotInD, rInD, tEither, tSlStep, rBits, rFind, rIn, tBM, tBM0, rAppend, rReverse, rEq, rNe, scal_ii, scal_ss, rCat, rSetL, gSub, ipI, capSt, List.getD_cons_zero, List.getD_cons_succ, decide_true, not_true_eq_false, not_false_eq_true,
  exists_eq_left', exists_eq_left, exists_eq', exists_eq, exists_and_left, and_assoc, Option.some.injEq, V.int.injEq, V.bl.injEq, V.ref.injEq, V.str.injEq, List.getElem?_cons_zero, List.getElem?_cons_succ, List.set_cons_zero, List.set_cons_succ, List.cons.injEq, and_true, true_and, List.append_nil, decide_eq_true_eq, Bool.not_eq_true', decide_eq_false_iff_not, Bool.not_not, Bool.not_true, Bool.not_false, Bool.true_eq_false, Bool.false_eq_true, if_true, if_false, ite_true, ite_false])

/-- two rows of one kind -/
def Rw (H : Hp) (v : V) (ds : List PyData) (b : Bool) (a : Addr) (vs : List V) (L : List Addr) : Prop := v = .ref a ∧ H a = some (if b then .lst vs else .tup vs) ∧ vs.length ≤ 10 ∧ DLs H vs ds L
def sp_same_each (K : PySem.W.Frag) (m : Nat) : Sp := fun vs H Q _ => ∃ (v w : V) (ds es : List PyData) (b : Bool) (a a' : Addr) (us us' : List V) (L M : List Addr), vs = [v, w] ∧ Rw H v ds b a us L ∧ Rw H w es b a' us' M ∧ 2 * PyData.depthAll ds + 2 ≤ m ∧ ∀ H', Same H H' → Q (.bl (sm (.list ds) (.list es))) H'
def sp_same (K : PySem.W.Frag) (m : Nat) : Sp := fun vs H Q _ => ∃ (v w : V) (d e : PyData) (L M : List Addr), vs = [v, w] ∧ DL H v d L ∧ DL H w e M ∧ 2 * d.depth + 1 ≤ m ∧ ∀ H', Same H H' → Q (.bl (sm d e)) H'
theorem no_same_each {K : PySem.W.Frag} {vs : List V} {H : Hp} {Q : VK} {E : XK} (h : sp_same_each K 0 vs H Q E) : False := by
  obtain ⟨v, w, ds, es, b, a, a', us, us', L, M, _, _, _, h, _⟩ := h
  omega
theorem no_same {K : PySem.W.Frag} {vs : List V} {H : Hp} {Q : VK} {E : XK} (h : sp_same K 0 vs H Q E) : False := by
  obtain ⟨v, w, d, e, L, M, _, _, _, h, _⟩ := h
  omega
theorem mem_depth {d : PyData} : ∀ {ds : List PyData}, d ∈ ds → d.depth ≤ PyData.depthAll ds
  | e :: ds, h => by
    simp only [PyData.depthAll]
    rcases List.mem_cons.mp h with rfl | h
    · omega
    · have := mem_depth h
      omega
theorem ok_same_each {k : Nat}  {c_deed_judge P_deed_judge : Addr} {c_law_thing P_law_thing : Addr} {c_law_still P_law_still : Addr} (R : g.Raw "same_each" "same_each" s_same_each ["one", "other"]) (F_same : g.Fn k "same" ["one", "other"] (sp_same g.K m)) (b_len : g.mg "len" = none) (b_zip : g.mg "zip" = none) : g.Fn (k + 1) "same_each" ["one", "other"] (sp_same_each g.K (m + 1)) := by
  refine R.fn sc_same_each (fun vs H Q E h => by obtain ⟨v, w, ds, es, b, a, a', us, us', L, M, rfl, ⟨rfl, ha, hl, hd⟩, ⟨rfl, ha', hl', hd'⟩, hm, q⟩ := h; rfl) fun f_ cdv A outer s H vs Q E hr h => ?_
  obtain ⟨v, w, ds, es, b, a, a', us, us', L, M, rfl, ⟨rfl, ha, hl, hd⟩, ⟨rfl, ha', hl', hd'⟩, hm, q⟩ := h
  refine ⟨_, (@pss_cons _ _ _ _ _ (@ps_if _ _ _ _ _ _ _ _ (@pt_cmpR _ _ _ _ _ _ _ _ op_ne (@pe_bf _ _ _ _ _ _ _ _ _ _ b_len call_len_seq (@pa_cons _ _ _ _ _ (@pv _ 0 _ _ (by rfl) (by first | exact Or.inl rfl | exact Or.inr (Or.inl rfl) | exact Or.inr (Or.inr rfl)) (by decide) (by decide)) pa_nil (by rfl)) (by decide +kernel) (by rfl) (by rfl) (by decide) (by decide) (by rfl) (by rfl)) (@pe_bf _ _ _ _ _ _ _ _ _ _ b_len call_len_seq (@pa_cons _ _ _ _ _ (@pv _ 1 _ _ (by rfl) (by first | exact Or.inl rfl | exact Or.inr (Or.inl rfl) | exact Or.inr (Or.inr rfl)) (by decide) (by decide)) pa_nil (by rfl)) (by decide +kernel) (by rfl) (by rfl) (by decide) (by decide) (by rfl) (by rfl)) (nomark _)) (@pss_one _ _ _ (@ps_ret _ _ _ _ pe_bl)) pss_nil) (@pss_cons _ _ _ _ _ (@ps_for _ _ _ _ _ _ _ _ PassesOwn.never rfl (@pi_or _ _ _ _ _ (@pi_zipL _ _ _ _ _ _ _ _ _ rfl b_zip (@pa_cons _ _ _ _ _ (@pv _ 0 _ _ (by rfl) (by first | exact Or.inl rfl | exact Or.inr (Or.inl rfl) | exact Or.inr (Or.inr rfl)) (by decide) (by decide)) (@pa_cons _ _ _ _ _ (@pv _ 1 _ _ (by rfl) (by first | exact Or.inl rfl | exact Or.inr (Or.inl rfl) | exact Or.inr (Or.inr rfl)) (by decide) (by decide)) pa_nil (by rfl)) (by rfl)) (by rfl) (by rfl)) (@pi_zipT _ _ _ _ _ _ _ _ _ rfl b_zip (@pa_cons _ _ _ _ _ (@pv _ 0 _ _ (by rfl) (by first | exact Or.inl rfl | exact Or.inr (Or.inl rfl) | exact Or.inr (Or.inr rfl)) (by decide) (by decide)) (@pa_cons _ _ _ _ _ (@pv _ 1 _ _ (by rfl) (by first | exact Or.inl rfl | exact Or.inr (Or.inl rfl) | exact Or.inr (Or.inr rfl)) (by decide) (by decide)) pa_nil (by rfl)) (by rfl)) (by rfl) (by rfl))) (@pg_tup _ _ _ _ _ (2) rfl (@pgs_cons _ _ _ _ _ (@pg_name _ _ (2) _ sc_same_each.nd rfl (Or.inl rfl) (by first | exact .inl rfl | exact .inr rfl | assumption)) (@pgs_cons _ _ _ _ _ (@pg_name _ _ (3) _ sc_same_each.nd rfl (Or.inl rfl) (by first | exact .inl rfl | exact .inr rfl | assumption)) pgs_nil (by rfl)) (by rfl)) (by rfl) (by rfl)) (@pss_one _ _ _ (@ps_if _ _ _ _ _ _ _ _ (@pt_not _ _ _ _ (@pt_val _ _ _ (@pe_fn _ _ _ _ _ _ _ _ _ _ _ _ F_same hr (@pa_cons _ _ _ _ _ (@pv _ 2 _ _ (by rfl) (by first | exact Or.inl rfl | exact Or.inr (Or.inl rfl) | exact Or.inr (Or.inr rfl)) (by decide) (by decide)) (@pa_cons _ _ _ _ _ (@pv _ 3 _ _ (by rfl) (by first | exact Or.inl rfl | exact Or.inr (Or.inl rfl) | exact Or.inr (Or.inr rfl)) (by decide) (by decide)) pa_nil (by rfl)) (by rfl)) (by omega) (by rfl) (by rfl) (by decide) (by rfl) (by rfl)) (by intro _; rfl))) (@pss_one _ _ _ (@ps_ret _ _ _ _ pe_bl)) pss_nil)) (by intro _; rfl)) (@pss_one _ _ _ (@ps_ret _ _ _ _ pe_bl)))), ?_⟩
  have n1 := hd.length
  have n2 := hd'.length
  have key : ∀ {H' : Hp} {c : Addr} {vs : List V}, H' c = some (if b = true then .lst vs else .tup vs) → (if b = true then SqL g.K H' c vs else SqT g.K H' c vs) := fun {H' c vs} h => by
    cases b with
    | true => exact SqL.of (by simpa using h)
    | false => exact SqT.of (by simpa using h)
  have sq : ∀ {c : Addr} {vs : List V}, H c = some (if b = true then .lst vs else .tup vs) → SqL g.K H c vs ∨ SqT g.K H c vs := fun {c vs} h => by
    have := key h
    cases b with
    | true => exact .inl (by simpa using this)
    | false => exact .inr (by simpa using this)
  walk_at "rd"
  refine ⟨us, sq ha, us', sq ha', ite2 (fun c => ?_) (fun c => ?_)⟩
  · rw [sm_ne fun z => ?_] at q
    · exact q H (.refl _)
    · have e : ds = es := by injection z
      rw [e] at n1
      omega
  · have hll : us.length = us'.length := by omega
    refine tFor_zipU (K := g.K) b 2 3 (xs := us) (ys := us') (fun a1 a2 n σ H' => a1 = a ∧ a2 = a' ∧ (∃ o2 o3, σ = [some (.ref a), some (.ref a'), o2, o3]) ∧ Same H H' ∧ ∀ (j : Nat) d e, j < n → ds[j]? = some d → es[j]? = some e → d = e) (fun R r => by walk_at "rd"; exact r a a' H ⟨rfl, rfl, ⟨_, _, rfl⟩, .refl _, fun j d e hj => by omega⟩) (fun a1 a2 n σ H' _ ⟨e1, e2, _, s, _⟩ => by subst e1 e2; exact ⟨key (s _ _ ha), key (s _ _ ha')⟩) ?_ ?_
    · rintro a1 a2 n x y σ H' T hx hy ⟨rfl, rfl, ⟨o2, o3, rfl⟩, s1, hall⟩ hT
      have sT := Same.upd_new hT (.tup [x, y])
      obtain ⟨d, M1, hd1, hd2⟩ := hd.at hx
      obtain ⟨e, M2, he1, he2⟩ := hd'.at hy
      have hdd := mem_depth (List.mem_of_getElem? hd1)
      walk_at "rd"
      refine ⟨x, y, d, e, M1, M2, rfl, hd2.keep (s1.trans sT), he2.keep (s1.trans sT), by omega, fun H2 s2 => ⟨_, rfl, ?_⟩⟩
      cases hsm : sm d e with
      | false =>
        refine iteY rfl ?_
        rw [sm_ne fun z => ?_] at q
        · exact q H2 ((s1.trans sT).trans s2)
        · have e1 : ds = es := by injection z
          rw [e1, he1] at hd1
          have : d = e := (Option.some.inj hd1).symm
          rw [this, sm_refl] at hsm
          cases hsm
      | true =>
        refine iteN (by decide) ⟨(s1.trans sT).trans s2, fun j d' e' hj h1 h2 => ?_⟩
        by_cases c : j < n
        · exact hall j d' e' c h1 h2
        · have : j = n := by omega
          subst this
          rw [hd1] at h1
          rw [he1] at h2
          cases h1
          cases h2
          exact sm_eq.mp hsm
    · rintro a1 a2 σ H' ⟨rfl, rfl, ⟨o2, o3, rfl⟩, s1, hall⟩
      walk_at "rd"
      have e : ds = es := by
        refine List.ext_getElem? fun j => ?_
        by_cases c : j < ds.length
        · have h1 : ds[j]? = some ds[j] := List.getElem?_eq_getElem c
          have h2 : es[j]? = some (es[j]'(by omega)) := List.getElem?_eq_getElem _
          rw [h1, h2, hall j _ _ (by omega) h1 h2]
        · rw [List.getElem?_eq_none (by omega), List.getElem?_eq_none (by omega)]
      rw [e, sm_refl] at q
      exact q H' s1
end KW
set_option maxHeartbeats 8000000
namespace KW
open PySem L2

variable {g : Gx}
variable {m : Nat}
variable {src : List (Option Nat)} {te : TE} {σ : St} {H : Hp} {Q : VK}
local macro_rules | `(tactic| walk_at "gn") => `(tactic| simp only [gName, List.set_cons_zero, List.set_cons_succ])

local macro_rules | `(tactic| walk_at "rd") => `(tactic| simp (config := { failIfUnchanged := false, maxSteps := 10000000 }) only [L2.start, cxOf_K, nox_K, List.map_cons, List.map_nil, List.length_cons, List.length_nil, List.cons_append, List.nil_append, List.replicate_succ, List.replicate_zero, Nat.zero_add, Nat.reduceAdd, Nat.reduceSub, Nat.sub_self, tSeq, tIfS, tTest, tOp, tC, tVar, rI0, rI, rU, tUn, tRet, tRetN, tDrop, tNext, tBreak, tCont, tAsg, gName, gNil, gCons, tCons, tNil, tCB, tCall, tTry, tTryAs, tRaise, sFld, tFld, tMake, tMeth, Ends.gone, caught_K, tB, tAnd, tOr, tNot, tAndV, tOrV, tNotV, tIf, tChain, tNoPart, tPart, tSl, tNever, tAug, rIxL, rIxT, rSlL, tLst, tTup, gTup, tRev, tLZ, tConT, tDict0, tDNewT, tDGet, sDPut, rNotInD, rInD, tEither, tSlStep, rBits, rFind, rIn, tBM, tBM0, rAppend, rReverse, rEq, rNe, scal_ii, scal_ss, rCat, rSetL, gSub, ipI, capSt, List.getD_cons_zero, List.getD_cons_succ, decide_true, not_true_eq_false, not_false_eq_true,
  exists_eq_left', exists_eq_left, exists_eq', exists_eq, exists_and_left, and_assoc, Option.some.injEq, V.int.injEq, V.bl.injEq, V.ref.injEq, V.str.injEq, List.getElem?_cons_zero, List.getElem?_cons_succ, List.set_cons_zero, List.set_cons_succ, List.cons.injEq, and_true, true_and, List.append_nil, decide_eq_true_eq, Bool.not_eq_true', decide_eq_false_iff_not, Bool.not_not, Bool.not_true, Bool.not_false, Bool.true_eq_false, Bool.false_eq_true, if_true, if_false, ite_true, ite_false])

theorem sm_kind {d e : PyData} (f : PyData → Bool) (h : f d ≠ f e) : sm d e = false := sm_ne fun z => h (by rw [z])
theorem eqv_bool (a b : Bool) : (PyData.bool a).eqv (.bool b) = sm (.bool a) (.bool b) := by
  cases a <;> cases b <;> first | (rw [sm_refl]; rfl) | (rw [sm_ne (by intro z; cases z)]; rfl)
theorem eqv_int (a b : Int) : (PyData.int a).eqv (.int b) = sm (.int a) (.int b) := by
  by_cases h : a = b
  · subst h; rw [sm_refl]; simp [PyData.eqv]
  · rw [sm_ne (by intro z; cases z; exact h rfl)]; simp [PyData.eqv, h]
theorem eqv_str (a b : Str) : (PyData.str a).eqv (.str b) = sm (.str a) (.str b) := by
  by_cases h : a = b
  · subst h; rw [sm_refl]; simp [PyData.eqv]
  · rw [sm_ne (by intro z; cases z; exact h rfl)]; simp [PyData.eqv, h]
theorem ok_same {k : Nat}  {c_deed_judge P_deed_judge : Addr} {c_law_thing P_law_thing : Addr} {c_law_still P_law_still : Addr} (R : g.Raw "same" "same" s_same ["one", "other"]) (F_is_whole_number : g.Fn k "is_whole_number" ["thing"] (sp_is8 isI)) (F_same_each : g.Fn k "same_each" ["one", "other"] (sp_same_each g.K m)) (F_is_truth : g.Fn k "is_truth" ["thing"] (sp_is8 isB)) (F_is_text : g.Fn k "is_text" ["thing"] (sp_is8 isS)) (F_is_list : g.Fn k "is_list" ["thing"] (sp_is8 isL)) (b_isinstance : g.mg "isinstance" = none) (b_tuple : g.mg "tuple" = none) : g.Fn (k + 1) "same" ["one", "other"] (sp_same g.K (m + 1)) := by
  refine R.fn sc_same (fun vs H Q E h => by obtain ⟨v, w, d, e, L, M, rfl, hv, hw, hm, q⟩ := h; rfl) fun f_ cdv A outer s H vs Q E hr h => ?_
  obtain ⟨v, w, d, e, L, M, rfl, hv, hw, hm, q⟩ := h
  refine ⟨_, (@pss_cons _ _ _ _ _ (@ps_if _ _ _ _ _ _ _ _ (@pt_val _ _ _ (@pe_fn _ _ _ _ _ _ _ _ _ _ _ _ F_is_truth hr (@pa_cons _ _ _ _ _ (@pv _ 0 _ _ (by rfl) (by first | exact Or.inl rfl | exact Or.inr (Or.inl rfl) | exact Or.inr (Or.inr rfl)) (by decide) (by decide)) pa_nil (by rfl)) (by omega) (by rfl) (by rfl) (by decide) (by rfl) (by rfl)) (by intro _; rfl)) (@pss_one _ _ _ (@ps_ret _ _ _ _ (@pe_and _ _ _ _ _ _ _ (@pe_fn _ _ _ _ _ _ _ _ _ _ _ _ F_is_truth hr (@pa_cons _ _ _ _ _ (@pv _ 1 _ _ (by rfl) (by first | exact Or.inl rfl | exact Or.inr (Or.inl rfl) | exact Or.inr (Or.inr rfl)) (by decide) (by decide)) pa_nil (by rfl)) (by omega) (by rfl) (by rfl) (by decide) (by rfl) (by rfl)) (@pe_one _ _ _ _ _ (@pe_cmpR _ _ _ _ _ _ _ _ (op_eqD hr.units) (@pv _ 0 _ _ (by rfl) (by first | exact Or.inl rfl | exact Or.inr (Or.inl rfl) | exact Or.inr (Or.inr rfl)) (by decide) (by decide)) (@pv _ 1 _ _ (by rfl) (by first | exact Or.inl rfl | exact Or.inr (Or.inl rfl) | exact Or.inr (Or.inr rfl)) (by decide) (by decide)) (nomark _)))))) pss_nil) (@pss_cons _ _ _ _ _ (@ps_if _ _ _ _ _ _ _ _ (@pt_val _ _ _ (@pe_fn _ _ _ _ _ _ _ _ _ _ _ _ F_is_whole_number hr (@pa_cons _ _ _ _ _ (@pv _ 0 _ _ (by rfl) (by first | exact Or.inl rfl | exact Or.inr (Or.inl rfl) | exact Or.inr (Or.inr rfl)) (by decide) (by decide)) pa_nil (by rfl)) (by omega) (by rfl) (by rfl) (by decide) (by rfl) (by rfl)) (by intro _; rfl)) (@pss_one _ _ _ (@ps_ret _ _ _ _ (@pe_and _ _ _ _ _ _ _ (@pe_fn _ _ _ _ _ _ _ _ _ _ _ _ F_is_whole_number hr (@pa_cons _ _ _ _ _ (@pv _ 1 _ _ (by rfl) (by first | exact Or.inl rfl | exact Or.inr (Or.inl rfl) | exact Or.inr (Or.inr rfl)) (by decide) (by decide)) pa_nil (by rfl)) (by omega) (by rfl) (by rfl) (by decide) (by rfl) (by rfl)) (@pe_one _ _ _ _ _ (@pe_cmpR _ _ _ _ _ _ _ _ (op_eqD hr.units) (@pv _ 0 _ _ (by rfl) (by first | exact Or.inl rfl | exact Or.inr (Or.inl rfl) | exact Or.inr (Or.inr rfl)) (by decide) (by decide)) (@pv _ 1 _ _ (by rfl) (by first | exact Or.inl rfl | exact Or.inr (Or.inl rfl) | exact Or.inr (Or.inr rfl)) (by decide) (by decide)) (nomark _)))))) pss_nil) (@pss_cons _ _ _ _ _ (@ps_if _ _ _ _ _ _ _ _ (@pt_val _ _ _ (@pe_fn _ _ _ _ _ _ _ _ _ _ _ _ F_is_text hr (@pa_cons _ _ _ _ _ (@pv _ 0 _ _ (by rfl) (by first | exact Or.inl rfl | exact Or.inr (Or.inl rfl) | exact Or.inr (Or.inr rfl)) (by decide) (by decide)) pa_nil (by rfl)) (by omega) (by rfl) (by rfl) (by decide) (by rfl) (by rfl)) (by intro _; rfl)) (@pss_one _ _ _ (@ps_ret _ _ _ _ (@pe_and _ _ _ _ _ _ _ (@pe_fn _ _ _ _ _ _ _ _ _ _ _ _ F_is_text hr (@pa_cons _ _ _ _ _ (@pv _ 1 _ _ (by rfl) (by first | exact Or.inl rfl | exact Or.inr (Or.inl rfl) | exact Or.inr (Or.inr rfl)) (by decide) (by decide)) pa_nil (by rfl)) (by omega) (by rfl) (by rfl) (by decide) (by rfl) (by rfl)) (@pe_one _ _ _ _ _ (@pe_cmpR _ _ _ _ _ _ _ _ (op_eqD hr.units) (@pv _ 0 _ _ (by rfl) (by first | exact Or.inl rfl | exact Or.inr (Or.inl rfl) | exact Or.inr (Or.inr rfl)) (by decide) (by decide)) (@pv _ 1 _ _ (by rfl) (by first | exact Or.inl rfl | exact Or.inr (Or.inl rfl) | exact Or.inr (Or.inr rfl)) (by decide) (by decide)) (nomark _)))))) pss_nil) (@pss_cons _ _ _ _ _ (@ps_if _ _ _ _ _ _ _ _ (@pt_val _ _ _ (@pe_fn _ _ _ _ _ _ _ _ _ _ _ _ F_is_list hr (@pa_cons _ _ _ _ _ (@pv _ 0 _ _ (by rfl) (by first | exact Or.inl rfl | exact Or.inr (Or.inl rfl) | exact Or.inr (Or.inr rfl)) (by decide) (by decide)) pa_nil (by rfl)) (by omega) (by rfl) (by rfl) (by decide) (by rfl) (by rfl)) (by intro _; rfl)) (@pss_one _ _ _ (@ps_ret _ _ _ _ (@pe_and _ _ _ _ _ _ _ (@pe_fn _ _ _ _ _ _ _ _ _ _ _ _ F_is_list hr (@pa_cons _ _ _ _ _ (@pv _ 1 _ _ (by rfl) (by first | exact Or.inl rfl | exact Or.inr (Or.inl rfl) | exact Or.inr (Or.inr rfl)) (by decide) (by decide)) pa_nil (by rfl)) (by omega) (by rfl) (by rfl) (by decide) (by rfl) (by rfl)) (@pe_one _ _ _ _ _ (@pe_fn _ _ _ _ _ _ _ _ _ _ _ _ F_same_each hr (@pa_cons _ _ _ _ _ (@pv _ 0 _ _ (by rfl) (by first | exact Or.inl rfl | exact Or.inr (Or.inl rfl) | exact Or.inr (Or.inr rfl)) (by decide) (by decide)) (@pa_cons _ _ _ _ _ (@pv _ 1 _ _ (by rfl) (by first | exact Or.inl rfl | exact Or.inr (Or.inl rfl) | exact Or.inr (Or.inr rfl)) (by decide) (by decide)) pa_nil (by rfl)) (by rfl)) (by omega) (by rfl) (by rfl) (by decide) (by rfl) (by rfl)))))) pss_nil) (@pss_cons _ _ _ _ _ (@ps_if _ _ _ _ _ _ _ _ (@pt_val _ _ _ (@pe_bf _ _ _ _ _ _ _ _ _ _ b_isinstance call_isinst (@pa_cons _ _ _ _ _ (@pv _ 0 _ _ (by rfl) (by first | exact Or.inl rfl | exact Or.inr (Or.inl rfl) | exact Or.inr (Or.inr rfl)) (by decide) (by decide)) (@pa_cons _ _ _ _ _ (@pe_bn _ _ _ _ ("tuple") b_tuple (by decide +kernel) (by rfl) (by rfl) (by decide) (by decide)) pa_nil (by rfl)) (by rfl)) (by decide +kernel) (by rfl) (by rfl) (by decide) (by decide) (by rfl) (by rfl)) (by intro _; rfl)) (@pss_one _ _ _ (@ps_ret _ _ _ _ (@pe_and _ _ _ _ _ _ _ (@pe_bf _ _ _ _ _ _ _ _ _ _ b_isinstance call_isinst (@pa_cons _ _ _ _ _ (@pv _ 1 _ _ (by rfl) (by first | exact Or.inl rfl | exact Or.inr (Or.inl rfl) | exact Or.inr (Or.inr rfl)) (by decide) (by decide)) (@pa_cons _ _ _ _ _ (@pe_bn _ _ _ _ ("tuple") b_tuple (by decide +kernel) (by rfl) (by rfl) (by decide) (by decide)) pa_nil (by rfl)) (by rfl)) (by decide +kernel) (by rfl) (by rfl) (by decide) (by decide) (by rfl) (by rfl)) (@pe_one _ _ _ _ _ (@pe_fn _ _ _ _ _ _ _ _ _ _ _ _ F_same_each hr (@pa_cons _ _ _ _ _ (@pv _ 0 _ _ (by rfl) (by first | exact Or.inl rfl | exact Or.inr (Or.inl rfl) | exact Or.inr (Or.inr rfl)) (by decide) (by decide)) (@pa_cons _ _ _ _ _ (@pv _ 1 _ _ (by rfl) (by first | exact Or.inl rfl | exact Or.inr (Or.inl rfl) | exact Or.inr (Or.inr rfl)) (by decide) (by decide)) pa_nil (by rfl)) (by rfl)) (by omega) (by rfl) (by rfl) (by decide) (by rfl) (by rfl)))))) pss_nil) (@pss_one _ _ _ (@ps_ret _ _ _ _ (@pe_and _ _ _ _ _ _ _ (@pe_cmpR _ _ _ _ _ _ _ _ op_isN (@pv _ 0 _ _ (by rfl) (by first | exact Or.inl rfl | exact Or.inr (Or.inl rfl) | exact Or.inr (Or.inr rfl)) (by decide) (by decide)) pe_non (nomark _)) (@pe_one _ _ _ _ _ (@pe_cmpR _ _ _ _ _ _ _ _ op_isN (@pv _ 1 _ _ (by rfl) (by first | exact Or.inl rfl | exact Or.inr (Or.inl rfl) | exact Or.inr (Or.inr rfl)) (by decide) (by decide)) pe_non (nomark _))))))))))), ?_⟩
  have tyv := dl_ty (K := g.K) hv
  have tyw := dl_ty (K := g.K) hw
  have q0 := q H (.refl _)
  have hno : ∀ f : PyData → Bool, f d = true → f e = false → Q (.bl false) H := fun f h1 h2 => by
    rw [sm_kind f (by rw [h1, h2]; decide)] at q0
    exact q0
  walk_at "rd"
  cases hv with
  | bl b =>
    refine ⟨_, _, _, rfl, .bl b, _, rfl, iteY rfl ⟨_, _, _, rfl, hw, _, rfl, ?_⟩⟩
    cases hw with
    | bl b' => exact iteY rfl ⟨_, .bl b, _, .bl b', by simp [PyData.depth], by rw [eqv_bool]; exact q0⟩
    | _ => exact iteN (by simp [isB]) (hno isB rfl rfl)
  | int i =>
    refine ⟨_, _, _, rfl, .int i, _, rfl, iteN (by simp [isB]) ⟨_, _, _, rfl, .int i, _, rfl, iteY rfl ⟨_, _, _, rfl, hw, _, rfl, ?_⟩⟩⟩
    cases hw with
    | int j => exact iteY rfl ⟨_, .int i, _, .int j, by simp [PyData.depth], by rw [eqv_int]; exact q0⟩
    | _ => exact iteN (by simp [isI]) (hno isI rfl rfl)
  | str x hx =>
    refine ⟨_, _, _, rfl, .str x hx, _, rfl, iteN (by simp [isB]) ⟨_, _, _, rfl, .str x hx, _, rfl, iteN (by simp [isI]) ⟨_, _, _, rfl, .str x hx, _, rfl, iteY rfl ⟨_, _, _, rfl, hw, _, rfl, ?_⟩⟩⟩⟩
    cases hw with
    | str y hy => exact iteY rfl ⟨_, .str x hx, _, .str y hy, by simp [PyData.depth], by rw [eqv_str]; exact q0⟩
    | _ => exact iteN (by simp [isS]) (hno isS rfl rfl)
  | @lst a vs ds L' ha hl hds =>
    have hv : DL H (.ref a) (.list ds) (a :: L') := .lst ha hl hds
    simp only [PyData.depth] at hm
    refine ⟨_, _, _, rfl, hv, _, rfl, iteN (by simp [isB]) ⟨_, _, _, rfl, hv, _, rfl, iteN (by simp [isI]) ⟨_, _, _, rfl, hv, _, rfl, iteN (by simp [isS]) ⟨_, _, _, rfl, hv, _, rfl, iteY rfl ⟨_, _, _, rfl, hw, _, rfl, ?_⟩⟩⟩⟩⟩
    cases hw with
    | @lst a' vs' es M' ha' hl' hes => exact iteY rfl ⟨_, _, ds, es, true, a, a', vs, vs', L', M', rfl, ⟨rfl, by simpa using ha, hl, hds⟩, ⟨rfl, by simpa using ha', hl', hes⟩, by omega, fun H' s' => q H' s'⟩
    | _ => exact iteN (by simp [isL]) (hno isL rfl rfl)
  | @tup a vs ds L' ha hl hds =>
    have hv : DL H (.ref a) (.tuple ds) _ := .tup ha hl hds
    simp only [PyData.depth] at hm
    refine ⟨_, _, _, rfl, hv, _, rfl, iteN (by simp [isB]) ⟨_, _, _, rfl, hv, _, rfl, iteN (by simp [isI]) ⟨_, _, _, rfl, hv, _, rfl, iteN (by simp [isS]) ⟨_, _, _, rfl, hv, _, rfl, iteN (by simp [isL]) ⟨_, rfl, _, tyv, true, rfl, iteY rfl ?_⟩⟩⟩⟩⟩
    cases hw with
    | @tup a' vs' es M' ha' hl' hes =>
      refine ⟨_, rfl, _, tyw, true, rfl, iteT ⟨_, _, ds, es, false, a, a', vs, vs', _, _, rfl, ⟨rfl, by simpa using ha, hl, hds⟩, ⟨rfl, by simpa using ha', hl', hes⟩, by omega, fun H' s' => ?_⟩⟩
      rw [show sm (.list ds) (.list es) = sm (.tuple ds) (.tuple es) from sm_iff (by rw [sm_eq]; constructor <;> (intro z; injection z with z; rw [z]))]
      exact q H' s'
    | _ => exact ⟨_, rfl, _, tyw, false, rfl, iteF (hno isT rfl rfl)⟩
  | non =>
    refine ⟨_, _, _, rfl, .non, _, rfl, iteN (by simp [isB]) ⟨_, _, _, rfl, .non, _, rfl, iteN (by simp [isI]) ⟨_, _, _, rfl, .non, _, rfl, iteN (by simp [isS]) ⟨_, _, _, rfl, .non, _, rfl, iteN (by simp [isL]) ⟨_, rfl, _, tyv, false, rfl, iteN (by decide) ?_⟩⟩⟩⟩⟩
    refine iteY rfl ?_
    cases hw with
    | non => rw [sm_refl] at q0; exact q0
    | bl b => exact hno (fun d => match d with | .none => true | _ => false) rfl rfl
    | int b => exact hno (fun d => match d with | .none => true | _ => false) rfl rfl
    | str b => exact hno (fun d => match d with | .none => true | _ => false) rfl rfl
    | lst b => exact hno (fun d => match d with | .none => true | _ => false) rfl rfl
    | tup b => exact hno (fun d => match d with | .none => true | _ => false) rfl rfl
end KW
set_option maxHeartbeats 8000000
namespace KW
open PySem L2

variable {g : Gx}
variable {m : Nat}
variable {src : List (Option Nat)} {te : TE} {σ : St} {H : Hp} {Q : VK}
local macro_rules | `(tactic| walk_at "gn") => `(tactic| simp only [gName, List.set_cons_zero, List.set_cons_succ])

local macro_rules | `(tactic| walk_at "rd") => `(tactic| simp (config := { failIfUnchanged := false, maxSteps := 10000000 }) only [L2.start, cxOf_K, nox_K, List.map_cons, List.map_nil, List.length_cons, List.length_nil, List.cons_append, List.nil_append, List.replicate_succ, List.replicate_zero, Nat.zero_add, Nat.reduceAdd, Nat.reduceSub, Nat.sub_self, tSeq, tIfS, tTest, tOp, tC, tVar, rI0, rI, rU, tUn, tRet, tRetN, tDrop, tNext, tBreak, tCont, tAsg, gName, gNil, gCons, tCons, tNil, tCB, tCall, tTry, tTryAs, tRaise, sFld, tFld, tMake, tMeth, Ends.gone, caught_K, tB, tAnd, tOr, tNot, tAndV, tOrV, tNotV, tIf, tChain, tNoPart, tPart, tSl, tNever, tAug, rIxL, rIxT, rSlL, tLst, tTup, gTup, tRev, tLZ, tConT, tDict0, tDNewT, tDGet, sDPut, rNotInD, rInD, tEither, tSlStep, rBits, rFind, rIn, tBM, tBM0, rAppend, rReverse, rEq, rNe, scal_ii, scal_ss, rCat, rSetL, gSub, ipI, capSt, List.getD_cons_zero, List.getD_cons_succ, decide_true, not_true_eq_false, not_false_eq_true,
  exists_eq_left', exists_eq_left, exists_eq', exists_eq, exists_and_left, and_assoc, Option.some.injEq, V.int.injEq, V.bl.injEq, V.ref.injEq, V.str.injEq, List.getElem?_cons_zero, List.getElem?_cons_succ, List.set_cons_zero, List.set_cons_succ, List.cons.injEq, and_true, true_and, List.append_nil, decide_eq_true_eq, Bool.not_eq_true', decide_eq_false_iff_not, Bool.not_not, Bool.not_true, Bool.not_false, Bool.true_eq_false, Bool.false_eq_true, if_true, if_false, ite_true, ite_false])

def isR : PyData → Bool
  | .list _ => true
  | .tuple _ => true
  | _ => false
theorem eqv_nil8 (ds : List PyData) : PyData.eqv (.list ds) (.list []) = ds.isEmpty := by rw [PyData.eqv]; cases ds <;> simp [PyData.eqvAll]
def sp_law_same (K : PySem.W.Frag) (m : Nat) : Sp := fun vs H Q _ => ∃ (v w : V) (d e : PyData) (L M : List Addr), vs = [v, w] ∧ DL H v d L ∧ DL H w e M ∧ d.depth + 1 ≤ m ∧ ∀ H', Same H H' → Q (.bl (sm d e)) H'
end KW
set_option maxHeartbeats 8000000
namespace KW
open PySem L2

variable {g : Gx}
variable {m : Nat}
variable {src : List (Option Nat)} {te : TE} {σ : St} {H : Hp} {Q : VK}
local macro_rules | `(tactic| walk_at "gn") => `(tactic| simp only [gName, List.set_cons_zero, List.set_cons_succ])

local macro_rules | `(tactic| walk_at "rd") => `(tactic| simp (config := { failIfUnchanged := false, maxSteps := 10000000 }) only [L2.start, cxOf_K, nox_K, List.map_cons, List.map_nil, List.length_cons, List.length_nil, List.cons_append, List.nil_append, List.replicate_succ, List.replicate_zero, Nat.zero_add, Nat.reduceAdd, Nat.reduceSub, Nat.sub_self, tSeq, tIfS, tTest, tOp, tC, tVar, rI0, rI, rU, tUn, tRet, tRetN, tDrop, tNext, tBreak, tCont, tAsg, gName, gNil, gCons, tCons, tNil, tCB, tCall, tTry, tTryAs, tRaise, sFld, tFld, tMake, tMeth, Ends.gone, caught_K, tB, tAnd, tOr, tNot, tAndV, tOrV, tNotV, tIf, tChain, tNoPart, tPart, tSl, tNever, tAug, rIxL, rIxT, rSlL, tLst, tTup, gTup, tRev, tLZ, tConT, tDict0, tDNewT, tDGet, sDPut, rNotInD, rInD, tEither, tSlStep, rBits, rFind, rIn, tBM, tBM0, rAppend, rReverse, rEq, rNe, scal_ii, scal_ss, rCat, rSetL, gSub, ipI, capSt, List.getD_cons_zero, List.getD_cons_succ, decide_true, not_true_eq_false, not_false_eq_true,
  exists_eq_left', exists_eq_left, exists_eq', exists_eq, exists_and_left, and_assoc, Option.some.injEq, V.int.injEq, V.bl.injEq, V.ref.injEq, V.str.injEq, List.getElem?_cons_zero, List.getElem?_cons_succ, List.set_cons_zero, List.set_cons_succ, List.cons.injEq, and_true, true_and, List.append_nil, decide_eq_true_eq, Bool.not_eq_true', decide_eq_false_iff_not, Bool.not_not, Bool.not_true, Bool.not_false, Bool.true_eq_false, Bool.false_eq_true, if_true, if_false, ite_true, ite_false])

theorem vl_ty {K : PySem.W.Frag} {H : Hp} {v : V} {d : PyData} {L : List Addr} (h : VL H v d L) : TyOf K H v (.type (tn8 d)) := by
  cases h with
  | int i => exact .int i
  | str x h => exact .str _
  | lst h => exact .lst h
  | tup h => exact .tup h
theorem own_flat {H : Hp} {v : V} {d : PyData} (h : VL H v d []) : Own H H v d [] := ⟨h, .nil, fun a h => by cases h⟩
theorem own_tup {H H' : Hp} {ys : List V} {ds : List PyData} {L : List Addr} {p : Addr} (h : Owns H H' ys ds L) (hl : ys.length ≤ 10000) (hp : H' p = none) : Own H (upd H' p (.tup ys)) (.ref p) (.tuple ds) L := ⟨.tup upd_same hl (h.vl.keep (.upd_new hp _)), h.nd, h.new⟩
variable {m : Nat}
def sp_copied (m : Nat) : Sp := fun vs H Q _ => ∃ v d L, vs = [v] ∧ VL H v d L ∧ d.depth < m ∧ ∀ v' H' L', Same H H' → Own H H' v' d L' → Q v' H'
theorem no_copied {vs : List V} {H : Hp} {Q : VK} {E : XK} (h : sp_copied 0 vs H Q E) : False := by
  obtain ⟨v, d, L, _, _, h, _⟩ := h
  omega
theorem ok_copied {k : Nat}  {c_deed_judge P_deed_judge : Addr} {c_law_thing P_law_thing : Addr} {c_law_still P_law_still : Addr} (R : g.Raw "copied" "copied" s_copied ["thing"]) (F_copied : g.Fn k "copied" ["thing"] (sp_copied m)) (b_dict : g.mg "dict" = none) (b_isinstance : g.mg "isinstance" = none) (b_list : g.mg "list" = none) (b_tuple : g.mg "tuple" = none) : g.Fn (k + 1) "copied" ["thing"] (sp_copied (m + 1)) := by
  refine R.fn sc_copied (fun vs H Q E h => by obtain ⟨v, d, L, rfl, hv, hdp, q⟩ := h; rfl) fun f_ cdv A outer s H vs Q E hr h => ?_
  obtain ⟨v, d, L, rfl, hv, hdp, q⟩ := h
  refine ⟨_, (@pss_cons _ _ _ _ _ (@ps_if _ _ _ _ _ _ _ _ (@pt_val _ _ _ (@pe_bf _ _ _ _ _ _ _ _ _ _ b_isinstance call_isinst (@pa_cons _ _ _ _ _ (@pv _ 0 _ _ (by rfl) (by first | exact Or.inl rfl | exact Or.inr (Or.inl rfl) | exact Or.inr (Or.inr rfl)) (by decide) (by decide)) (@pa_cons _ _ _ _ _ (@pe_bn _ _ _ _ ("list") b_list (by decide +kernel) (by rfl) (by rfl) (by decide) (by decide)) pa_nil (by rfl)) (by rfl)) (by decide +kernel) (by rfl) (by rfl) (by decide) (by decide) (by rfl) (by rfl)) (by intro _; rfl)) (@pss_one _ _ _ (@ps_ret _ _ _ _ (@pe_lc _ _ _ _ _ _ _ ([none]) ((["each"] : List Str)) _ (gName 0) _ _ (.own .nil) rfl (@pi_list _ _ _ _ (@pv _ 0 _ _ (by rfl) (by first | exact Or.inl rfl | exact Or.inr (Or.inl rfl) | exact Or.inr (Or.inr rfl)) (by decide) (by decide))) (fun cl C s₀ H₀ fp pn => (@pg_name _ _ (0) _ (show List.Nodup (["each"] : List Str) by decide +kernel) rfl (Or.inl rfl) (Or.inr rfl))) (fun cl C s₀ H₀ fp pn => pts_nil) (fun cl C s₀ H₀ fp pn => (@pe_fn _ _ _ _ _ _ _ _ _ _ _ _ F_copied hr (@pa_cons _ _ _ _ _ (@pv _ 0 _ _ (by rfl) (by first | exact Or.inl rfl | exact Or.inr (Or.inl rfl) | exact Or.inr (Or.inr rfl)) (by decide) (by decide)) pa_nil (by rfl)) (by omega) (by rfl) (by rfl) (by decide) (by rfl) (by rfl))) (by intro x hx; simp at hx) (by rfl) (by decide) (by decide +kernel) (by intro _; rfl)))) pss_nil) (@pss_cons _ _ _ _ _ (@ps_if _ _ _ _ _ _ _ _ (@pt_val _ _ _ (@pe_bf _ _ _ _ _ _ _ _ _ _ b_isinstance call_isinst (@pa_cons _ _ _ _ _ (@pv _ 0 _ _ (by rfl) (by first | exact Or.inl rfl | exact Or.inr (Or.inl rfl) | exact Or.inr (Or.inr rfl)) (by decide) (by decide)) (@pa_cons _ _ _ _ _ (@pe_bn _ _ _ _ ("tuple") b_tuple (by decide +kernel) (by rfl) (by rfl) (by decide) (by decide)) pa_nil (by rfl)) (by rfl)) (by decide +kernel) (by rfl) (by rfl) (by decide) (by decide) (by rfl) (by rfl)) (by intro _; rfl)) (@pss_one _ _ _ (@ps_ret _ _ _ _ (@pe_bt _ _ _ _ _ _ _ _ _ _ b_tuple call_tuple_of (@pa_cons _ _ _ _ _ (@pe_lc _ _ _ _ _ _ _ ([none]) ((["each"] : List Str)) _ (gName 0) _ _ (.own .nil) rfl (@pi_tup _ _ _ _ (@pv _ 0 _ _ (by rfl) (by first | exact Or.inl rfl | exact Or.inr (Or.inl rfl) | exact Or.inr (Or.inr rfl)) (by decide) (by decide))) (fun cl C s₀ H₀ fp pn => (@pg_name _ _ (0) _ (show List.Nodup (["each"] : List Str) by decide +kernel) rfl (Or.inl rfl) (Or.inr rfl))) (fun cl C s₀ H₀ fp pn => pts_nil) (fun cl C s₀ H₀ fp pn => (@pe_fn _ _ _ _ _ _ _ _ _ _ _ _ F_copied hr (@pa_cons _ _ _ _ _ (@pv _ 0 _ _ (by rfl) (by first | exact Or.inl rfl | exact Or.inr (Or.inl rfl) | exact Or.inr (Or.inr rfl)) (by decide) (by decide)) pa_nil (by rfl)) (by omega) (by rfl) (by rfl) (by decide) (by rfl) (by rfl))) (by intro x hx; simp at hx) (by rfl) (by decide) (by decide +kernel) (by intro _; rfl)) pa_nil (by rfl)) (by decide +kernel) (by rfl) (by rfl) (by decide) (by decide) (by rfl) (by rfl)))) pss_nil) (@pss_cons _ _ _ _ _ (@ps_if _ _ _ _ _ _ _ _ (@pt_val _ _ _ (@pe_bf _ _ _ _ _ _ _ _ _ _ b_isinstance call_isinst (@pa_cons _ _ _ _ _ (@pv _ 0 _ _ (by rfl) (by first | exact Or.inl rfl | exact Or.inr (Or.inl rfl) | exact Or.inr (Or.inr rfl)) (by decide) (by decide)) (@pa_cons _ _ _ _ _ (@pe_bn _ _ _ _ ("dict") b_dict (by decide +kernel) (by rfl) (by rfl) (by decide) (by decide)) pa_nil (by rfl)) (by rfl)) (by decide +kernel) (by rfl) (by rfl) (by decide) (by decide) (by rfl) (by rfl)) (by intro _; rfl)) (@pss_one _ _ _ ps_never) pss_nil) (@pss_one _ _ _ (@ps_ret _ _ _ _ (@pv _ 0 _ _ (by rfl) (by first | exact Or.inl rfl | exact Or.inr (Or.inl rfl) | exact Or.inr (Or.inr rfl)) (by decide) (by decide))))))), ?_⟩
  have ty := vl_ty (K := g.K) hv
  walk_at "rd"
  cases hv with
  | int i => exact ⟨_, rfl, _, ty, false, rfl, iteF ⟨_, rfl, _, ty, false, rfl, iteF ⟨_, rfl, _, ty, false, rfl, iteF (q _ _ _ (.refl _) (own_flat (.int i)))⟩⟩⟩
  | str x h => exact ⟨_, rfl, _, ty, false, rfl, iteF ⟨_, rfl, _, ty, false, rfl, iteF ⟨_, rfl, _, ty, false, rfl, iteF (q _ _ _ (.refl _) (own_flat (.str x h)))⟩⟩⟩
  | @lst a vs ds L h hl hds =>
    have e1 := hds.length
    refine ⟨_, rfl, _, ty, true, rfl, iteT ?_⟩
    refine tLC_own (K := g.K) (b := a) (xs := vs) ds (fun R r => by walk_at "rd"; exact r) (SqL.of h) (by omega) hl ?_ (fun D H' L sm ho => q _ _ _ sm ho)
    intro i x e H' hx he sm R r
    obtain ⟨e', L', he', hve⟩ := hds.at hx
    rw [he] at he'
    cases he'
    have hme := mem_depth (List.mem_of_getElem? he)
    walk_at "rd"
    exact ⟨x, e, L', rfl, hve.keep sm, by rw [PyData.depth] at hdp; omega, fun v' H'' L'' s' ho => r v' H'' L'' s' ho⟩
  | @tup a vs ds L h hl hds =>
    have e1 := hds.length
    refine ⟨_, rfl, _, ty, false, rfl, iteF ⟨_, rfl, _, ty, true, rfl, iteT ?_⟩⟩
    refine tLC_ownT (K := g.K) (b := a) (xs := vs) ds (fun R r => by walk_at "rd"; exact r) (SqT.of h) (by omega) hl ?_ ?_
    · intro i x e H' hx he sm R r
      obtain ⟨e', L', he', hve⟩ := hds.at hx
      rw [he] at he'
      cases he'
      have hme := mem_depth (List.mem_of_getElem? he)
      walk_at "rd"
      exact ⟨x, e, L', rfl, hve.keep sm, by rw [PyData.depth] at hdp; omega, fun v' H'' L'' s' ho => r v' H'' L'' s' ho⟩
    · intro D H' L sm ho
      obtain ⟨ys, L1, _, h1, h2, h3, _, _⟩ := ho.inv
      exact ⟨_, rfl, _, .inl ⟨SqL.of h1, fun p hp => q _ _ _ (sm.trans (.upd_new hp _)) (own_tup h3 h2 hp)⟩⟩
end KW
set_option maxHeartbeats 8000000
namespace KW
open PySem L2

variable {g : Gx}
variable {m : Nat}
variable {src : List (Option Nat)} {te : TE} {σ : St} {H : Hp} {Q : VK}
local macro_rules | `(tactic| walk_at "gn") => `(tactic| simp only [gName, List.set_cons_zero, List.set_cons_succ])

local macro_rules | `(tactic| walk_at "rd") => `(tactic| simp (config := { failIfUnchanged := false, maxSteps := 10000000 }) only [L2.start, cxOf_K, nox_K, List.map_cons, List.map_nil, List.length_cons, List.length_nil, List.cons_append, List.nil_append, List.replicate_succ, List.replicate_zero, Nat.zero_add, Nat.reduceAdd, Nat.reduceSub, Nat.sub_self, tSeq, tIfS, tTest, tOp, tC, tVar, rI0, rI, rU, tUn, tRet, tRetN, tDrop, tNext, tBreak, tCont, tAsg, gName, gNil, gCons, tCons, tNil, tCB, tCall, tTry, tTryAs, tRaise, sFld, tFld, tMake, tMeth, Ends.gone, caught_K, tB, tAnd, tOr, tNot, tAndV, tOrV, tNotV, tIf, tChain, tNoPart, tPart, tSl, tNever, tAug, rIxL, rIxT, rSlL, tLst, tTup, gTup, tRev, tLZ, tConT, tDict0, tDNewT, tDGet, sDPut, rNotInD, rInD, tEither, tSlStep, rBits, rFind, rIn, tBM, tBM0, rAppend, rReverse, rEq, rNe, scal_ii, scal_ss, rCat, rSetL, gSub, ipI, capSt, List.getD_cons_zero, List.getD_cons_succ, decide_true, not_true_eq_false, not_false_eq_true,
  exists_eq_left', exists_eq_left, exists_eq', exists_eq, exists_and_left, and_assoc, Option.some.injEq, V.int.injEq, V.bl.injEq, V.ref.injEq, V.str.injEq, List.getElem?_cons_zero, List.getElem?_cons_succ, List.set_cons_zero, List.set_cons_succ, List.cons.injEq, and_true, true_and, List.append_nil, decide_eq_true_eq, Bool.not_eq_true', decide_eq_false_iff_not, Bool.not_not, Bool.not_true, Bool.not_false, Bool.true_eq_false, Bool.false_eq_true, if_true, if_false, ite_true, ite_false])

theorem vls_split {H : Hp} : ∀ {vs : List V} {ds : List PyData} {L : List Addr}, VLs H vs ds L → ∃ Ls : List (List Addr), Ls.length = vs.length ∧ L = Ls.flatten ∧ ∀ (i : Nat) v d M, vs[i]? = some v → ds[i]? = some d → Ls[i]? = some M → VL H v d M
  | _, _, _, .nil => ⟨[], rfl, rfl, fun i v d M h => by simp at h⟩
  | _, _, _, .cons (L := L) h hs => by
    obtain ⟨Ls, h1, h2, h3⟩ := vls_split hs
    refine ⟨L :: Ls, by simp [h1], by rw [h2]; rfl, fun i v d M e1 e2 e3 => ?_⟩
    cases i with
    | zero =>
      have z1 := Option.some.inj e1
      have z2 := Option.some.inj e2
      have z3 := Option.some.inj e3
      subst z1 z2 z3
      exact h
    | succ i => exact h3 i v d M (by simpa using e1) (by simpa using e2) (by simpa using e3)
def sp_law_lists (m : Nat) : Sp := fun vs H Q _ => ∃ v d L, vs = [v] ∧ VL H v d L ∧ d.depth < m ∧ L.length ≤ 100 ∧ ∀ D H', Same H H' → H D = none → H' D = some (.lst (L.map V.ref)) → Q (.ref D) H'
theorem no_law_lists {vs : List V} {H : Hp} {Q : VK} {E : XK} (h : sp_law_lists 0 vs H Q E) : False := by
  obtain ⟨v, d, L, _, _, h, _⟩ := h
  omega
theorem ok_law_lists {k : Nat}  {c_deed_judge P_deed_judge : Addr} {c_law_thing P_law_thing : Addr} {c_law_still P_law_still : Addr} (R : g.Raw "_law_lists" "_law_lists" s_law_lists ["_law_value"]) (F_law_lists : g.Fn k "_law_lists" ["_law_value"] (sp_law_lists m)) (b_isinstance : g.mg "isinstance" = none) (b_list : g.mg "list" = none) (b_tuple : g.mg "tuple" = none) : g.Fn (k + 1) "_law_lists" ["_law_value"] (sp_law_lists (m + 1)) := by
  refine R.fn sc_law_lists (fun vs H Q E h => by obtain ⟨v, d, L, rfl, hv, hdp, hL, q⟩ := h; rfl) fun f_ cdv A outer s H vs Q E hr h => ?_
  obtain ⟨v, d, L, rfl, hv, hdp, hL, q⟩ := h
  refine ⟨_, (@pss_cons _ _ _ _ _ (@ps_set _ _ (1) _ _ _ _ sc_law_lists.nd rfl (Or.inl rfl) (@pe_lst _ _ _ _ pa_nil) (by rfl) (by first | exact .inl rfl | exact .inr rfl | assumption)) (@pss_cons _ _ _ _ _ (@ps_if _ _ _ _ _ _ _ _ (@pt_val _ _ _ (@pe_bf _ _ _ _ _ _ _ _ _ _ b_isinstance call_isinst (@pa_cons _ _ _ _ _ (@pv _ 0 _ _ (by rfl) (by first | exact Or.inl rfl | exact Or.inr (Or.inl rfl) | exact Or.inr (Or.inr rfl)) (by decide) (by decide)) (@pa_cons _ _ _ _ _ (@pe_bn _ _ _ _ ("list") b_list (by decide +kernel) (by rfl) (by rfl) (by decide) (by decide)) pa_nil (by rfl)) (by rfl)) (by decide +kernel) (by rfl) (by rfl) (by decide) (by decide) (by rfl) (by rfl)) (by intro _; rfl)) (@pss_one _ _ _ (@ps_expr _ _ _ _ (@pe_bm _ _ _ _ _ _ _ _ _ _ _ _ PySem.F.plainAttrs_list PySem.F.slot_list_append PySem.F.type_list_append mt_append (@pv _ 1 _ _ (by rfl) (by first | exact Or.inl rfl | exact Or.inr (Or.inl rfl) | exact Or.inr (Or.inr rfl)) (by decide) (by decide)) (@pa_cons _ _ _ _ _ (@pv _ 0 _ _ (by rfl) (by first | exact Or.inl rfl | exact Or.inr (Or.inl rfl) | exact Or.inr (Or.inr rfl)) (by decide) (by decide)) pa_nil (by rfl)) (by rfl) (by rfl) (by rfl) (by rfl) (by rfl)) (by rfl))) pss_nil) (@pss_cons _ _ _ _ _ (@ps_if _ _ _ _ _ _ _ _ (@pw_or _ _ _ _ _ _ _ (@pt_val _ _ _ (@pe_bf _ _ _ _ _ _ _ _ _ _ b_isinstance call_isinst (@pa_cons _ _ _ _ _ (@pv _ 0 _ _ (by rfl) (by first | exact Or.inl rfl | exact Or.inr (Or.inl rfl) | exact Or.inr (Or.inr rfl)) (by decide) (by decide)) (@pa_cons _ _ _ _ _ (@pe_bn _ _ _ _ ("list") b_list (by decide +kernel) (by rfl) (by rfl) (by decide) (by decide)) pa_nil (by rfl)) (by rfl)) (by decide +kernel) (by rfl) (by rfl) (by decide) (by decide) (by rfl) (by rfl)) (by intro _; rfl)) (@pw_or1 _ _ _ _ (@pt_val _ _ _ (@pe_bf _ _ _ _ _ _ _ _ _ _ b_isinstance call_isinst (@pa_cons _ _ _ _ _ (@pv _ 0 _ _ (by rfl) (by first | exact Or.inl rfl | exact Or.inr (Or.inl rfl) | exact Or.inr (Or.inr rfl)) (by decide) (by decide)) (@pa_cons _ _ _ _ _ (@pe_bn _ _ _ _ ("tuple") b_tuple (by decide +kernel) (by rfl) (by rfl) (by decide) (by decide)) pa_nil (by rfl)) (by rfl)) (by decide +kernel) (by rfl) (by rfl) (by decide) (by decide) (by rfl) (by rfl)) (by intro _; rfl)))).pt (@pss_one _ _ _ (@ps_for _ _ _ _ _ _ _ _ PassesOwn.never rfl (@pi_or _ _ _ _ _ (@pi_list _ _ _ _ (@pv _ 0 _ _ (by rfl) (by first | exact Or.inl rfl | exact Or.inr (Or.inl rfl) | exact Or.inr (Or.inr rfl)) (by decide) (by decide))) (@pi_tup _ _ _ _ (@pv _ 0 _ _ (by rfl) (by first | exact Or.inl rfl | exact Or.inr (Or.inl rfl) | exact Or.inr (Or.inr rfl)) (by decide) (by decide)))) (@pg_name _ _ (2) _ sc_law_lists.nd rfl (Or.inl rfl) (by first | exact .inl rfl | exact .inr rfl | assumption)) (@pss_one _ _ _ (@ps_expr _ _ _ _ (@pe_bm _ _ _ _ _ _ _ _ _ _ _ _ PySem.F.plainAttrs_list PySem.F.slot_list_extend PySem.F.type_list_extend mt_extend (@pv _ 1 _ _ (by rfl) (by first | exact Or.inl rfl | exact Or.inr (Or.inl rfl) | exact Or.inr (Or.inr rfl)) (by decide) (by decide)) (@pa_cons _ _ _ _ _ (@pe_fn _ _ _ _ _ _ _ _ _ _ _ _ F_law_lists hr (@pa_cons _ _ _ _ _ (@pv _ 2 _ _ (by rfl) (by first | exact Or.inl rfl | exact Or.inr (Or.inl rfl) | exact Or.inr (Or.inr rfl)) (by decide) (by decide)) pa_nil (by rfl)) (by omega) (by rfl) (by rfl) (by decide) (by rfl) (by rfl)) pa_nil (by rfl)) (by rfl) (by rfl) (by rfl) (by rfl) (by rfl)) (by rfl))) (by intro _; rfl))) pss_nil) (@pss_one _ _ _ (@ps_ret _ _ _ _ (@pv _ 1 _ _ (by rfl) (by first | exact Or.inl rfl | exact Or.inr (Or.inl rfl) | exact Or.inr (Or.inr rfl)) (by decide) (by decide))))))), ?_⟩
  have ty := fun H' (s : Same H H') => vl_ty (K := g.K) (hv.keep s)
  walk_at "rd"
  refine ⟨few (by decide), fun p hp => ?_⟩
  have s1 := Same.upd_new hp (.lst [])
  cases hv with
  | int i => exact ⟨_, rfl, _, ty _ s1, false, rfl, iteF ⟨_, rfl, _, ty _ s1, false, rfl, iteF ⟨_, rfl, _, ty _ s1, false, rfl, iteF (q p _ s1 hp upd_same)⟩⟩⟩
  | str x h => exact ⟨_, rfl, _, ty _ s1, false, rfl, iteF ⟨_, rfl, _, ty _ s1, false, rfl, iteF ⟨_, rfl, _, ty _ s1, false, rfl, iteF (q p _ s1 hp upd_same)⟩⟩⟩
  | @lst a vs ds L' h hl hds =>
    have e1 := hds.length
    have s2 : Same H (upd (upd H p (.lst [])) p (.lst ([] ++ [V.ref a]))) := .upd_over hp s1 _
    obtain ⟨Ls, hLs, rfl, hvs⟩ := vls_split hds
    rw [List.length_cons] at hL
    refine ⟨_, rfl, _, ty _ s1, true, rfl, iteT ⟨.inl ⟨rfl, _, SqL.of upd_same⟩, [], upd_same, few (by decide), _, rfl, _, ty _ s2, true, rfl, iteT (Or.inl ?_)⟩⟩
    refine tFor_listN (K := g.K) (xs := vs) (fun c i σ H' => c = a ∧ (∃ o, σ = [some (.ref a), some (.ref p), o]) ∧ Same H H' ∧ H' p = some (.lst (([a] ++ (Ls.take i).flatten).map V.ref))) (fun R r => by walk_at "rd"; exact r a _ ⟨rfl, ⟨_, rfl⟩, s2, by rw [upd_same]; rfl⟩) (fun c i σ H' _ ⟨e, _, s, _⟩ => by subst e; exact SqL.of (s _ _ h)) ?_ ?_
    · rintro c i x σ H' hx ⟨rfl, ⟨o, rfl⟩, sm, hp'⟩
      have hM : Ls[i]? = some (Ls[i]'(by have := (List.getElem?_eq_some_iff.mp hx).1; omega)) := List.getElem?_eq_getElem _
      generalize Ls[i]'(by have := (List.getElem?_eq_some_iff.mp hx).1; omega) = M at hM
      have hdi : ds[i]? = some (ds[i]'(by have := (List.getElem?_eq_some_iff.mp hx).1; omega)) := List.getElem?_eq_getElem _
      generalize ds[i]'(by have := (List.getElem?_eq_some_iff.mp hx).1; omega) = e at hdi
      have hve := hvs i x e M hx hdi hM
      have hme := mem_depth (List.mem_of_getElem? hdi)
      have hMl := (List.sublist_flatten_of_mem (List.mem_of_getElem? hM)).length_le
      have hTl : (Ls.take i).flatten.length ≤ Ls.flatten.length := by
        have e9 : Ls.flatten = (Ls.take i).flatten ++ (Ls.drop i).flatten := by rw [← List.flatten_append, List.take_append_drop]
        rw [e9, List.length_append]
        omega
      walk_at "rd"
      refine ⟨.inl ⟨rfl, _, SqL.of hp'⟩, x, e, M, rfl, hve.keep sm, by rw [PyData.depth] at hdp; omega, by omega, fun D H'' s'' hDn hD => ?_⟩
      refine ⟨p, D, _, _, rfl, rfl, s'' _ _ hp', hD, ?_, .upd_over hp (sm.trans s'') _, ?_⟩
      · simp only [List.length_map, List.length_append, List.length_cons, List.length_nil]
        exact few (by omega)
      · rw [upd_same, take_snoc hM, List.flatten_append, ← List.map_append, List.append_assoc]
        simp
    · rintro c σ H' ⟨rfl, ⟨o, rfl⟩, sm, hp'⟩
      walk_at "rd"
      rw [← hLs, List.take_length] at hp'
      exact q p H' sm hp hp'
  | @tup a vs ds L' h hl hds =>
    have e1 := hds.length
    obtain ⟨Ls, hLs, rfl, hvs⟩ := vls_split hds
    refine ⟨_, rfl, _, ty _ s1, false, rfl, iteF ⟨_, rfl, _, ty _ s1, false, rfl, iteF ⟨_, rfl, _, ty _ s1, true, rfl, iteT (Or.inr ?_)⟩⟩⟩
    refine tFor_tup (K := g.K) (a := a) (xs := vs) (fun i σ H' => (∃ o, σ = [some (.ref a), some (.ref p), o]) ∧ Same H H' ∧ H' p = some (.lst (([] ++ (Ls.take i).flatten).map V.ref))) (fun R r => by walk_at "rd"; exact r) ⟨⟨_, rfl⟩, s1, by rw [upd_same]; rfl⟩ (fun i σ H' _ ⟨_, s, _⟩ => SqT.of (s _ _ h)) ?_ ?_
    · rintro i x σ H' hx ⟨⟨o, rfl⟩, sm, hp'⟩
      have hM : Ls[i]? = some (Ls[i]'(by have := (List.getElem?_eq_some_iff.mp hx).1; omega)) := List.getElem?_eq_getElem _
      generalize Ls[i]'(by have := (List.getElem?_eq_some_iff.mp hx).1; omega) = M at hM
      have hdi : ds[i]? = some (ds[i]'(by have := (List.getElem?_eq_some_iff.mp hx).1; omega)) := List.getElem?_eq_getElem _
      generalize ds[i]'(by have := (List.getElem?_eq_some_iff.mp hx).1; omega) = e at hdi
      have hve := hvs i x e M hx hdi hM
      have hme := mem_depth (List.mem_of_getElem? hdi)
      have hMl := (List.sublist_flatten_of_mem (List.mem_of_getElem? hM)).length_le
      have hTl : (Ls.take i).flatten.length ≤ Ls.flatten.length := by
        have e9 : Ls.flatten = (Ls.take i).flatten ++ (Ls.drop i).flatten := by rw [← List.flatten_append, List.take_append_drop]
        rw [e9, List.length_append]
        omega
      walk_at "rd"
      refine ⟨.inl ⟨rfl, _, SqL.of hp'⟩, x, e, M, rfl, hve.keep sm, by rw [PyData.depth] at hdp; omega, by omega, fun D H'' s'' hDn hD => ?_⟩
      refine ⟨p, D, _, _, rfl, rfl, s'' _ _ hp', hD, ?_, .upd_over hp (sm.trans s'') _, ?_⟩
      · simp only [List.length_map, List.length_append, List.length_cons, List.length_nil]
        exact few (by omega)
      · rw [upd_same, take_snoc hM, List.flatten_append, ← List.map_append, List.append_assoc]
        simp
    · rintro σ H' ⟨⟨o, rfl⟩, sm, hp'⟩
      walk_at "rd"
      rw [← hLs, List.take_length] at hp'
      exact q p H' sm hp hp'
end KW
set_option maxHeartbeats 8000000
namespace KW
open PySem L2

variable {g : Gx}
variable {m : Nat}
variable {src : List (Option Nat)} {te : TE} {σ : St} {H : Hp} {Q : VK}
local macro_rules | `(tactic| walk_at "gn") => `(tactic| simp only [gName, List.set_cons_zero, List.set_cons_succ])

local macro_rules | `(tactic| walk_at "rd") => `(tactic| simp (config := { failIfUnchanged := false, maxSteps := 10000000 }) only [L2.start, cxOf_K, nox_K, List.map_cons, List.map_nil, List.length_cons, List.length_nil, List.cons_append, List.nil_append, List.replicate_succ, List.replicate_zero, Nat.zero_add, Nat.reduceAdd, Nat.reduceSub, Nat.sub_self, tSeq, tIfS, tTest, tOp, tC, tVar, rI0, rI, rU, tUn, tRet, tRetN, tDrop, tNext, tBreak, tCont, tAsg, gName, gNil, gCons, tCons, tNil, tCB, tCall, tTry, tTryAs, tRaise, sFld, tFld, tMake, tMeth, Ends.gone, caught_K, tB, tAnd, tOr, tNot, tAndV, tOrV, tNotV, tIf, tChain, tNoPart, tPart, tSl, tNever, tAug, rIxL, rIxT, rSlL, tLst, tTup, gTup, tRev, tLZ, tConT, tDict0, tDNewT, tDGet, sDPut, rNotInD, rInD, tEither, tSlStep, rBits, rFind, rIn, tBM, tBM0, rAppend, rReverse, rEq, rNe, scal_ii, scal_ss, rCat, rSetL, gSub, ipI, capSt, List.getD_cons_zero, List.getD_cons_succ, decide_true, not_true_eq_false, not_false_eq_true,
  exists_eq_left', exists_eq_left, exists_eq', exists_eq, exists_and_left, and_assoc, Option.some.injEq, V.int.injEq, V.bl.injEq, V.ref.injEq, V.str.injEq, List.getElem?_cons_zero, List.getElem?_cons_succ, List.set_cons_zero, List.set_cons_succ, List.cons.injEq, and_true, true_and, List.append_nil, decide_eq_true_eq, Bool.not_eq_true', decide_eq_false_iff_not, Bool.not_not, Bool.not_true, Bool.not_false, Bool.true_eq_false, Bool.false_eq_true, if_true, if_false, ite_true, ite_false])

mutual
/-- how long the lists in data are, in their order -/
def lens : PyData → List Nat
  | .list ds => ds.length :: lensAll ds
  | .tuple ds => lensAll ds
  | _ => []
def lensAll : List PyData → List Nat
  | [] => []
  | d :: ds => lens d ++ lensAll ds
end
inductive LenAt (H : Hp) : List Addr → List Nat → Prop
  | nil : LenAt H [] []
  | cons {a : Addr} {vs : List V} {n : Nat} {L : List Addr} {ns : List Nat} : H a = some (.lst vs) → vs.length = n → LenAt H L ns → LenAt H (a :: L) (n :: ns)
theorem LenAt.append {H : Hp} {M : List Addr} {ms : List Nat} (hm : LenAt H M ms) : ∀ {L : List Addr} {ns : List Nat}, LenAt H L ns → LenAt H (L ++ M) (ns ++ ms)
  | _, _, .nil => hm
  | _, _, .cons h e hs => .cons h e (LenAt.append hm hs)
theorem LenAt.length {H : Hp} : ∀ {L : List Addr} {ns : List Nat}, LenAt H L ns → L.length = ns.length
  | _, _, .nil => rfl
  | _, _, .cons _ _ hs => congrArg (· + 1) hs.length
theorem LenAt.at {H : Hp} : ∀ {L : List Addr} {ns : List Nat} {i : Nat} {a : Addr}, LenAt H L ns → L[i]? = some a → ∃ vs, H a = some (.lst vs) ∧ ns[i]? = some vs.length
  | _, _, 0, a, .cons h e _, z => by
    have : _ = a := Option.some.inj z
    subst this
    exact ⟨_, h, by rw [← e]; rfl⟩
  | _, _, i + 1, a, .cons _ _ hs, z => by
    obtain ⟨vs, h1, h2⟩ := hs.at (i := i) (a := a) (by simpa using z)
    exact ⟨vs, h1, by simpa using h2⟩
mutual
theorem vl_lens {H : Hp} : ∀ {v : V} {d : PyData} {L : List Addr}, VL H v d L → LenAt H L (lens d)
  | _, _, _, .int i => by simp only [lens]; exact .nil
  | _, _, _, .str x h => by simp only [lens]; exact .nil
  | _, _, _, .lst h hn hs => by simp only [lens]; exact .cons h hs.length (vls_lens hs)
  | _, _, _, .tup h hn hs => by simp only [lens]; exact vls_lens hs
theorem vls_lens {H : Hp} : ∀ {vs : List V} {ds : List PyData} {L : List Addr}, VLs H vs ds L → LenAt H L (lensAll ds)
  | _, _, _, .nil => by simp only [lensAll]; exact .nil
  | _, _, _, .cons h hs => by simp only [lensAll]; exact (vls_lens hs).append (vl_lens h)
end
/-- a deed: its mark -/
structure Deed (d : PyData) (m : Int) : Prop where
  sh : (∃ r, d = .tuple (.int m :: r)) ∨ ∃ r r', d = .list (.tuple (.int m :: r) :: r')
  dp : d.depth ≤ 3
  nl : (lens d).length ≤ 3
  ll : ∀ n ∈ lens d, n ≤ 3
  m0 : 0 ≤ m
def pr (c : Int) : PyData := .tuple [.int (c % 5), .list (List.replicate (c / 5 % 3).toNat (.int (c / 15 % 1000000000)))]
def dd (c : Int) : PyData := if c / 45 % 2 = 1 then .list [pr c, .list [.int (c / 90 % 4)]] else pr c
theorem depth_rep (n : Nat) (i : Int) : PyData.depthAll (List.replicate n (.int i)) = 0 := by
  induction n with
  | zero => simp [PyData.depthAll]
  | succ n ih => simp [List.replicate_succ, PyData.depthAll, PyData.depth, ih]
theorem lens_rep (n : Nat) (i : Int) : lensAll (List.replicate n (.int i)) = [] := by
  induction n with
  | zero => simp [lensAll]
  | succ n ih => simp [List.replicate_succ, lensAll, lens, ih]
theorem dd_deed (c : Int) : Deed (dd c) (c % 5) := by
  have h3 : (c / 5 % 3).toNat ≤ 2 := by omega
  have hm : 0 ≤ c % 5 := Int.emod_nonneg _ (by decide)
  unfold dd
  split
  · refine ⟨.inr ⟨_, _, rfl⟩, ?_, ?_, ?_, hm⟩
    · simp only [pr, PyData.depth, PyData.depthAll, depth_rep]
      omega
    · simp [pr, lens, lensAll, lens_rep]
    · intro n hn
      simp [pr, lens, lensAll, lens_rep] at hn
      omega
  · refine ⟨.inl ⟨_, rfl⟩, ?_, ?_, ?_, hm⟩
    · simp only [pr, PyData.depth, PyData.depthAll, depth_rep]
      omega
    · simp [pr, lens, lensAll, lens_rep]
    · intro n hn
      simp [pr, lens, lensAll, lens_rep] at hn
      omega
/-- what is answered: nothing (still), or three numbers -/
def an (k : Option Int) (d : PyData) (m : Int) (i : Nat) : PyData := match k with
  | none => .none
  | some b => .list [.int ((lens d).length : Nat), .int (((lens d).sum : Nat) + (if m = b then 1 else 0)), .int (i : Nat)]
theorem an_depth (k : Option Int) (d : PyData) (m : Int) (i : Nat) : (an k d m i).depth ≤ 1 := by
  cases k with
  | none => simp [an, PyData.depth]
  | some b => simp [an, PyData.depth, PyData.depthAll]
/-- the values of a row of deeds -/
def Vz (H : Hp) (us : List V) (zs : List Int) : Prop := us.length = zs.length ∧ ∀ (i : Nat) v z, us[i]? = some v → zs[i]? = some z → ∃ L, VL H v (dd z) L
theorem Vz.keep {H H' : Hp} {us : List V} {zs : List Int} (h : Vz H us zs) (s : Same H H') : Vz H' us zs := ⟨h.1, fun i v z h1 h2 => by
  obtain ⟨L, hL⟩ := h.2 i v z h1 h2
  exact ⟨L, hL.keep s⟩⟩
theorem Vz.take {H : Hp} {us : List V} {zs : List Int} (h : Vz H us zs) (n : Nat) : Vz H (us.take n) (zs.take n) := ⟨by rw [List.length_take, List.length_take, h.1], fun i v z h1 h2 => by
  rw [List.getElem?_take] at h1 h2
  by_cases c : i < n
  · rw [if_pos c] at h1 h2; exact h.2 i v z h1 h2
  · rw [if_neg c] at h1; cases h1⟩
theorem Vz.drop {H : Hp} {us : List V} {zs : List Int} (h : Vz H us zs) (n : Nat) : Vz H (us.drop n) (zs.drop n) := ⟨by rw [List.length_drop, List.length_drop, h.1], fun i v z h1 h2 => by
  rw [List.getElem?_drop] at h1 h2
  exact h.2 _ v z h1 h2⟩
theorem vz_of {H : Hp} {us : List V} {zs : List Int} {L : List Addr} (h : VLs H us (zs.map dd) L) : Vz H us zs := by
  refine ⟨by rw [h.length, List.length_map], fun i v z h1 h2 => ?_⟩
  obtain ⟨d, M, h3, h4⟩ := h.at h1
  rw [List.getElem?_map, h2] at h3
  have : dd z = d := Option.some.inj h3
  rw [this]
  exact ⟨M, h4⟩
/-- where answers are first unlike -/
def IsAp (k1 k2 : Option Int) (zs : List Int) : Option Nat → Prop
  | none => ∀ (j : Nat) z, zs[j]? = some z → an k1 (dd z) (z % 5) j = an k2 (dd z) (z % 5) j
  | some i => (∃ z, zs[i]? = some z ∧ an k1 (dd z) (z % 5) i ≠ an k2 (dd z) (z % 5) i) ∧ ∀ (j : Nat) z, j < i → zs[j]? = some z → an k1 (dd z) (z % 5) j = an k2 (dd z) (z % 5) j
def dv : Option Nat → V
  | none => .non
  | some i => .int (i : Nat)
theorem filt_first {p : Nat → Bool} {i : Nat} (hp : p i = true) (hb : ∀ j < i, p j = false) : ∀ {n : Nat}, i < n → ∃ r, (List.range n).filter p = i :: r
  | n + 1, hi => by
    rw [List.range_succ, List.filter_append]
    by_cases c : i < n
    · obtain ⟨r, hr⟩ := filt_first hp hb c
      rw [hr]
      exact ⟨_, rfl⟩
    · have e : i = n := by omega
      subst e
      rw [List.filter_eq_nil_iff.mpr fun j hj => by rw [hb j (List.mem_range.mp hj)]; decide]
      exact ⟨[], by simp [hp]⟩
theorem an_bad {b : Int} {d : PyData} {m : Int} {i : Nat} (hm : 0 ≤ m) : an (some (-1)) d m i = an (some b) d m i ↔ m ≠ b := by
  simp only [an, PyData.list.injEq, List.cons.injEq, PyData.int.injEq, true_and, and_true]
  rw [if_neg (show m ≠ -1 by omega)]
  split <;> omega
theorem still_none {zs : List Int} {o : Option Nat} (h : IsAp none none zs o) : o = none := by
  cases o with
  | none => rfl
  | some i =>
    obtain ⟨⟨z, _, h⟩, _⟩ := h
    exact absurd rfl h
def bads (b : Int) (zs : List Int) : List Nat := (List.range zs.length).filter fun i => decide (zs.getD i 0 % 5 = b)
theorem bad_none {b : Int} {zs : List Int} (h : IsAp (some (-1)) (some b) zs none) : bads b zs = [] := by
  refine List.filter_eq_nil_iff.mpr fun j hj => ?_
  have hj' := List.mem_range.mp hj
  have e : zs[j]? = some zs[j] := List.getElem?_eq_getElem hj'
  have := (an_bad (Int.emod_nonneg _ (by decide))).mp (h j _ e)
  rw [List.getD_eq_getElem?_getD, e]
  simpa using this
theorem bad_some {b : Int} {zs : List Int} {i : Nat} (h : IsAp (some (-1)) (some b) zs (some i)) : ∃ r, bads b zs = i :: r := by
  obtain ⟨⟨z, hz, h1⟩, h2⟩ := h
  have hi := (List.getElem?_eq_some_iff.mp hz).1
  refine filt_first ?_ ?_ hi
  · have : z % 5 = b := Classical.byContradiction fun c => h1 ((an_bad (Int.emod_nonneg _ (by decide))).mpr c)
    rw [List.getD_eq_getElem?_getD, hz]
    simpa using this
  · intro j hj
    have e : zs[j]? = some (zs[j]'(by omega)) := List.getElem?_eq_getElem _
    have := (an_bad (Int.emod_nonneg _ (by decide))).mp (h2 j _ hj e)
    rw [List.getD_eq_getElem?_getD, e]
    simpa using this
end KW
set_option maxHeartbeats 8000000
namespace KW
open PySem L2

variable {g : Gx}
variable {m : Nat}
variable {src : List (Option Nat)} {te : TE} {σ : St} {H : Hp} {Q : VK}
local macro_rules | `(tactic| walk_at "gn") => `(tactic| simp only [gName, List.set_cons_zero, List.set_cons_succ])

local macro_rules | `(tactic| walk_at "rd") => `(tactic| simp (config := { failIfUnchanged := false, maxSteps := 10000000 }) only [L2.start, cxOf_K, nox_K, List.map_cons, List.map_nil, List.length_cons, List.length_nil, List.cons_append, List.nil_append, List.replicate_succ, List.replicate_zero, Nat.zero_add, Nat.reduceAdd, Nat.reduceSub, Nat.sub_self, tSeq, tIfS, tTest, tOp, tC, tVar, rI0, rI, rU, tUn, tRet, tRetN, tDrop, tNext, tBreak, tCont, tAsg, gName, gNil, gCons, tCons, tNil, tCB, tCall, tTry, tTryAs, tRaise, sFld, tFld, tMake, tMeth, Ends.gone, caught_K, tB, tAnd, tOr, tNot, tAndV, tOrV, tNotV, tIf, tChain, tNoPart, tPart, tSl, tNever, tAug, rIxL, rIxT, rSlL, tLst, tTup, gTup, tRev, tLZ, tConT, tDict0, tDNewT, tDGet, sDPut, rNotInD, rInD, tEither, tSlStep, rBits, rFind, rIn, tBM, tBM0, rAppend, rReverse, rEq, rNe, scal_ii, scal_ss, rCat, rSetL, gSub, ipI, capSt, List.getD_cons_zero, List.getD_cons_succ, decide_true, not_true_eq_false, not_false_eq_true,
  exists_eq_left', exists_eq_left, exists_eq', exists_eq, exists_and_left, and_assoc, Option.some.injEq, V.int.injEq, V.bl.injEq, V.ref.injEq, V.str.injEq, List.getElem?_cons_zero, List.getElem?_cons_succ, List.set_cons_zero, List.set_cons_succ, List.cons.injEq, and_true, true_and, List.append_nil, decide_eq_true_eq, Bool.not_eq_true', decide_eq_false_iff_not, Bool.not_not, Bool.not_true, Bool.not_false, Bool.true_eq_false, Bool.false_eq_true, if_true, if_false, ite_true, ite_false])

theorem ok_law_copy {k : Nat}  {c_deed_judge P_deed_judge : Addr} {c_law_thing P_law_thing : Addr} {c_law_still P_law_still : Addr} (R : g.Raw "_law_copy" "_law_copy" s_law_copy ["_law_value"]) (F_law_copy : g.Fn k "_law_copy" ["_law_value"] (sp_copied m)) (b_isinstance : g.mg "isinstance" = none) (b_list : g.mg "list" = none) (b_tuple : g.mg "tuple" = none) : g.Fn (k + 1) "_law_copy" ["_law_value"] (sp_copied (m + 1)) := by
  refine R.fn sc_law_copy (fun vs H Q E h => by obtain ⟨v, d, L, rfl, hv, hdp, q⟩ := h; rfl) fun f_ cdv A outer s H vs Q E hr h => ?_
  obtain ⟨v, d, L, rfl, hv, hdp, q⟩ := h
  refine ⟨_, (@pss_cons _ _ _ _ _ (@ps_if _ _ _ _ _ _ _ _ (@pt_val _ _ _ (@pe_bf _ _ _ _ _ _ _ _ _ _ b_isinstance call_isinst (@pa_cons _ _ _ _ _ (@pv _ 0 _ _ (by rfl) (by first | exact Or.inl rfl | exact Or.inr (Or.inl rfl) | exact Or.inr (Or.inr rfl)) (by decide) (by decide)) (@pa_cons _ _ _ _ _ (@pe_bn _ _ _ _ ("list") b_list (by decide +kernel) (by rfl) (by rfl) (by decide) (by decide)) pa_nil (by rfl)) (by rfl)) (by decide +kernel) (by rfl) (by rfl) (by decide) (by decide) (by rfl) (by rfl)) (by intro _; rfl)) (@pss_one _ _ _ (@ps_ret _ _ _ _ (@pe_lc _ _ _ _ _ _ _ ([none]) ((["_law_thing_here"] : List Str)) _ (gName 0) _ _ (.own .nil) rfl (@pi_list _ _ _ _ (@pv _ 0 _ _ (by rfl) (by first | exact Or.inl rfl | exact Or.inr (Or.inl rfl) | exact Or.inr (Or.inr rfl)) (by decide) (by decide))) (fun cl C s₀ H₀ fp pn => (@pg_name _ _ (0) _ (show List.Nodup (["_law_thing_here"] : List Str) by decide +kernel) rfl (Or.inl rfl) (Or.inr rfl))) (fun cl C s₀ H₀ fp pn => pts_nil) (fun cl C s₀ H₀ fp pn => (@pe_fn _ _ _ _ _ _ _ _ _ _ _ _ F_law_copy hr (@pa_cons _ _ _ _ _ (@pv _ 0 _ _ (by rfl) (by first | exact Or.inl rfl | exact Or.inr (Or.inl rfl) | exact Or.inr (Or.inr rfl)) (by decide) (by decide)) pa_nil (by rfl)) (by omega) (by rfl) (by rfl) (by decide) (by rfl) (by rfl))) (by intro x hx; simp at hx) (by rfl) (by decide) (by decide +kernel) (by intro _; rfl)))) pss_nil) (@pss_cons _ _ _ _ _ (@ps_if _ _ _ _ _ _ _ _ (@pt_val _ _ _ (@pe_bf _ _ _ _ _ _ _ _ _ _ b_isinstance call_isinst (@pa_cons _ _ _ _ _ (@pv _ 0 _ _ (by rfl) (by first | exact Or.inl rfl | exact Or.inr (Or.inl rfl) | exact Or.inr (Or.inr rfl)) (by decide) (by decide)) (@pa_cons _ _ _ _ _ (@pe_bn _ _ _ _ ("tuple") b_tuple (by decide +kernel) (by rfl) (by rfl) (by decide) (by decide)) pa_nil (by rfl)) (by rfl)) (by decide +kernel) (by rfl) (by rfl) (by decide) (by decide) (by rfl) (by rfl)) (by intro _; rfl)) (@pss_one _ _ _ (@ps_ret _ _ _ _ (@pe_bt _ _ _ _ _ _ _ _ _ _ b_tuple call_tuple_of (@pa_cons _ _ _ _ _ (@pe_lc _ _ _ _ _ _ _ ([none]) ((["_law_thing_here"] : List Str)) _ (gName 0) _ _ (.own .nil) rfl (@pi_tup _ _ _ _ (@pv _ 0 _ _ (by rfl) (by first | exact Or.inl rfl | exact Or.inr (Or.inl rfl) | exact Or.inr (Or.inr rfl)) (by decide) (by decide))) (fun cl C s₀ H₀ fp pn => (@pg_name _ _ (0) _ (show List.Nodup (["_law_thing_here"] : List Str) by decide +kernel) rfl (Or.inl rfl) (Or.inr rfl))) (fun cl C s₀ H₀ fp pn => pts_nil) (fun cl C s₀ H₀ fp pn => (@pe_fn _ _ _ _ _ _ _ _ _ _ _ _ F_law_copy hr (@pa_cons _ _ _ _ _ (@pv _ 0 _ _ (by rfl) (by first | exact Or.inl rfl | exact Or.inr (Or.inl rfl) | exact Or.inr (Or.inr rfl)) (by decide) (by decide)) pa_nil (by rfl)) (by omega) (by rfl) (by rfl) (by decide) (by rfl) (by rfl))) (by intro x hx; simp at hx) (by rfl) (by decide) (by decide +kernel) (by intro _; rfl)) pa_nil (by rfl)) (by decide +kernel) (by rfl) (by rfl) (by decide) (by decide) (by rfl) (by rfl)))) pss_nil) (@pss_one _ _ _ (@ps_ret _ _ _ _ (@pv _ 0 _ _ (by rfl) (by first | exact Or.inl rfl | exact Or.inr (Or.inl rfl) | exact Or.inr (Or.inr rfl)) (by decide) (by decide)))))), ?_⟩
  have ty := vl_ty (K := g.K) hv
  walk_at "rd"
  cases hv with
  | int i => exact ⟨_, rfl, _, ty, false, rfl, iteF ⟨_, rfl, _, ty, false, rfl, iteF (q _ _ _ (.refl _) (own_flat (.int i)))⟩⟩
  | str x h => exact ⟨_, rfl, _, ty, false, rfl, iteF ⟨_, rfl, _, ty, false, rfl, iteF (q _ _ _ (.refl _) (own_flat (.str x h)))⟩⟩
  | @lst a vs ds L h hl hds =>
    have e1 := hds.length
    refine ⟨_, rfl, _, ty, true, rfl, iteT ?_⟩
    refine tLC_own (K := g.K) (b := a) (xs := vs) ds (fun R r => by walk_at "rd"; exact r) (SqL.of h) (by omega) hl ?_ (fun D H' L sm ho => q _ _ _ sm ho)
    intro i x e H' hx he sm R r
    obtain ⟨e', L', he', hve⟩ := hds.at hx
    rw [he] at he'
    cases he'
    have hme := mem_depth (List.mem_of_getElem? he)
    walk_at "rd"
    exact ⟨x, e, L', rfl, hve.keep sm, by rw [PyData.depth] at hdp; omega, fun v' H'' L'' s' ho => r v' H'' L'' s' ho⟩
  | @tup a vs ds L h hl hds =>
    have e1 := hds.length
    refine ⟨_, rfl, _, ty, false, rfl, iteF ⟨_, rfl, _, ty, true, rfl, iteT ?_⟩⟩
    refine tLC_ownT (K := g.K) (b := a) (xs := vs) ds (fun R r => by walk_at "rd"; exact r) (SqT.of h) (by omega) hl ?_ ?_
    · intro i x e H' hx he sm R r
      obtain ⟨e', L', he', hve⟩ := hds.at hx
      rw [he] at he'
      cases he'
      have hme := mem_depth (List.mem_of_getElem? he)
      walk_at "rd"
      exact ⟨x, e, L', rfl, hve.keep sm, by rw [PyData.depth] at hdp; omega, fun v' H'' L'' s' ho => r v' H'' L'' s' ho⟩
    · intro D H' L sm ho
      obtain ⟨ys, L1, _, h1, h2, h3, _, _⟩ := ho.inv
      exact ⟨_, rfl, _, .inl ⟨SqL.of h1, fun p hp => q _ _ _ (sm.trans (.upd_new hp _)) (own_tup h3 h2 hp)⟩⟩
def sp_law_mark : Sp := fun vs H Q _ => ∃ v d L m, vs = [v] ∧ VL H v d L ∧ Deed d m ∧ Q (.int m) H
theorem ok_law_mark  {c_deed_judge P_deed_judge : Addr} {c_law_thing P_law_thing : Addr} {c_law_still P_law_still : Addr} (R : g.Raw "_law_mark" "_law_mark" s_law_mark ["_law_deed_here"]) (b_isinstance : g.mg "isinstance" = none) (b_list : g.mg "list" = none) : g.Fn (1) "_law_mark" ["_law_deed_here"] (sp_law_mark) := by
  refine R.fn sc_law_mark (fun vs H Q E h => by obtain ⟨v, d, L, m, rfl, hv, hd, q⟩ := h; rfl) fun f_ cdv A outer s H vs Q E hr h => ?_
  obtain ⟨v, d, L, m, rfl, hv, hd, q⟩ := h
  refine ⟨_, (@pss_cons _ _ _ _ _ (@ps_if _ _ _ _ _ _ _ _ (@pt_val _ _ _ (@pe_bf _ _ _ _ _ _ _ _ _ _ b_isinstance call_isinst (@pa_cons _ _ _ _ _ (@pv _ 0 _ _ (by rfl) (by first | exact Or.inl rfl | exact Or.inr (Or.inl rfl) | exact Or.inr (Or.inr rfl)) (by decide) (by decide)) (@pa_cons _ _ _ _ _ (@pe_bn _ _ _ _ ("list") b_list (by decide +kernel) (by rfl) (by rfl) (by decide) (by decide)) pa_nil (by rfl)) (by rfl)) (by decide +kernel) (by rfl) (by rfl) (by decide) (by decide) (by rfl) (by rfl)) (by intro _; rfl)) (@pss_one _ _ _ (@ps_ret _ _ _ _ (@pe_ix _ _ _ _ _ _ _ ix_tup (@pe_ix _ _ _ _ _ _ _ ix_list (@pv _ 0 _ _ (by rfl) (by first | exact Or.inl rfl | exact Or.inr (Or.inl rfl) | exact Or.inr (Or.inr rfl)) (by decide) (by decide)) pe_int (fun _ _ => rfl)) pe_int (fun _ _ => rfl)))) pss_nil) (@pss_one _ _ _ (@ps_ret _ _ _ _ (@pe_ix _ _ _ _ _ _ _ ix_tup (@pv _ 0 _ _ (by rfl) (by first | exact Or.inl rfl | exact Or.inr (Or.inl rfl) | exact Or.inr (Or.inr rfl)) (by decide) (by decide)) pe_int (fun _ _ => rfl))))), ?_⟩
  have ty := vl_ty (K := g.K) hv
  walk_at "rd"
  obtain ⟨r, rfl⟩ | ⟨r, r', rfl⟩ := hd.sh
  · cases hv with
    | @tup a vs ds L h hl hds =>
      cases hds with
      | cons h1 h2 =>
        cases h1 with
        | int i => exact ⟨_, rfl, _, ty, false, rfl, iteF ⟨_, rfl, _, SqT.of h, _, atI_nat (j := 0) rfl, q⟩⟩
  · cases hv with
    | @lst a vs ds L h hl hds =>
      cases hds with
      | cons h1 h2 =>
        cases h1 with
        | @tup a' vs' ds' L' h' hl' hds' =>
          cases hds' with
          | cons h3 h4 =>
            cases h3 with
            | int i =>
              exact ⟨_, rfl, _, ty, true, rfl, iteT ⟨_, rfl, _, SqL.of h, _, atI_nat (j := 0) rfl, _, rfl, _, SqT.of h', _, atI_nat (j := 0) rfl, q⟩⟩
end KW
set_option maxHeartbeats 8000000
namespace KW
open PySem L2

variable {g : Gx}
variable {m : Nat}
variable {src : List (Option Nat)} {te : TE} {σ : St} {H : Hp} {Q : VK}
local macro_rules | `(tactic| walk_at "gn") => `(tactic| simp only [gName, List.set_cons_zero, List.set_cons_succ])

local macro_rules | `(tactic| walk_at "rd") => `(tactic| simp (config := { failIfUnchanged := false, maxSteps := 10000000 }) only [L2.start, cxOf_K, nox_K, List.map_cons, List.map_nil, List.length_cons, List.length_nil, List.cons_append, List.nil_append, List.replicate_succ, List.replicate_zero, Nat.zero_add, Nat.reduceAdd, Nat.reduceSub, Nat.sub_self, tSeq, tIfS, tTest, tOp, tC, tVar, rI0, rI, rU, tUn, tRet, tRetN, tDrop, tNext, tBreak, tCont, tAsg, gName, gNil, gCons, tCons, tNil, tCB, tCall, tTry, tTryAs, tRaise, sFld, tFld, tMake, tMeth, Ends.gone, caught_K, tB, tAnd, tOr, tNot, tAndV, tOrV, tNotV, tIf, tChain, tNoPart, tPart, tSl, tNever, tAug, rIxL, rIxT, rSlL, tLst, tTup, gTup, tRev, tLZ, tConT, tDict0, tDNewT, tDGet, sDPut, rNotInD, rInD, tEither, tSlStep, rBits, rFind, rIn, tBM, tBM0, rAppend, rReverse, rEq, rNe, scal_ii, scal_ss, rCat, rSetL, gSub, ipI, capSt, List.getD_cons_zero, List.getD_cons_succ, decide_true, not_true_eq_false, not_false_eq_true,
  exists_eq_left', exists_eq_left, exists_eq', exists_eq, exists_and_left, and_assoc, Option.some.injEq, V.int.injEq, V.bl.injEq, V.ref.injEq, V.str.injEq, List.getElem?_cons_zero, List.getElem?_cons_succ, List.set_cons_zero, List.set_cons_succ, List.cons.injEq, and_true, true_and, List.append_nil, decide_eq_true_eq, Bool.not_eq_true', decide_eq_false_iff_not, Bool.not_not, Bool.not_true, Bool.not_false, Bool.true_eq_false, Bool.false_eq_true, if_true, if_false, ite_true, ite_false])

/-- tuples, functions, codes and cells stay -/
def NL (H H' : Hp) : Prop := (∀ b xs, H b = some (.tup xs) → H' b = some (.tup xs)) ∧ ∀ b φ, H b = some (.ext φ) → H' b = some (.ext φ)
theorem NL.refl (H : Hp) : NL H H := ⟨fun _ _ e => e, fun _ _ e => e⟩
theorem NL.trans {H H1 H2 : Hp} (a : NL H H1) (b : NL H1 H2) : NL H H2 := ⟨fun c o e => b.1 c o (a.1 c o e), fun c o e => b.2 c o (a.2 c o e)⟩
theorem nl_of {H H' : Hp} (s : Same H H') : NL H H' := ⟨fun b o e => s b _ e, fun b o e => s b _ e⟩
theorem nl_but {H H' : Hp} {P : Addr} {ps : Array Value} (hk : ∀ a o, a ≠ P → H a = some o → H' a = some o) (hP : H P = some (.tbl ps)) : NL H H' :=
  ⟨fun c o e => hk c _ (ne_of e hP (by intro z; cases z)) e, fun c o e => hk c _ (ne_of e hP (by intro z; cases z)) e⟩
theorem cl_nl {H H' : Hp} {f c : Addr} {fd : FuncData} {q : Str} {l : Caps} (h : ClIn H f c fd q l) (n : NL H H') : ClIn H' f c fd q l :=
  ⟨n.2 _ _ h.1, n.2 _ _ h.2.1, fun p hp => n.2 _ _ (h.2.2 p hp)⟩
/-- a state after so many deeds -/
def StAt (H : Hp) (k : Option Int) (v : V) (i : Nat) : Prop := match k with
  | none => v = .non
  | some _ => ∃ a xs, v = .ref a ∧ H a = some (.lst xs) ∧ xs.length = i
theorem StAt.keep {H H' : Hp} {k : Option Int} {v : V} {i : Nat} (h : StAt H k v i) (e : ∀ a xs, v = .ref a → H a = some (.lst xs) → H' a = some (.lst xs)) : StAt H' k v i := by
  cases k with
  | none => exact h
  | some b =>
    obtain ⟨a, xs, h1, h2, h3⟩ := h
    exact ⟨a, xs, h1, e a xs h1 h2, h3⟩
theorem StAt.lst {H : Hp} {k : Option Int} {v : V} {i : Nat} {a : Addr} (h : StAt H k v i) (e : v = .ref a) : ∃ xs, H a = some (.lst xs) := by
  cases k with
  | none => have h : v = .non := h; rw [h] at e; cases e
  | some b =>
    obtain ⟨c, xs, h1, h2, h3⟩ := h
    rw [h1] at e
    have := V.ref.inj e
    subst this
    exact ⟨xs, h2⟩
abbrev Okf (g : Gx) (j : Nat) (f : Addr) (fd : FuncData) (ps : List Str) (sp : Sp) : Prop := FnOk g.P g.w g.K g.mg g.base CX0 j f fd ps sp ∧ ∀ us : List Value, us.length = ps.length → bindArgs fd ⟨us, []⟩ = pure (ps.zip us)
/-- a call that begins -/
def BegOk (g : Gx) (H : Hp) (b : Addr) (k : Option Int) : Prop := ∃ fd sp, Okf g 8 b fd [] sp ∧ H b = some (FnO b fd) ∧
  ∀ H1 Q, NL H H1 → (∀ v H2, Same H1 H2 → StAt H2 k v 0 → (∀ a, v = .ref a → H1 a = none) → Q v H2) → H1 b = some (FnO b fd) ∧ sp [] H1 Q E0
/-- a call that does a deed -/
def DoneOk (g : Gx) (H : Hp) (f : Addr) (k : Option Int) : Prop := ∃ fd sp, Okf g 8 f fd ["_law_state", "_law_deed_here"] sp ∧ H f = some (FnO f fd) ∧
  ∀ (H1 : Hp) (sv v : V) (i : Nat) (d : PyData) (m : Int) (L : List Addr) (Q : VK), NL H H1 → StAt H1 k sv i → i ≤ 2000 → VL H1 v d L → Deed d m → (∀ a ∈ L, sv ≠ .ref a) →
    (∀ t av M H', H1 t = none → H' t = some (.tup [sv, av]) → DL H' av (an k d m i) M → (∀ a ∈ M, H1 a = none) → StAt H' k sv (i + 1) → (∀ b o, sv ≠ .ref b → b ∉ L → H1 b = some o → H' b = some o) → Q (.ref t) H') →
    H1 f = some (FnO f fd) ∧ sp [sv, v] H1 Q E0
theorem BegOk.nl {g : Gx} {H H' : Hp} {b : Addr} {k : Option Int} (h : BegOk g H b k) (n : NL H H') : BegOk g H' b k := by
  obtain ⟨fd, sp, h1, h2, h3⟩ := h
  exact ⟨fd, sp, h1, n.2 _ _ h2, fun H1 Q n1 => h3 H1 Q (n.trans n1)⟩
theorem DoneOk.nl {g : Gx} {H H' : Hp} {f : Addr} {k : Option Int} (h : DoneOk g H f k) (n : NL H H') : DoneOk g H' f k := by
  obtain ⟨fd, sp, h1, h2, h3⟩ := h
  exact ⟨fd, sp, h1, n.2 _ _ h2, fun H1 sv v i d m L Q n1 => h3 H1 sv v i d m L Q (n.trans n1)⟩
end KW
set_option maxHeartbeats 8000000
namespace KW
open PySem L2

variable {g : Gx}
variable {m : Nat}
variable {src : List (Option Nat)} {te : TE} {σ : St} {H : Hp} {Q : VK}
local macro_rules | `(tactic| walk_at "gn") => `(tactic| simp only [gName, List.set_cons_zero, List.set_cons_succ])

local macro_rules | `(tactic| walk_at "rd") => `(tactic| simp (config := { failIfUnchanged := false, maxSteps := 10000000 }) only [L2.start, cxOf_K, nox_K, List.map_cons, List.map_nil, List.length_cons, List.length_nil, List.cons_append, List.nil_append, List.replicate_succ, List.replicate_zero, Nat.zero_add, Nat.reduceAdd, Nat.reduceSub, Nat.sub_self, tSeq, tIfS, tTest, tOp, tC, tVar, rI0, rI, rU, tUn, tRet, tRetN, tDrop, tNext, tBreak, tCont, tAsg, gName, gNil, gCons, tCons, tNil, tCB, tCall, tTry, tTryAs, tRaise, sFld, tFld, tMake, tMeth, Ends.gone, caught_K, tB, tAnd, tOr, tNot, tAndV, tOrV, tNotV, tIf, tChain, tNoPart, tPart, tSl, tNever, tAug, rIxL, rIxT, rSlL, tLst, tTup, gTup, tRev, tLZ, tConT, tDict0, tDNewT, tDGet, sDPut, rNotInD, rInD, tEither, tSlStep, rBits, rFind, rIn, tBM, tBM0, rAppend, rReverse, rEq, rNe, scal_ii, scal_ss, rCat, rSetL, gSub, ipI, capSt, List.getD_cons_zero, List.getD_cons_succ, decide_true, not_true_eq_false, not_false_eq_true,
  exists_eq_left', exists_eq_left, exists_eq', exists_eq, exists_and_left, and_assoc, Option.some.injEq, V.int.injEq, V.bl.injEq, V.ref.injEq, V.str.injEq, List.getElem?_cons_zero, List.getElem?_cons_succ, List.set_cons_zero, List.set_cons_succ, List.cons.injEq, and_true, true_and, List.append_nil, decide_eq_true_eq, Bool.not_eq_true', decide_eq_false_iff_not, Bool.not_not, Bool.not_true, Bool.not_false, Bool.true_eq_false, Bool.false_eq_true, if_true, if_false, ite_true, ite_false])

def sp_apart (g : Gx) : Sp := fun vs H Q _ => ∃ (b1 f1 b2 f2 D : Addr) (k1 k2 : Option Int) (us : List V) (zs : List Int), vs = [.ref b1, .ref f1, .ref b2, .ref f2, .ref D] ∧ BegOk g H b1 k1 ∧ DoneOk g H f1 k1 ∧ BegOk g H b2 k2 ∧ DoneOk g H f2 k2 ∧
  H D = some (.lst us) ∧ Vz H us zs ∧ zs.length ≤ 1200 ∧ ∀ o H', IsAp k1 k2 zs o → Same H H' → Q (dv o) H'
theorem ok_apart {k : Nat}  {c_deed_judge P_deed_judge : Addr} {c_law_thing P_law_thing : Addr} {c_law_still P_law_still : Addr} (R : g.Raw "apart" "apart" s_apart ["begin", "done", "model_begin", "model_done", "deeds"]) (F_copied : g.Fn k "copied" ["thing"] (sp_copied 5)) (F_same : g.Fn k "same" ["one", "other"] (sp_same g.K 5)) (hkc : 8 ≤ k) (b_enumerate : g.mg "enumerate" = none) : g.Fn (k + 1) "apart" ["begin", "done", "model_begin", "model_done", "deeds"] (sp_apart g) := by
  refine R.fn sc_apart (fun vs H Q E h => by obtain ⟨b1, f1, b2, f2, D, k1, k2, us, zs, rfl, hb1, hf1, hb2, hf2, hD, hz, hl, q⟩ := h; rfl) fun f_ cdv A outer s H vs Q E hr h => ?_
  obtain ⟨b1, f1, b2, f2, D, k1, k2, us, zs, rfl, hb1, hf1, hb2, hf2, hD, hz, hl, q⟩ := h
  refine ⟨_, (@pss_cons _ _ _ _ _ (@ps_set _ _ (5) _ _ _ _ sc_apart.nd rfl (Or.inl rfl) (@pe_callC0 _ (g) _ (8) _ _ _ 0 hr (by omega) (by rfl) (by rfl) (by first | exact Or.inl rfl | exact Or.inr (Or.inl rfl) | exact Or.inr (Or.inr rfl)) (by decide) (by decide)) (by rfl) (by first | exact .inl rfl | exact .inr rfl | assumption)) (@pss_cons _ _ _ _ _ (@ps_set _ _ (6) _ _ _ _ sc_apart.nd rfl (Or.inl rfl) (@pe_callC0 _ (g) _ (8) _ _ _ 2 hr (by omega) (by rfl) (by rfl) (by first | exact Or.inl rfl | exact Or.inr (Or.inl rfl) | exact Or.inr (Or.inr rfl)) (by decide) (by decide)) (by rfl) (by first | exact .inl rfl | exact .inr rfl | assumption)) (@pss_cons _ _ _ _ _ (@ps_for _ _ _ _ _ _ _ _ PassesOwn.never rfl (@pi_enumL _ _ _ _ _ _ _ _ rfl b_enumerate (@pa_cons _ _ _ _ _ (@pv _ 4 _ _ (by rfl) (by first | exact Or.inl rfl | exact Or.inr (Or.inl rfl) | exact Or.inr (Or.inr rfl)) (by decide) (by decide)) pa_nil (by rfl)) (by rfl)) (@pg_tup _ _ _ _ _ (2) rfl (@pgs_cons _ _ _ _ _ (@pg_name _ _ (7) _ sc_apart.nd rfl (Or.inl rfl) (by first | exact .inl rfl | exact .inr rfl | assumption)) (@pgs_cons _ _ _ _ _ (@pg_name _ _ (8) _ sc_apart.nd rfl (Or.inl rfl) (by first | exact .inl rfl | exact .inr rfl | assumption)) pgs_nil (by rfl)) (by rfl)) (by rfl) (by rfl)) (@pss_cons _ _ _ _ _ (@ps_set _ _ (9) _ _ _ _ sc_apart.nd rfl (Or.inl rfl) (@pe_callC _ (g) _ (8) _ _ _ _ _ _ 1 hr (@pa_cons _ _ _ _ _ (@pv _ 5 _ _ (by rfl) (by first | exact Or.inl rfl | exact Or.inr (Or.inl rfl) | exact Or.inr (Or.inr rfl)) (by decide) (by decide)) (@pa_cons _ _ _ _ _ (@pe_fn _ _ _ _ _ _ _ _ _ _ _ _ F_copied hr (@pa_cons _ _ _ _ _ (@pv _ 8 _ _ (by rfl) (by first | exact Or.inl rfl | exact Or.inr (Or.inl rfl) | exact Or.inr (Or.inr rfl)) (by decide) (by decide)) pa_nil (by rfl)) (by omega) (by rfl) (by rfl) (by decide) (by rfl) (by rfl)) pa_nil (by rfl)) (by rfl)) (by omega) (by rfl) (by rfl) (by first | exact Or.inl rfl | exact Or.inr (Or.inl rfl) | exact Or.inr (Or.inr rfl)) (by decide) (by decide) (by rfl) (by rfl)) (by rfl) (by first | exact .inl rfl | exact .inr rfl | assumption)) (@pss_cons _ _ _ _ _ (@ps_set _ _ (10) _ _ _ _ sc_apart.nd rfl (Or.inl rfl) (@pe_callC _ (g) _ (8) _ _ _ _ _ _ 3 hr (@pa_cons _ _ _ _ _ (@pv _ 6 _ _ (by rfl) (by first | exact Or.inl rfl | exact Or.inr (Or.inl rfl) | exact Or.inr (Or.inr rfl)) (by decide) (by decide)) (@pa_cons _ _ _ _ _ (@pe_fn _ _ _ _ _ _ _ _ _ _ _ _ F_copied hr (@pa_cons _ _ _ _ _ (@pv _ 8 _ _ (by rfl) (by first | exact Or.inl rfl | exact Or.inr (Or.inl rfl) | exact Or.inr (Or.inr rfl)) (by decide) (by decide)) pa_nil (by rfl)) (by omega) (by rfl) (by rfl) (by decide) (by rfl) (by rfl)) pa_nil (by rfl)) (by rfl)) (by omega) (by rfl) (by rfl) (by first | exact Or.inl rfl | exact Or.inr (Or.inl rfl) | exact Or.inr (Or.inr rfl)) (by decide) (by decide) (by rfl) (by rfl)) (by rfl) (by first | exact .inl rfl | exact .inr rfl | assumption)) (@pss_cons _ _ _ _ _ (@ps_if _ _ _ _ _ _ _ _ (@pt_not _ _ _ _ (@pt_val _ _ _ (@pe_fn _ _ _ _ _ _ _ _ _ _ _ _ F_same hr (@pa_cons _ _ _ _ _ (@pe_ix _ _ _ _ _ _ _ ix_tup (@pv _ 9 _ _ (by rfl) (by first | exact Or.inl rfl | exact Or.inr (Or.inl rfl) | exact Or.inr (Or.inr rfl)) (by decide) (by decide)) pe_int (fun _ _ => rfl)) (@pa_cons _ _ _ _ _ (@pe_ix _ _ _ _ _ _ _ ix_tup (@pv _ 10 _ _ (by rfl) (by first | exact Or.inl rfl | exact Or.inr (Or.inl rfl) | exact Or.inr (Or.inr rfl)) (by decide) (by decide)) pe_int (fun _ _ => rfl)) pa_nil (by rfl)) (by rfl)) (by omega) (by rfl) (by rfl) (by decide) (by rfl) (by rfl)) (by intro _; rfl))) (@pss_one _ _ _ (@ps_ret _ _ _ _ (@pv _ 7 _ _ (by rfl) (by first | exact Or.inl rfl | exact Or.inr (Or.inl rfl) | exact Or.inr (Or.inr rfl)) (by decide) (by decide)))) pss_nil) (@pss_cons _ _ _ _ _ (@ps_set _ _ (5) _ _ _ _ sc_apart.nd rfl (Or.inl rfl) (@pe_ix _ _ _ _ _ _ _ ix_tup (@pv _ 9 _ _ (by rfl) (by first | exact Or.inl rfl | exact Or.inr (Or.inl rfl) | exact Or.inr (Or.inr rfl)) (by decide) (by decide)) pe_int (fun _ _ => rfl)) (by rfl) (by first | exact .inl rfl | exact .inr rfl | assumption)) (@pss_one _ _ _ (@ps_set _ _ (6) _ _ _ _ sc_apart.nd rfl (Or.inl rfl) (@pe_ix _ _ _ _ _ _ _ ix_tup (@pv _ 10 _ _ (by rfl) (by first | exact Or.inl rfl | exact Or.inr (Or.inl rfl) | exact Or.inr (Or.inr rfl)) (by decide) (by decide)) pe_int (fun _ _ => rfl)) (by rfl) (by first | exact .inl rfl | exact .inr rfl | assumption))))))) (by intro _; rfl)) (@pss_one _ _ _ (@ps_ret _ _ _ _ pe_non))))), ?_⟩
  walk_at "rd"
  obtain ⟨fb1, sb1, okb1, hb1f, hb1c⟩ := hb1
  obtain ⟨fb2, sb2, okb2, hb2f, hb2c⟩ := hb2
  refine ⟨b1, fb1, [], sb1, rfl, okb1.1, okb1.2, hb1f, hb1c H _ (.refl _) fun v1 H1 w1 st1 n1 => ?_⟩
  refine ⟨b2, fb2, [], sb2, rfl, okb2.1, okb2.2, w1 _ _ hb2f, hb2c _ _ (nl_of w1) fun v2 H2 w2 st2 n2' => ?_⟩
  have n2 : ∀ a, v2 = .ref a → H a = none := fun a e => w1.free (n2' a e)
  have n12 : ∀ a, v1 = .ref a → v2 ≠ .ref a := fun a e1 e2 => by
    obtain ⟨xs, h⟩ := st1.lst e1
    rw [n2' a e2] at h
    cases h
  have w12 := w1.trans w2
  have st1' := st1.keep fun a xs _ h => w2 _ _ h
  have hul := hz.1
  refine tFor_enumL (K := g.K) (a := D) (xs := us) (fun i σ H' => ∃ o7 o8 o9 o10, σ = [some (.ref b1), some (.ref f1), some (.ref b2), some (.ref f2), some (.ref D), some v1, some v2, o7, o8, o9, o10] ∧ Same H H' ∧ StAt H' k1 v1 i ∧ StAt H' k2 v2 i ∧ ∀ (j : Nat) z, j < i → zs[j]? = some z → an k1 (dd z) (z % 5) j = an k2 (dd z) (z % 5) j) (fun R r => by walk_at "rd"; exact r) ⟨_, _, _, _, rfl, w12, st1', st2, fun j z hj => by omega⟩ (fun i σ H' _ ⟨_, _, _, _, _, h, _⟩ => SqL.of (h _ _ hD)) ?_ ?_
  · rintro i x σ H' T hx ⟨o7, o8, o9, o10, rfl, s0, g1, g2, hall⟩ hT
    have hi := (List.getElem?_eq_some_iff.mp hx).1
    have hzi : zs[i]? = some (zs[i]'(by omega)) := List.getElem?_eq_getElem _
    generalize zs[i]'(by omega) = z at hzi
    obtain ⟨L0, hv0⟩ := hz.2 i x z hx hzi
    have de := dd_deed z
    have ddp := de.dp
    have sT := Same.upd_new hT (.tup [.int (i : Int), x])
    have sA := s0.trans sT
    obtain ⟨fd1, sp1, ok1, hf1f, hf1c⟩ := hf1.nl (nl_of sA)
    walk_at "rd"
    refine ⟨_, SqT.of upd_same, rfl, _, _, rfl, _, _, rfl, rfl, f1, fd1, _, sp1, rfl, ok1.1, ok1.2, hf1f, ?_⟩
    walk_at "rd"
    refine ⟨x, dd z, L0, rfl, hv0.keep sA, by omega, fun x1 H3 L1 s3 ow1 => ?_⟩
    have sB := sA.trans s3
    have g1' := (g1.keep fun a xs _ h => sT _ _ h).keep fun a xs _ h => s3 _ _ h
    have g2' := (g2.keep fun a xs _ h => sT _ _ h).keep fun a xs _ h => s3 _ _ h
    have ap1 : ∀ a ∈ L1, v1 ≠ .ref a := fun a ha e => by
      obtain ⟨xs, h⟩ := (g1.keep fun a xs _ h => sT _ _ h).lst e
      rw [ow1.new a ha] at h
      cases h
    refine hf1c H3 v1 x1 i (dd z) (z % 5) L1 _ (nl_of s3) g1' (by omega) ow1.vl de ap1 fun t1 av1 M1 H4 t1f t1v t1d t1M t1s t1k => ?_
    have sC : Same H H4 := fun b o e => t1k b o (fun z => by rw [n1 b z] at e; cases e) (fun hb => by have := ow1.new b hb; rw [sA _ _ e] at this; cases this) (sB _ _ e)
    have g2'' : StAt H4 k2 v2 i := g2'.keep fun a xs e h => t1k a _ (fun z => n12 a z e) (fun hb => by
      obtain ⟨ys, hy⟩ := (g2.keep fun a xs _ h => sT _ _ h).lst e
      rw [ow1.new a hb] at hy
      cases hy) h
    obtain ⟨fd2, sp2, ok2, hf2f, hf2c⟩ := hf2.nl (nl_of sC)
    refine ⟨f2, fd2, _, sp2, rfl, ok2.1, ok2.2, hf2f, ?_⟩
    walk_at "rd"
    refine ⟨x, dd z, L0, rfl, hv0.keep sC, by omega, fun x2 H5 L2 s5 ow2 => ?_⟩
    have ap2 : ∀ a ∈ L2, v2 ≠ .ref a := fun a ha e => by
      obtain ⟨xs, h⟩ := g2''.lst e
      rw [ow2.new a ha] at h
      cases h
    refine hf2c H5 v2 x2 i (dd z) (z % 5) L2 _ (nl_of s5) (g2''.keep fun a xs _ h => s5 _ _ h) (by omega) ow2.vl de ap2 fun t2 av2 M2 H6 t2f t2v t2d t2M t2s t2k => ?_
    have sD : Same H H6 := fun b o e => t2k b o (fun z => by rw [n2 b z] at e; cases e) (fun hb => by have := ow2.new b hb; rw [sC _ _ e] at this; cases this) (s5 _ _ (sC _ _ e))
    have old : ∀ {b : Addr} {o : HO}, v2 ≠ .ref b → H4 b = some o → H6 b = some o := fun {b o} hn e => t2k b o hn (fun hb => by rw [ow2.new b hb] at e; cases e) (s5 _ _ e)
    have tp : Tps H4 H6 := fun b xs e => old (fun z => by
      obtain ⟨ys, hy⟩ := g2''.lst z
      rw [e] at hy
      cases hy) e
    have h21 : H6 t1 = some (.tup [v1, av1]) := tp _ _ t1v
    have hd1 : DL H6 av1 (an k1 (dd z) (z % 5) i) M1 := t1d.keepL tp fun a ha vs e => old (fun z => by
      obtain ⟨ys, hy⟩ := g2'.lst z
      rw [t1M a ha] at hy
      cases hy) e
    have k1s : StAt H6 k1 v1 (i + 1) := t1s.keep fun a xs e h => old (n12 a e) h
    have hdp := an_depth k1 (dd z) (z % 5) i
    refine ⟨_, SqT.of h21, _, rfl, t2, rfl, _, SqT.of t2v, _, rfl, av1, av2, _, _, M1, M2, rfl, hd1, t2d, by omega, fun H7 s7 => ⟨_, rfl, ?_⟩⟩
    cases hsm : sm (an k1 (dd z) (z % 5) i) (an k2 (dd z) (z % 5) i) with
    | false =>
      refine iteY rfl (q (some i) H7 ⟨⟨z, hzi, fun e => ?_⟩, hall⟩ (sD.trans s7))
      rw [e, sm_refl] at hsm
      cases hsm
    | true =>
      refine iteN (by decide) ⟨_, SqT.of (s7 _ _ h21), _, rfl, t2, rfl, _, SqT.of (s7 _ _ t2v), _, rfl, rfl, rfl, ?_⟩
      refine ⟨sD.trans s7, k1s.keep fun a xs _ h => s7 _ _ h, t2s.keep fun a xs _ h => s7 _ _ h, fun j z' hj hz' => ?_⟩
      rcases Nat.lt_succ_iff_lt_or_eq.mp hj with c | rfl
      · exact hall j z' c hz'
      · rw [hzi] at hz'
        cases hz'
        exact sm_eq.mp hsm
  · rintro σ H' ⟨o7, o8, o9, o10, rfl, s0, g1, g2, hall⟩
    walk_at "rd"
    refine q none H' (fun j z hj => hall j z ?_ hj) s0
    have := (List.getElem?_eq_some_iff.mp hj).1
    omega
end KW
set_option maxHeartbeats 8000000
namespace KW
open PySem L2

variable {g : Gx}
variable {m : Nat}
variable {src : List (Option Nat)} {te : TE} {σ : St} {H : Hp} {Q : VK}
local macro_rules | `(tactic| walk_at "gn") => `(tactic| simp only [gName, List.set_cons_zero, List.set_cons_succ])

local macro_rules | `(tactic| walk_at "rd") => `(tactic| simp (config := { failIfUnchanged := false, maxSteps := 10000000 }) only [L2.start, cxOf_K, nox_K, List.map_cons, List.map_nil, List.length_cons, List.length_nil, List.cons_append, List.nil_append, List.replicate_succ, List.replicate_zero, Nat.zero_add, Nat.reduceAdd, Nat.reduceSub, Nat.sub_self, tSeq, tIfS, tTest, tOp, tC, tVar, rI0, rI, rU, tUn, tRet, tRetN, tDrop, tNext, tBreak, tCont, tAsg, gName, gNil, gCons, tCons, tNil, tCB, tCall, tTry, tTryAs, tRaise, sFld, tFld, tMake, tMeth, Ends.gone, caught_K, tB, tAnd, tOr, tNot, tAndV, tOrV, tNotV, tIf, tChain, tNoPart, tPart, tSl, tNever, tAug, rIxL, rIxT, rSlL, tLst, tTup, gTup, tRev, tLZ, tConT, tDict0, tDNewT, tDGet, sDPut, rNotInD, rInD, tEither, tSlStep, rBits, rFind, rIn, tBM, tBM0, rAppend, rReverse, rEq, rNe, scal_ii, scal_ss, rCat, rSetL, gSub, ipI, capSt, List.getD_cons_zero, List.getD_cons_succ, decide_true, not_true_eq_false, not_false_eq_true,
  exists_eq_left', exists_eq_left, exists_eq', exists_eq, exists_and_left, and_assoc, Option.some.injEq, V.int.injEq, V.bl.injEq, V.ref.injEq, V.str.injEq, List.getElem?_cons_zero, List.getElem?_cons_succ, List.set_cons_zero, List.set_cons_succ, List.cons.injEq, and_true, true_and, List.append_nil, decide_eq_true_eq, Bool.not_eq_true', decide_eq_false_iff_not, Bool.not_not, Bool.not_true, Bool.not_false, Bool.true_eq_false, Bool.false_eq_true, if_true, if_false, ite_true, ite_false])

def sp_begin (fv vs : List V) (H : Hp) (Q : VK) : Prop := fv = [] ∧ vs = [] ∧ ∀ D, H D = none → Q (.ref D) (upd H D (.lst []))
theorem ok_law_thing__law_begin {k : Nat}  {f_ c_ : Addr} {doc pm ctv : Value} {l : Caps}  (hl : l.map (·.1) = ([] : List Str)) (hnd : l.as.Nodup) : FnOk g.P g.w g.K g.mg g.base CX0 (k + 1) f_ (fd_law_thing__law_begin l.cl c_ doc pm ctv) [] (fun vs H Q _ => ClIn H f_ c_ (fd_law_thing__law_begin l.cl c_ doc pm ctv) q_law_thing__law_begin l ∧ (sp_begin) l.vs vs (off H l.as) fun v H' => (∀ c ∈ l.as, H' c = none) → Q v (on H' H l.as)) := by
  refine clos_of (N := []) (by rw [hl]; exact sc_law_thing__law_begin) hnd (fun vs H Q h => by obtain ⟨hfv, rfl, q⟩ := h; rfl) fun A outer s H vs Q hr h => ?_
  obtain ⟨hfv, rfl, q⟩ := h
  refine ⟨_, (@pss_one _ _ _ (@ps_ret _ _ _ _ (@pe_lst _ _ _ _ pa_nil))), ?_⟩
  rw [hfv]
  show (tRet _ : TS) _ [] H
  walk_at "rd"
  exact ⟨few (by decide), q⟩
def sp_done (fv vs : List V) (H : Hp) (Q : VK) : Prop := ∃ (bad : Int) (stt : Addr) (xs : List V) (v : V) (d : PyData) (m : Int) (L : List Addr), fv = [.int bad] ∧ vs = [.ref stt, v] ∧ H stt = some (.lst xs) ∧ xs.length ≤ 2000 ∧ VL H v d L ∧ Deed d m ∧ stt ∉ L ∧
  ∀ t p H', H t = none → H p = none → H' t = some (.tup [.ref stt, .ref p]) → H' p = some (.lst [.int ((lens d).length : Nat), .int (((lens d).sum : Nat) + (if m = bad then 1 else 0)), .int (xs.length : Nat)]) → H' stt = some (.lst (xs ++ [.int 1])) → (∀ b o, b ≠ stt → b ∉ L → H b = some o → H' b = some o) → Q (.ref t) H'
theorem ok_law_thing__law_done {k : Nat}  {f_ c_ : Addr} {doc pm ctv : Value} {l : Caps} (F_law_lists : g.Fn k "_law_lists" ["_law_value"] (sp_law_lists 5)) (F_law_mark : g.Fn k "_law_mark" ["_law_deed_here"] (sp_law_mark)) (b_int : g.mg "int" = none) (b_len : g.mg "len" = none) (b_sum : g.mg "sum" = none) (hl : l.map (·.1) = (["_law_bad"] : List Str)) (hnd : l.as.Nodup) : FnOk g.P g.w g.K g.mg g.base CX0 (k + 1) f_ (fd_law_thing__law_done l.cl c_ doc pm ctv) ["_law_state", "_law_deed_here"] (fun vs H Q _ => ClIn H f_ c_ (fd_law_thing__law_done l.cl c_ doc pm ctv) q_law_thing__law_done l ∧ (sp_done) l.vs vs (off H l.as) fun v H' => (∀ c ∈ l.as, H' c = none) → Q v (on H' H l.as)) := by
  refine clos_of (N := ["_law_state", "_law_deed_here", "_law_some", "_law_answer", "_law_one", "_law_bad"]) (by rw [hl]; exact sc_law_thing__law_done) hnd (fun vs H Q h => by obtain ⟨bad, stt, xs, v, d, m, L, hfv, rfl, hs, hx, hv, hd, hnL, q⟩ := h; rfl) fun A outer s H vs Q hr h => ?_
  obtain ⟨bad, stt, xs, v, d, m, L, hfv, rfl, hs, hx, hv, hd, hnL, q⟩ := h
  refine ⟨_, (@pss_cons _ _ _ _ _ (@ps_set _ _ (2) _ _ _ _ sc_law_thing__law_done.nd rfl (Or.inl rfl) (@pe_fn _ _ _ _ _ _ _ _ _ _ _ _ F_law_lists hr (@pa_cons _ _ _ _ _ (@pv _ 1 _ _ (by rfl) (by first | exact Or.inl rfl | exact Or.inr (Or.inl rfl) | exact Or.inr (Or.inr rfl)) (by decide) (by decide)) pa_nil (by rfl)) (by omega) (by rfl) (by rfl) (by decide) (by rfl) (by rfl)) (by rfl) (by first | exact .inl rfl | exact .inr rfl | assumption)) (@pss_cons _ _ _ _ _ (@ps_set _ _ (3) _ _ _ _ sc_law_thing__law_done.nd rfl (Or.inl rfl) (@pe_lst _ _ _ _ (@pa_cons _ _ _ _ _ (@pe_bf _ _ _ _ _ _ _ _ _ _ b_len call_len_seq (@pa_cons _ _ _ _ _ (@pv _ 2 _ _ (by rfl) (by first | exact Or.inl rfl | exact Or.inr (Or.inl rfl) | exact Or.inr (Or.inr rfl)) (by decide) (by decide)) pa_nil (by rfl)) (by decide +kernel) (by rfl) (by rfl) (by decide) (by decide) (by rfl) (by rfl)) (@pa_cons _ _ _ _ _ (@pe_op _ _ _ _ _ _ _ _ op_add (@pe_bf _ _ _ _ _ _ _ _ _ _ b_sum call_sum_ints (@pa_cons _ _ _ _ _ (@pe_lc _ _ _ _ _ _ _ ([none]) ((["_law_one"] : List Str)) _ (gName 0) _ _ (.own .nil) rfl (@pi_list _ _ _ _ (@pv _ 2 _ _ (by rfl) (by first | exact Or.inl rfl | exact Or.inr (Or.inl rfl) | exact Or.inr (Or.inr rfl)) (by decide) (by decide))) (fun cl C s₀ H₀ fp pn => (@pg_name _ _ (0) _ (show List.Nodup (["_law_one"] : List Str) by decide +kernel) rfl (Or.inl rfl) (Or.inr rfl))) (fun cl C s₀ H₀ fp pn => pts_nil) (fun cl C s₀ H₀ fp pn => (@pe_bf _ _ _ _ _ _ _ _ _ _ b_len (call_len_seqK (K := g.K)) (@pa_cons _ _ _ _ _ (@pv _ 0 _ _ (by rfl) (by first | exact Or.inl rfl | exact Or.inr (Or.inl rfl) | exact Or.inr (Or.inr rfl)) (by decide) (by decide)) pa_nil (by rfl)) (by decide +kernel) (by rfl) (by rfl) (by decide) (by decide) (by rfl) (by rfl))) (by intro x hx; simp at hx) (by rfl) (by decide) (by decide +kernel) (by intro _; rfl)) pa_nil (by rfl)) (by decide +kernel) (by rfl) (by rfl) (by decide) (by decide) (by rfl) (by rfl)) (@pe_bt _ _ _ _ _ _ _ _ _ _ b_int call_int1 (@pa_cons _ _ _ _ _ (@pe_cmpR _ _ _ _ _ _ _ _ op_eq (@pe_fn _ _ _ _ _ _ _ _ _ _ _ _ F_law_mark hr (@pa_cons _ _ _ _ _ (@pv _ 1 _ _ (by rfl) (by first | exact Or.inl rfl | exact Or.inr (Or.inl rfl) | exact Or.inr (Or.inr rfl)) (by decide) (by decide)) pa_nil (by rfl)) (by omega) (by rfl) (by rfl) (by decide) (by rfl) (by rfl)) (@pv _ 5 _ _ (by rfl) (by first | exact Or.inl rfl | exact Or.inr (Or.inl rfl) | exact Or.inr (Or.inr rfl)) (by decide) (by decide)) (nomark _)) pa_nil (by rfl)) (by decide +kernel) (by rfl) (by rfl) (by decide) (by decide) (by rfl) (by rfl))) (@pa_cons _ _ _ _ _ (@pe_bf _ _ _ _ _ _ _ _ _ _ b_len call_len_seq (@pa_cons _ _ _ _ _ (@pv _ 0 _ _ (by rfl) (by first | exact Or.inl rfl | exact Or.inr (Or.inl rfl) | exact Or.inr (Or.inr rfl)) (by decide) (by decide)) pa_nil (by rfl)) (by decide +kernel) (by rfl) (by rfl) (by decide) (by decide) (by rfl) (by rfl)) pa_nil (by rfl)) (by rfl)) (by rfl))) (by rfl) (by first | exact .inl rfl | exact .inr rfl | assumption)) (@pss_cons _ _ _ _ _ (@ps_for _ _ _ _ _ _ _ _ PassesOwn.never rfl (@pi_list _ _ _ _ (@pv _ 2 _ _ (by rfl) (by first | exact Or.inl rfl | exact Or.inr (Or.inl rfl) | exact Or.inr (Or.inr rfl)) (by decide) (by decide))) (@pg_name _ _ (4) _ sc_law_thing__law_done.nd rfl (Or.inl rfl) (by first | exact .inl rfl | exact .inr rfl | assumption)) (@pss_one _ _ _ (@ps_expr _ _ _ _ (@pe_bm _ _ _ _ _ _ _ _ _ _ _ _ PySem.F.plainAttrs_list PySem.F.slot_list_append PySem.F.type_list_append mt_append (@pv _ 4 _ _ (by rfl) (by first | exact Or.inl rfl | exact Or.inr (Or.inl rfl) | exact Or.inr (Or.inr rfl)) (by decide) (by decide)) (@pa_cons _ _ _ _ _ pe_int pa_nil (by rfl)) (by rfl) (by rfl) (by rfl) (by rfl) (by rfl)) (by rfl))) (by intro _; rfl)) (@pss_cons _ _ _ _ _ (@ps_expr _ _ _ _ (@pe_bm _ _ _ _ _ _ _ _ _ _ _ _ PySem.F.plainAttrs_list PySem.F.slot_list_append PySem.F.type_list_append mt_append (@pv _ 0 _ _ (by rfl) (by first | exact Or.inl rfl | exact Or.inr (Or.inl rfl) | exact Or.inr (Or.inr rfl)) (by decide) (by decide)) (@pa_cons _ _ _ _ _ pe_int pa_nil (by rfl)) (by rfl) (by rfl) (by rfl) (by rfl) (by rfl)) (by rfl)) (@pss_one _ _ _ (@ps_ret _ _ _ _ (@pe_tup _ _ _ _ _ (@pa_cons _ _ _ _ _ (@pv _ 0 _ _ (by rfl) (by first | exact Or.inl rfl | exact Or.inr (Or.inl rfl) | exact Or.inr (Or.inr rfl)) (by decide) (by decide)) (@pa_cons _ _ _ _ _ (@pv _ 3 _ _ (by rfl) (by first | exact Or.inl rfl | exact Or.inr (Or.inl rfl) | exact Or.inr (Or.inr rfl)) (by decide) (by decide)) pa_nil (by rfl)) (by rfl))))))))), ?_⟩
  rw [hfv]
  show (_ : TS) _ [some (.ref stt), some v, none, none, none, some (.int bad)] H
  have hdp := hd.dp
  have hLl : L.length ≤ 3 := by rw [(vl_lens hv).length]; exact hd.nl
  walk_at "rd"
  refine ⟨v, d, L, rfl, hv, by omega, by omega, fun S H1 s1 hSn hS => ?_⟩
  walk_at "rd"
  have hla0 := vl_lens hv
  have hLa : ∀ a ∈ L, ∃ us, H a = some (.lst us) ∧ us.length ≤ 3 := fun a ha => by
    obtain ⟨j, hj, e⟩ := List.getElem_of_mem ha
    obtain ⟨us, h1, h2⟩ := hla0.at (i := j) (by rw [List.getElem?_eq_getElem hj, e])
    exact ⟨us, h1, hd.ll _ (List.mem_of_getElem? h2)⟩
  have hSL : S ∉ L := fun hm => by
    obtain ⟨us, h1, _⟩ := hLa S hm
    rw [hSn] at h1
    cases h1
  refine ⟨_, .inl (SqL.of hS), ?_⟩
  refine tLC_relD (K := g.K) (xs := L.map V.ref) (b := S) (fun _ j y _ => ∃ n : Nat, (lens d)[j]? = some n ∧ y = .int n) (fun _ _ _ _ _ h _ => h) (fun _ _ _ _ _ _ h _ => h) (fun R r => by walk_at "rd"; exact r) (SqL.of hS) (by rw [List.length_map]; omega) ?_ ?_
  · intro D2 j x H' zs hx' sm hD2 R r
    rw [List.getElem?_map] at hx'
    obtain ⟨a, ha, rfl⟩ := Option.map_eq_some_iff.mp hx'
    obtain ⟨us, h1, h2⟩ := hla0.at ha
    walk_at "rd"
    exact ⟨us, .inl (SqL.of (sm _ _ (s1 _ _ h1))), r _ _ (.refl _) ⟨_, h2, rfl⟩⟩
  · intro D2 ys H2 hD2n sm2 hys hyl hrel
    have ey : ys = ((lens d).map fun (n : Nat) => (n : Int)).map V.int := by
      refine List.ext_getElem? fun j => ?_
      have hl1 := hla0.length
      rw [List.length_map] at hyl
      by_cases c : j < ys.length
      · have e1 : ys[j]? = some ys[j] := List.getElem?_eq_getElem c
        obtain ⟨n, h1, h2⟩ := hrel j _ e1
        rw [e1, h2, List.map_map, List.getElem?_map, h1]
        rfl
      · rw [List.getElem?_eq_none (by omega), List.getElem?_eq_none (by rw [List.length_map, List.length_map]; omega)]
    rw [ey] at hys
    have es : ((lens d).map fun (n : Nat) => (n : Int)).sum = ((lens d).sum : Nat) := by
      generalize lens d = l
      induction l with
      | nil => rfl
      | cons a l ih => rw [List.map_cons, List.sum_cons, List.sum_cons, ih]; omega
    have s12 := s1.trans sm2
    refine ⟨D2, rfl, (lens d).map fun (n : Nat) => (n : Int), SqL.of hys, v, d, L, m, rfl, hv.keep s12, hd, rfl, .inr ⟨xs, .inl (SqL.of (s12 _ _ hs)), few (by decide), fun p hp => ?_⟩⟩
    have hpn := s12.free hp
    rw [List.length_map, hla0.length, es]
    obtain ⟨HB, hHB⟩ : ∃ HB, HB = upd H2 p (.lst [V.int ((lens d).length : Nat), V.int (((lens d).sum : Nat) + (if m = bad then 1 else 0)), V.int (xs.length : Nat)]) := ⟨_, rfl⟩
    have sB : Same H2 HB := by rw [hHB]; exact .upd_new hp _
    have sHB := s12.trans sB
    have hBp : HB p = some (.lst [V.int ((lens d).length : Nat), V.int (((lens d).sum : Nat) + (if m = bad then 1 else 0)), V.int (xs.length : Nat)]) := by rw [hHB, upd_same]
    have hBS := sB _ _ (sm2 _ _ hS)
    have hpL : p ∉ L := fun hm => by
      obtain ⟨us, h1, _⟩ := hLa p hm
      rw [hpn] at h1
      cases h1
    refine tFor_listN (K := g.K) (xs := L.map V.ref) (fun c i σ H' => c = S ∧ (∃ o, σ = [some (.ref stt), some v, some (.ref S), some (.ref p), o, some (.int bad)]) ∧ (∀ b o, b ∉ L → HB b = some o → H' b = some o) ∧ ∀ a ∈ L, ∃ us, H' a = some (.lst us) ∧ us.length ≤ 3 + i) (fun R r => by walk_at "rd"; exact r S _ ⟨rfl, ⟨_, rfl⟩, fun b o _ h => by rw [hHB] at h; simpa using h, fun a ha => by
      obtain ⟨us, h1, h2⟩ := hLa a ha
      have := sHB _ _ h1
      rw [hHB] at this
      exact ⟨us, by simpa using this, by omega⟩⟩) (fun c i σ H' _ ⟨e, _, h, _⟩ => by subst e; exact SqL.of (h _ _ hSL hBS)) ?_ ?_
    · rintro c i x σ H' hx' ⟨rfl, ⟨o, rfl⟩, hk, hla⟩
      have hi := (List.getElem?_eq_some_iff.mp hx').1
      rw [List.length_map] at hi
      rw [List.getElem?_map] at hx'
      obtain ⟨a, ha, rfl⟩ := Option.map_eq_some_iff.mp hx'
      obtain ⟨us, h1, h2⟩ := hla a (List.mem_of_getElem? ha)
      walk_at "rd"
      refine ⟨.inl ⟨rfl, _, SqL.of h1⟩, us, h1, few (by omega), fun b o hb e => ?_, fun b hb => ?_⟩
      · rw [upd_ne fun z => hb (by rw [z]; exact List.mem_of_getElem? ha)]
        exact hk b o hb e
      · by_cases c : b = a
        · subst c
          exact ⟨_, upd_same, by rw [List.length_append, List.length_singleton]; omega⟩
        · obtain ⟨us', h3, h4⟩ := hla b hb
          exact ⟨us', by rw [upd_ne c]; exact h3, by omega⟩
    · rintro c σ H' ⟨rfl, ⟨o, rfl⟩, hk, hla⟩
      have hs' := hk stt _ hnL (sHB _ _ hs)
      have free : ∀ {b : Addr}, H' b = none → H b = none := fun {b} e => by
        cases h : H b with
        | none => rfl
        | some o =>
          exfalso
          by_cases hb : b ∈ L
          · obtain ⟨us, h1, _⟩ := hla b hb
            rw [e] at h1
            cases h1
          · rw [hk b o hb (sHB _ _ h)] at e
            cases e
      walk_at "rd"
      refine ⟨.inl ⟨rfl, _, SqL.of hs'⟩, xs, hs', few (by omega), few (by decide), fun t ht => ?_⟩
      have hts : t ≠ stt := fun z => by rw [z, upd_same] at ht; cases ht
      have ht' : H' t = none := by rw [upd_ne hts] at ht; exact ht
      have hp' := hk p _ hpL hBp
      have hps : p ≠ stt := fun z => by rw [z, hs] at hpn; cases hpn
      have sT := Same.upd_new ht (.tup [V.ref stt, V.ref p])
      refine q t p _ (free ht') hpn upd_same (sT _ _ (by rw [upd_ne hps]; exact hp')) (sT _ _ upd_same) fun b o b1 b2 e => sT _ _ (by rw [upd_ne b1]; exact hk b o b2 (sHB _ _ e))
end KW
set_option maxHeartbeats 8000000
namespace KW
open PySem L2

variable {g : Gx}
variable {m : Nat}
variable {src : List (Option Nat)} {te : TE} {σ : St} {H : Hp} {Q : VK}
local macro_rules | `(tactic| walk_at "gn") => `(tactic| simp only [gName, List.set_cons_zero, List.set_cons_succ])

local macro_rules | `(tactic| walk_at "rd") => `(tactic| simp (config := { failIfUnchanged := false, maxSteps := 10000000 }) only [L2.start, cxOf_K, nox_K, List.map_cons, List.map_nil, List.length_cons, List.length_nil, List.cons_append, List.nil_append, List.replicate_succ, List.replicate_zero, Nat.zero_add, Nat.reduceAdd, Nat.reduceSub, Nat.sub_self, tSeq, tIfS, tTest, tOp, tC, tVar, rI0, rI, rU, tUn, tRet, tRetN, tDrop, tNext, tBreak, tCont, tAsg, gName, gNil, gCons, tCons, tNil, tCB, tCall, tTry, tTryAs, tRaise, sFld, tFld, tMake, tMeth, Ends.gone, caught_K, tB, tAnd, tOr, tNot, tAndV, tOrV, tNotV, tIf, tChain, tNoPart, tPart, tSl, tNever, tAug, rIxL, rIxT, rSlL, tLst, tTup, gTup, tRev, tLZ, tConT, tDict0, tDNewT, tDGet, sDPut, rNotInD, rInD, tEither, tSlStep, rBits, rFind, rIn, tBM, tBM0, rAppend, rReverse, rEq, rNe, scal_ii, scal_ss, rCat, rSetL, gSub, ipI, capSt, List.getD_cons_zero, List.getD_cons_succ, decide_true, not_true_eq_false, not_false_eq_true,
  exists_eq_left', exists_eq_left, exists_eq', exists_eq, exists_and_left, and_assoc, Option.some.injEq, V.int.injEq, V.bl.injEq, V.ref.injEq, V.str.injEq, List.getElem?_cons_zero, List.getElem?_cons_succ, List.set_cons_zero, List.set_cons_succ, List.cons.injEq, and_true, true_and, List.append_nil, decide_eq_true_eq, Bool.not_eq_true', decide_eq_false_iff_not, Bool.not_not, Bool.not_true, Bool.not_false, Bool.true_eq_false, Bool.false_eq_true, if_true, if_false, ite_true, ite_false])

def sp_still_begin (fv vs : List V) (H : Hp) (Q : VK) : Prop := fv = [] ∧ vs = [] ∧ Q .non H
theorem ok_law_still__law_begin {k : Nat}  {f_ c_ : Addr} {doc pm ctv : Value} {l : Caps}  (hl : l.map (·.1) = ([] : List Str)) (hnd : l.as.Nodup) : FnOk g.P g.w g.K g.mg g.base CX0 (k + 1) f_ (fd_law_still__law_begin l.cl c_ doc pm ctv) [] (fun vs H Q _ => ClIn H f_ c_ (fd_law_still__law_begin l.cl c_ doc pm ctv) q_law_still__law_begin l ∧ (sp_still_begin) l.vs vs (off H l.as) fun v H' => (∀ c ∈ l.as, H' c = none) → Q v (on H' H l.as)) := by
  refine clos_of (N := []) (by rw [hl]; exact sc_law_still__law_begin) hnd (fun vs H Q h => by obtain ⟨hfv, rfl, q⟩ := h; rfl) fun A outer s H vs Q hr h => ?_
  obtain ⟨hfv, rfl, q⟩ := h
  refine ⟨_, (@pss_one _ _ _ (@ps_ret _ _ _ _ pe_non)), ?_⟩
  rw [hfv]
  show (tRet _ : TS) _ [] H
  walk_at "rd"
  exact q
def sp_still_done (fv vs : List V) (H : Hp) (Q : VK) : Prop := ∃ u v, fv = [] ∧ vs = [u, v] ∧ ∀ t, H t = none → Q (.ref t) (upd H t (.tup [u, .non]))
theorem ok_law_still__law_done {k : Nat}  {f_ c_ : Addr} {doc pm ctv : Value} {l : Caps}  (hl : l.map (·.1) = ([] : List Str)) (hnd : l.as.Nodup) : FnOk g.P g.w g.K g.mg g.base CX0 (k + 1) f_ (fd_law_still__law_done l.cl c_ doc pm ctv) ["_law_state", "_law_deed_here"] (fun vs H Q _ => ClIn H f_ c_ (fd_law_still__law_done l.cl c_ doc pm ctv) q_law_still__law_done l ∧ (sp_still_done) l.vs vs (off H l.as) fun v H' => (∀ c ∈ l.as, H' c = none) → Q v (on H' H l.as)) := by
  refine clos_of (N := ["_law_state", "_law_deed_here"]) (by rw [hl]; exact sc_law_still__law_done) hnd (fun vs H Q h => by obtain ⟨u, v, hfv, rfl, q⟩ := h; rfl) fun A outer s H vs Q hr h => ?_
  obtain ⟨u, v, hfv, rfl, q⟩ := h
  refine ⟨_, (@pss_one _ _ _ (@ps_ret _ _ _ _ (@pe_tup _ _ _ _ _ (@pa_cons _ _ _ _ _ (@pv _ 0 _ _ (by rfl) (by first | exact Or.inl rfl | exact Or.inr (Or.inl rfl) | exact Or.inr (Or.inr rfl)) (by decide) (by decide)) (@pa_cons _ _ _ _ _ pe_non pa_nil (by rfl)) (by rfl))))), ?_⟩
  rw [hfv]
  show (tRet _ : TS) _ [some u, some v] H
  walk_at "rd"
  exact ⟨few (by decide), q⟩
def sp_judge (g : Gx) (fv vs : List V) (H : Hp) (Q : VK) : Prop := ∃ (b1 f1 b2 f2 D : Addr) (k1 k2 : Option Int) (us : List V) (zs : List Int), fv = [.ref f2, .ref b2, .ref f1, .ref b1] ∧ vs = [.ref D] ∧ BegOk g H b1 k1 ∧ DoneOk g H f1 k1 ∧ BegOk g H b2 k2 ∧ DoneOk g H f2 k2 ∧
  H D = some (.lst us) ∧ Vz H us zs ∧ zs.length ≤ 1200 ∧ ∀ o H', IsAp k1 k2 zs o → Same H H' → Q (.bl o.isNone) H'
theorem ok_deed_judge_lam {k : Nat}  {f_ c_ : Addr} {pm ctv : Value} {l : Caps} (F_apart : g.Fn k "apart" ["begin", "done", "model_begin", "model_done", "deeds"] (sp_apart g)) (hl : l.map (·.1) = (["model_done", "model_begin", "done", "begin"] : List Str)) (hnd : l.as.Nodup) : FnOk g.P g.w g.K g.mg g.base CX0 (k + 1) f_ (fd_deed_judge_lam l.cl c_ pm ctv) ["deeds"] (fun vs H Q _ => ClIn H f_ c_ (fd_deed_judge_lam l.cl c_ pm ctv) q_deed_judge_lam l ∧ (sp_judge g) l.vs vs (off H l.as) fun v H' => (∀ c ∈ l.as, H' c = none) → Q v (on H' H l.as)) := by
  refine lam_of (N := ["deeds", "model_done", "model_begin", "done", "begin"]) (by rw [hl]; exact sc_deed_judge_lam) hnd (fun vs H Q h => by obtain ⟨b1, f1, b2, f2, D, k1, k2, us, zs, hfv, rfl, hb1, hf1, hb2, hf2, hD, hz, hl, q⟩ := h; rfl) fun A outer s H vs Q hr h => ?_
  obtain ⟨b1, f1, b2, f2, D, k1, k2, us, zs, hfv, rfl, hb1, hf1, hb2, hf2, hD, hz, hl, q⟩ := h
  refine ⟨_, (@pe_cmpR _ _ _ _ _ _ _ _ op_isN (@pe_fn _ _ _ _ _ _ _ _ _ _ _ _ F_apart hr (@pa_cons _ _ _ _ _ (@pv _ 4 _ _ (by rfl) (by first | exact Or.inl rfl | exact Or.inr (Or.inl rfl) | exact Or.inr (Or.inr rfl)) (by decide) (by decide)) (@pa_cons _ _ _ _ _ (@pv _ 3 _ _ (by rfl) (by first | exact Or.inl rfl | exact Or.inr (Or.inl rfl) | exact Or.inr (Or.inr rfl)) (by decide) (by decide)) (@pa_cons _ _ _ _ _ (@pv _ 2 _ _ (by rfl) (by first | exact Or.inl rfl | exact Or.inr (Or.inl rfl) | exact Or.inr (Or.inr rfl)) (by decide) (by decide)) (@pa_cons _ _ _ _ _ (@pv _ 1 _ _ (by rfl) (by first | exact Or.inl rfl | exact Or.inr (Or.inl rfl) | exact Or.inr (Or.inr rfl)) (by decide) (by decide)) (@pa_cons _ _ _ _ _ (@pv _ 0 _ _ (by rfl) (by first | exact Or.inl rfl | exact Or.inr (Or.inl rfl) | exact Or.inr (Or.inr rfl)) (by decide) (by decide)) pa_nil (by rfl)) (by rfl)) (by rfl)) (by rfl)) (by rfl)) (by omega) (by rfl) (by rfl) (by decide) (by rfl) (by rfl)) pe_non (nomark _)), ?_⟩
  rw [hfv]
  show (_ : TE) [some (.ref D), some (.ref f2), some (.ref b2), some (.ref f1), some (.ref b1)] H _
  walk_at "rd"
  refine ⟨b1, f1, b2, f2, D, k1, k2, us, zs, rfl, hb1, hf1, hb2, hf2, hD, hz, hl, fun o H' ho s => ?_⟩
  have := q o H' ho s
  cases o with
  | none => exact this
  | some i => exact this
end KW
set_option maxHeartbeats 8000000
namespace KW
open PySem L2

variable {g : Gx}
variable {m : Nat}
variable {src : List (Option Nat)} {te : TE} {σ : St} {H : Hp} {Q : VK}
local macro_rules | `(tactic| walk_at "gn") => `(tactic| simp only [gName, List.set_cons_zero, List.set_cons_succ])

local macro_rules | `(tactic| walk_at "rd") => `(tactic| simp (config := { failIfUnchanged := false, maxSteps := 10000000 }) only [L2.start, cxOf_K, nox_K, List.map_cons, List.map_nil, List.length_cons, List.length_nil, List.cons_append, List.nil_append, List.replicate_succ, List.replicate_zero, Nat.zero_add, Nat.reduceAdd, Nat.reduceSub, Nat.sub_self, tSeq, tIfS, tTest, tOp, tC, tVar, rI0, rI, rU, tUn, tRet, tRetN, tDrop, tNext, tBreak, tCont, tAsg, gName, gNil, gCons, tCons, tNil, tCB, tCall, tTry, tTryAs, tRaise, sFld, tFld, tMake, tMeth, Ends.gone, caught_K, tB, tAnd, tOr, tNot, tAndV, tOrV, tNotV, tIf, tChain, tNoPart, tPart, tSl, tNever, tAug, rIxL, rIxT, rSlL, tLst, tTup, gTup, tRev, tLZ, tConT, tDict0, tDNewT, tDGet, sDPut, rNotInD, rInD, tEither, tSlStep, rBits, rFind, rIn, tBM, tBM0, rAppend, rReverse, rEq, rNe, scal_ii, scal_ss, rCat, rSetL, gSub, ipI, capSt, List.getD_cons_zero, List.getD_cons_succ, decide_true, not_true_eq_false, not_false_eq_true,
  exists_eq_left', exists_eq_left, exists_eq', exists_eq, exists_and_left, and_assoc, Option.some.injEq, V.int.injEq, V.bl.injEq, V.ref.injEq, V.str.injEq, List.getElem?_cons_zero, List.getElem?_cons_succ, List.set_cons_zero, List.set_cons_succ, List.cons.injEq, and_true, true_and, List.append_nil, decide_eq_true_eq, Bool.not_eq_true', decide_eq_false_iff_not, Bool.not_not, Bool.not_true, Bool.not_false, Bool.true_eq_false, Bool.false_eq_true, if_true, if_false, ite_true, ite_false])

/-- a call that judges a row of deeds -/
def JudgeOk (g : Gx) (H : Hp) (f : Addr) (k1 k2 : Option Int) : Prop := ∃ fd sp, Okf g 16 f fd ["deeds"] sp ∧ H f = some (FnO f fd) ∧
  ∀ (H1 : Hp) (D : Addr) (us : List V) (zs : List Int) (Q : VK), NL H H1 → H1 D = some (.lst us) → Vz H1 us zs → zs.length ≤ 1200 → (∀ o H', IsAp k1 k2 zs o → Same H1 H' → Q (.bl o.isNone) H') → H1 f = some (FnO f fd) ∧ sp [.ref D] H1 Q E0
theorem JudgeOk.nl {g : Gx} {H H' : Hp} {f : Addr} {k1 k2 : Option Int} (h : JudgeOk g H f k1 k2) (n : NL H H') : JudgeOk g H' f k1 k2 := by
  obtain ⟨fd, sp, h1, h2, h3⟩ := h
  exact ⟨fd, sp, h1, n.2 _ _ h2, fun H1 D us zs Q n1 => h3 H1 D us zs Q (n.trans n1)⟩
theorem beg_thing {g : Gx} {H : Hp} {b c : Addr} {bad : Int} {doc pm ctv : Value} (h : ClIn H b c (fd_law_thing__law_begin [] c doc pm ctv) q_law_thing__law_begin []) : BegOk g H b (some bad) := by
  have F := ok_law_thing__law_begin (g := g) (k := 7) (f_ := b) (c_ := c) (doc := doc) (pm := pm) (ctv := ctv) (l := []) rfl (by simp [Caps.as])
  refine ⟨_, _, ⟨F, fun us hl => ?_⟩, h.1, fun H1 Q n1 hq => ⟨(cl_nl h n1).1, cl_nl h n1, rfl, rfl, fun D hD hc => ?_⟩⟩
  · match us, hl with
    | [], _ => rfl
  · have e1 : off H1 (Caps.as []) = H1 := by funext z; exact off_out (by simp [Caps.as])
    have e2 : ∀ H' : Hp, on H' H1 (Caps.as []) = H' := fun H' => by funext z; exact on_out (by simp [Caps.as])
    rw [e1] at hD
    rw [e2, e1]
    exact hq (.ref D) _ (.upd_new hD _) ⟨D, [], rfl, upd_same, rfl⟩ fun a e => by rw [← V.ref.inj e]; exact hD
theorem done_thing {g : Gx} {H : Hp} {f c x : Addr} {bad : Int} {doc pm ctv : Value} (F0 : g.Fn 7 "_law_lists" ["_law_value"] (sp_law_lists 5)) (F1 : g.Fn 7 "_law_mark" ["_law_deed_here"] sp_law_mark)
    (bn : g.mg "len" = none) (bn2 : g.mg "sum" = none) (bn3 : g.mg "int" = none)
    (h : ClIn H f c (fd_law_thing__law_done [("_law_bad", x)] c doc pm ctv) q_law_thing__law_done [("_law_bad", x, .int bad)]) : DoneOk g H f (some bad) := by
  have F := ok_law_thing__law_done (g := g) (k := 7) (f_ := f) (c_ := c) (doc := doc) (pm := pm) (ctv := ctv) (l := [("_law_bad", x, .int bad)]) F0 F1 bn3 bn bn2 rfl (by simp [Caps.as])
  refine ⟨_, _, ⟨F, fun us hl => ?_⟩, h.1, fun H1 sv v i d m L Q n1 hst hi hv hd hnL hq => ?_⟩
  · match us, hl with
    | [_, _], _ => rfl
  · obtain ⟨stt, xs, rfl, hs, hxl⟩ := hst
    have hin := (cl_nl h n1).2.2
    have tp : Tps H1 (off H1 (Caps.as [("_law_bad", x, V.int bad)])) := fun a vs e => off_tup hin e
    have vk : VL (off H1 (Caps.as [("_law_bad", x, V.int bad)])) v d L := hv.keepL tp fun a _ vs e => off_get hin e (by intro φ z; cases z)
    refine ⟨(cl_nl h n1).1, cl_nl h n1, bad, stt, xs, v, d, m, L, rfl, rfl, off_get hin hs (by intro φ z; cases z), by omega, vk, hd, fun hm => hnL _ hm rfl, fun t p H' h1 h2 h3 h4 h5 h6 hc => ?_⟩
    have out : ∀ {a : Addr} {o : HO}, H' a = some o → a ∉ Caps.as [("_law_bad", x, V.int bad)] := fun e hm => by rw [hc _ hm] at e; cases e
    refine hq t (.ref p) [p] _ (by rw [off_out (out h3)] at h1; exact h1) (by rw [on_out (out h3)]; exact h3) ?_ (fun a ha => ?_) ⟨stt, _, rfl, by rw [on_out (out h5)]; exact h5, by rw [List.length_append, hxl]; rfl⟩ fun b o b1 b2 e => ?_
    · have hp := (on_out (H := H1) (H' := H') (out h4)).trans h4
      rw [hxl] at hp
      exact .lst hp (by simp) (.cons (.int _) (.cons (.int _) (.cons (.int _) .nil)))
    · have : a = p := by simpa using ha
      subst this
      rw [off_out (out h4)] at h2
      exact h2
    · by_cases hb : b ∈ Caps.as [("_law_bad", x, V.int bad)]
      · rw [on_in hb]; exact e
      · rw [on_out hb]; exact h6 b o (fun z => b1 (by rw [z])) b2 (by rw [off_out hb]; exact e)
theorem beg_still {g : Gx} {H : Hp} {b c : Addr} {doc pm ctv : Value} (h : ClIn H b c (fd_law_still__law_begin [] c doc pm ctv) q_law_still__law_begin []) : BegOk g H b none := by
  have F := ok_law_still__law_begin (g := g) (k := 7) (f_ := b) (c_ := c) (doc := doc) (pm := pm) (ctv := ctv) (l := []) rfl (by simp [Caps.as])
  refine ⟨_, _, ⟨F, fun us hl => ?_⟩, h.1, fun H1 Q n1 hq => ⟨(cl_nl h n1).1, cl_nl h n1, rfl, rfl, fun hc => ?_⟩⟩
  · match us, hl with
    | [], _ => rfl
  · have e1 : off H1 (Caps.as []) = H1 := by funext z; exact off_out (by simp [Caps.as])
    have e2 : ∀ H' : Hp, on H' H1 (Caps.as []) = H' := fun H' => by funext z; exact on_out (by simp [Caps.as])
    rw [e2, e1]
    exact hq .non _ (.refl _) rfl fun a e => by cases e
theorem done_still {g : Gx} {H : Hp} {f c : Addr} {doc pm ctv : Value} (h : ClIn H f c (fd_law_still__law_done [] c doc pm ctv) q_law_still__law_done []) : DoneOk g H f none := by
  have F := ok_law_still__law_done (g := g) (k := 7) (f_ := f) (c_ := c) (doc := doc) (pm := pm) (ctv := ctv) (l := []) rfl (by simp [Caps.as])
  refine ⟨_, _, ⟨F, fun us hl => ?_⟩, h.1, fun H1 sv v i d m L Q n1 hst hi hv hd hnL hq => ⟨(cl_nl h n1).1, cl_nl h n1, sv, v, rfl, rfl, fun t ht hc => ?_⟩⟩
  · match us, hl with
    | [_, _], _ => rfl
  · have e1 : off H1 (Caps.as []) = H1 := by funext z; exact off_out (by simp [Caps.as])
    have e2 : ∀ H' : Hp, on H' H1 (Caps.as []) = H' := fun H' => by funext z; exact on_out (by simp [Caps.as])
    rw [e1] at ht
    rw [e2, e1]
    exact hq t .non [] _ ht upd_same .non (fun a ha => by cases ha) hst fun b o b1 b2 e => (Same.upd_new ht _) _ _ e
abbrev Cl4 (x1 x2 x3 x4 b1 f1 b2 f2 : Addr) : Caps := [("model_done", x4, .ref f2), ("model_begin", x3, .ref b2), ("done", x2, .ref f1), ("begin", x1, .ref b1)]
theorem judge_ok {g : Gx} {H0 H : Hp} {f c x1 x2 x3 x4 b1 f1 b2 f2 : Addr} {k1 k2 : Option Int} {pm ctv : Value} (F0 : g.Fn 15 "apart" ["begin", "done", "model_begin", "model_done", "deeds"] (sp_apart g)) (nd : (Cl4 x1 x2 x3 x4 b1 f1 b2 f2).as.Nodup)
    (h : ClIn H f c (fd_deed_judge_lam (Cl4 x1 x2 x3 x4 b1 f1 b2 f2).cl c pm ctv) q_deed_judge_lam (Cl4 x1 x2 x3 x4 b1 f1 b2 f2)) (hb1 : BegOk g H0 b1 k1) (hf1 : DoneOk g H0 f1 k1) (hb2 : BegOk g H0 b2 k2) (hf2 : DoneOk g H0 f2 k2) (n0 : NL H0 H) (hc0 : ∀ a ∈ (Cl4 x1 x2 x3 x4 b1 f1 b2 f2).as, H0 a = none) : JudgeOk g H f k1 k2 := by
  have F := ok_deed_judge_lam (g := g) (k := 15) (f_ := f) (c_ := c) (pm := pm) (ctv := ctv) (l := Cl4 x1 x2 x3 x4 b1 f1 b2 f2) F0 rfl nd
  refine ⟨_, _, ⟨F, fun us hl => ?_⟩, h.1, fun H1 D us zs Q n1 hD hz hl hq => ?_⟩
  · match us, hl with
    | [_], _ => rfl
  · have hin := (cl_nl h n1).2.2
    have nn : NL H0 (off H1 (Cl4 x1 x2 x3 x4 b1 f1 b2 f2).as) := by
      refine ⟨fun b xs e => ?_, fun b φ e => ?_⟩
      · rw [off_out fun hm => by rw [hc0 b hm] at e; cases e]
        exact (n0.trans n1).1 _ _ e
      · rw [off_out fun hm => by rw [hc0 b hm] at e; cases e]
        exact (n0.trans n1).2 _ _ e
    have tp : Tps H1 (off H1 (Cl4 x1 x2 x3 x4 b1 f1 b2 f2).as) := fun a vs e => off_tup hin e
    have vz : Vz (off H1 (Cl4 x1 x2 x3 x4 b1 f1 b2 f2).as) us zs := ⟨hz.1, fun i v z h1 h2 => by
      obtain ⟨L, hL⟩ := hz.2 i v z h1 h2
      exact ⟨L, hL.keepL tp fun a _ vs e => off_get hin e (by intro φ z; cases z)⟩⟩
    refine ⟨(cl_nl h n1).1, cl_nl h n1, b1, f1, b2, f2, D, k1, k2, us, zs, rfl, rfl, hb1.nl nn, hf1.nl nn, hb2.nl nn, hf2.nl nn, off_get hin hD (by intro φ z; cases z), vz, hl, fun o H' ho s hc => hq o _ ho fun b u e => ?_⟩
    by_cases hb : b ∈ (Cl4 x1 x2 x3 x4 b1 f1 b2 f2).as
    · rw [on_in hb]; exact e
    · rw [on_out hb]; exact s _ _ (by rw [off_out hb]; exact e)
end KW
set_option maxHeartbeats 8000000
namespace KW
open PySem L2

variable {g : Gx}
variable {m : Nat}
variable {src : List (Option Nat)} {te : TE} {σ : St} {H : Hp} {Q : VK}
local macro_rules | `(tactic| walk_at "gn") => `(tactic| simp only [gName, List.set_cons_zero, List.set_cons_succ])

local macro_rules | `(tactic| walk_at "rd") => `(tactic| simp (config := { failIfUnchanged := false, maxSteps := 10000000 }) only [L2.start, cxOf_K, nox_K, List.map_cons, List.map_nil, List.length_cons, List.length_nil, List.cons_append, List.nil_append, List.replicate_succ, List.replicate_zero, Nat.zero_add, Nat.reduceAdd, Nat.reduceSub, Nat.sub_self, tSeq, tIfS, tTest, tOp, tC, tVar, rI0, rI, rU, tUn, tRet, tRetN, tDrop, tNext, tBreak, tCont, tAsg, gName, gNil, gCons, tCons, tNil, tCB, tCall, tTry, tTryAs, tRaise, sFld, tFld, tMake, tMeth, Ends.gone, caught_K, tB, tAnd, tOr, tNot, tAndV, tOrV, tNotV, tIf, tChain, tNoPart, tPart, tSl, tNever, tAug, rIxL, rIxT, rSlL, tLst, tTup, gTup, tRev, tLZ, tConT, tDict0, tDNewT, tDGet, sDPut, rNotInD, rInD, tEither, tSlStep, rBits, rFind, rIn, tBM, tBM0, rAppend, rReverse, rEq, rNe, scal_ii, scal_ss, rCat, rSetL, gSub, ipI, capSt, List.getD_cons_zero, List.getD_cons_succ, decide_true, not_true_eq_false, not_false_eq_true,
  exists_eq_left', exists_eq_left, exists_eq', exists_eq, exists_and_left, and_assoc, Option.some.injEq, V.int.injEq, V.bl.injEq, V.ref.injEq, V.str.injEq, List.getElem?_cons_zero, List.getElem?_cons_succ, List.set_cons_zero, List.set_cons_succ, List.cons.injEq, and_true, true_and, List.append_nil, decide_eq_true_eq, Bool.not_eq_true', decide_eq_false_iff_not, Bool.not_not, Bool.not_true, Bool.not_false, Bool.true_eq_false, Bool.false_eq_true, if_true, if_false, ite_true, ite_false])

def sp_law_further (K : PySem.W.Frag) : Sp := fun vs H Q _ => ∃ (c : Int), vs = [.int c, .int 60, .int 1100] ∧ ∀ D ns H', Same H H' → H D = none → H' D = some (.lst ((ns : List Int).map V.int)) → ns.length ≤ 1100 → Q (.ref D) H'
theorem ok_law_further  {c_deed_judge P_deed_judge : Addr} {c_law_thing P_law_thing : Addr} {c_law_still P_law_still : Addr} (R : g.Raw "_law_further" "_law_further" s_law_further ["_law_cell", "_law_many", "_law_most"]) (b_range : g.mg "range" = none) : g.Fn (1) "_law_further" ["_law_cell", "_law_many", "_law_most"] (sp_law_further g.K) := by
  refine R.fn sc_law_further (fun vs H Q E h => by obtain ⟨c, rfl, q⟩ := h; rfl) fun f_ cdv A outer s H vs Q E hr h => ?_
  obtain ⟨c, rfl, q⟩ := h
  refine ⟨_, (@pss_cons _ _ _ _ _ (@ps_set _ _ (3) _ _ _ _ sc_law_further.nd rfl (Or.inl rfl) (@pe_op _ _ _ _ _ _ _ _ op_add (@pe_op _ _ _ _ _ _ _ _ op_mod (@pv _ 0 _ _ (by rfl) (by first | exact Or.inl rfl | exact Or.inr (Or.inl rfl) | exact Or.inr (Or.inr rfl)) (by decide) (by decide)) pe_int) pe_int) (by rfl) (by first | exact .inl rfl | exact .inr rfl | assumption)) (@pss_cons _ _ _ _ _ (@ps_if _ _ _ _ _ _ _ _ (@pt_cmpR _ _ _ _ _ _ _ _ op_eq (@pe_op _ _ _ _ _ _ _ _ op_mod (@pe_op _ _ _ _ _ _ _ _ op_fdivL (@pv _ 0 _ _ (by rfl) (by first | exact Or.inl rfl | exact Or.inr (Or.inl rfl) | exact Or.inr (Or.inr rfl)) (by decide) (by decide)) pe_int) pe_int) pe_int (nomark _)) (@pss_one _ _ _ (@ps_set _ _ (1) _ _ _ _ sc_law_further.nd rfl (Or.inl rfl) (@pv _ 2 _ _ (by rfl) (by first | exact Or.inl rfl | exact Or.inr (Or.inl rfl) | exact Or.inr (Or.inr rfl)) (by decide) (by decide)) (by rfl) (by first | exact .inl rfl | exact .inr rfl | assumption))) (@pss_one _ _ _ (@ps_if _ _ _ _ _ _ _ _ (@pt_cmpR _ _ _ _ _ _ _ _ op_ne (@pe_op _ _ _ _ _ _ _ _ op_mod (@pe_op _ _ _ _ _ _ _ _ op_fdivL (@pv _ 0 _ _ (by rfl) (by first | exact Or.inl rfl | exact Or.inr (Or.inl rfl) | exact Or.inr (Or.inr rfl)) (by decide) (by decide)) pe_int) pe_int) pe_int (nomark _)) (@pss_one _ _ _ (@ps_set _ _ (1) _ _ _ _ sc_law_further.nd rfl (Or.inl rfl) pe_int (by rfl) (by first | exact .inl rfl | exact .inr rfl | assumption))) pss_nil))) (@pss_cons _ _ _ _ _ (@ps_set _ _ (4) _ _ _ _ sc_law_further.nd rfl (Or.inl rfl) (@pe_lst _ _ _ _ pa_nil) (by rfl) (by first | exact .inl rfl | exact .inr rfl | assumption)) (@pss_cons _ _ _ _ _ (@ps_for _ _ _ _ _ _ _ _ PassesOwn.never rfl (@pi_range1 _ _ _ _ _ _ rfl b_range (@pa_cons _ _ _ _ _ (@pv _ 1 _ _ (by rfl) (by first | exact Or.inl rfl | exact Or.inr (Or.inl rfl) | exact Or.inr (Or.inr rfl)) (by decide) (by decide)) pa_nil (by rfl)) (by rfl)) (@pg_name _ _ (5) _ sc_law_further.nd rfl (Or.inl rfl) (by first | exact .inl rfl | exact .inr rfl | assumption)) (@pss_cons _ _ _ _ _ (@ps_set _ _ (3) _ _ _ _ sc_law_further.nd rfl (Or.inl rfl) (@pe_op _ _ _ _ _ _ _ _ op_mod (@pe_op _ _ _ _ _ _ _ _ op_mulC (@pv _ 3 _ _ (by rfl) (by first | exact Or.inl rfl | exact Or.inr (Or.inl rfl) | exact Or.inr (Or.inr rfl)) (by decide) (by decide)) pe_int) pe_int) (by rfl) (by first | exact .inl rfl | exact .inr rfl | assumption)) (@pss_one _ _ _ (@ps_expr _ _ _ _ (@pe_bm _ _ _ _ _ _ _ _ _ _ _ _ PySem.F.plainAttrs_list PySem.F.slot_list_append PySem.F.type_list_append mt_append (@pv _ 4 _ _ (by rfl) (by first | exact Or.inl rfl | exact Or.inr (Or.inl rfl) | exact Or.inr (Or.inr rfl)) (by decide) (by decide)) (@pa_cons _ _ _ _ _ (@pv _ 3 _ _ (by rfl) (by first | exact Or.inl rfl | exact Or.inr (Or.inl rfl) | exact Or.inr (Or.inr rfl)) (by decide) (by decide)) pa_nil (by rfl)) (by rfl) (by rfl) (by rfl) (by rfl) (by rfl)) (by rfl)))) (by intro _; rfl)) (@pss_one _ _ _ (@ps_ret _ _ _ _ (@pv _ 4 _ _ (by rfl) (by first | exact Or.inl rfl | exact Or.inr (Or.inl rfl) | exact Or.inr (Or.inr rfl)) (by decide) (by decide)))))))), ?_⟩
  walk_at "rd"
  refine ⟨by decide, small_div (by decide) (by decide), by decide, ite2 (fun _ => ⟨few (by decide), fun p hp => ?_⟩) (fun _ => ⟨small_div (by decide) (by decide), by decide, ite2 (fun _ => ⟨few (by decide), fun p hp => ?_⟩) (fun _ => ⟨few (by decide), fun p hp => ?_⟩)⟩)⟩
  · skip
    refine tFor_range1 (n := 1100) (fun i σ H' => ∃ (xs : List Int) (num : Int) (o : Option V), σ = [some (.int c), some (.int (1100 : Nat)), some (.int 1100), some (.int num), some (.ref p), o] ∧ H' p = some (.lst (xs.map V.int)) ∧ xs.length = i ∧ Same H H' ∧ 0 ≤ num ∧ num ≤ 2147483647) (fun R r => by walk_at "rd"; exact r) (by decide) ⟨[], _, none, rfl, upd_same, rfl, .upd_new hp _, by omega, by omega⟩ ?_ ?_
    · rintro i σ H' hi ⟨xs, num, o, rfl, h1, h2, h3, h4, h5⟩
      walk_at "rd"
      have c8 := Int.emod_nonneg (num * 48271) (show (2147483647 : Int) ≠ 0 by decide)
      have c9 := Int.emod_lt_of_pos (num * 48271) (show (0 : Int) < 2147483647 by decide)
      exact ⟨.inl (cm (m := 32) (n := 16) (by omega) (by decide)), by decide, .inl ⟨rfl, _, SqL.of h1⟩, _, h1, by rw [List.length_map]; exact few (by omega), xs ++ [num * 48271 % 2147483647], by rw [upd_same, List.map_append]; rfl, by rw [List.length_append, h2]; rfl, .upd_over hp h3 _, c8, Int.le_of_lt c9⟩
    · rintro σ H' ⟨xs, num, o, rfl, h1, h2, h3, h4, h5⟩
      walk_at "rd"
      exact q p xs H' h3 hp h1 (by omega)
  · skip
    refine tFor_range1 (n := 0) (fun i σ H' => ∃ (xs : List Int) (num : Int) (o : Option V), σ = [some (.int c), some (.int (0 : Nat)), some (.int 1100), some (.int num), some (.ref p), o] ∧ H' p = some (.lst (xs.map V.int)) ∧ xs.length = i ∧ Same H H' ∧ 0 ≤ num ∧ num ≤ 2147483647) (fun R r => by walk_at "rd"; exact r) (by decide) ⟨[], _, none, rfl, upd_same, rfl, .upd_new hp _, by omega, by omega⟩ ?_ ?_
    · rintro i σ H' hi ⟨xs, num, o, rfl, h1, h2, h3, h4, h5⟩
      walk_at "rd"
      have c8 := Int.emod_nonneg (num * 48271) (show (2147483647 : Int) ≠ 0 by decide)
      have c9 := Int.emod_lt_of_pos (num * 48271) (show (0 : Int) < 2147483647 by decide)
      exact ⟨.inl (cm (m := 32) (n := 16) (by omega) (by decide)), by decide, .inl ⟨rfl, _, SqL.of h1⟩, _, h1, by rw [List.length_map]; exact few (by omega), xs ++ [num * 48271 % 2147483647], by rw [upd_same, List.map_append]; rfl, by rw [List.length_append, h2]; rfl, .upd_over hp h3 _, c8, Int.le_of_lt c9⟩
    · rintro σ H' ⟨xs, num, o, rfl, h1, h2, h3, h4, h5⟩
      walk_at "rd"
      exact q p xs H' h3 hp h1 (by omega)
  · skip
    refine tFor_range1 (n := 60) (fun i σ H' => ∃ (xs : List Int) (num : Int) (o : Option V), σ = [some (.int c), some (.int (60 : Nat)), some (.int 1100), some (.int num), some (.ref p), o] ∧ H' p = some (.lst (xs.map V.int)) ∧ xs.length = i ∧ Same H H' ∧ 0 ≤ num ∧ num ≤ 2147483647) (fun R r => by walk_at "rd"; exact r) (by decide) ⟨[], _, none, rfl, upd_same, rfl, .upd_new hp _, by omega, by omega⟩ ?_ ?_
    · rintro i σ H' hi ⟨xs, num, o, rfl, h1, h2, h3, h4, h5⟩
      walk_at "rd"
      have c8 := Int.emod_nonneg (num * 48271) (show (2147483647 : Int) ≠ 0 by decide)
      have c9 := Int.emod_lt_of_pos (num * 48271) (show (0 : Int) < 2147483647 by decide)
      exact ⟨.inl (cm (m := 32) (n := 16) (by omega) (by decide)), by decide, .inl ⟨rfl, _, SqL.of h1⟩, _, h1, by rw [List.length_map]; exact few (by omega), xs ++ [num * 48271 % 2147483647], by rw [upd_same, List.map_append]; rfl, by rw [List.length_append, h2]; rfl, .upd_over hp h3 _, c8, Int.le_of_lt c9⟩
    · rintro σ H' ⟨xs, num, o, rfl, h1, h2, h3, h4, h5⟩
      walk_at "rd"
      exact q p xs H' h3 hp h1 (by omega)
theorem vls_rep {H : Hp} (i : Int) : ∀ n : Nat, VLs H (List.replicate n (.int i)) (List.replicate n (.int i)) []
  | 0 => .nil
  | n + 1 => by rw [List.replicate_succ, List.replicate_succ]; exact .cons (L := []) (L' := []) (.int i) (vls_rep i n)
theorem pr_own {H : Hp} {c : Int} {p1 p2 : Addr} (h1 : H p1 = some (.lst (List.replicate (c / 5 % 3).toNat (.int (c / 15 % 1000000000))))) (h2 : H p2 = some (.tup [.int (c % 5), .ref p1])) : VL H (.ref p2) (pr c) [p1] :=
  .tup h2 (by simp) (.cons (L := []) (L' := [p1]) (.int _) (.cons (L := [p1]) (L' := []) (.lst h1 (by rw [List.length_replicate]; omega) (vls_rep _ _)) .nil))
def sp_law_deed : Sp := fun vs H Q _ => ∃ c : Int, vs = [.int c] ∧ ∀ v H' L, Same H H' → Own H H' v (dd c) L → Q v H'
theorem ok_law_deed  {c_deed_judge P_deed_judge : Addr} {c_law_thing P_law_thing : Addr} {c_law_still P_law_still : Addr} (R : g.Raw "_law_deed" "_law_deed" s_law_deed ["_law_cell"]) : g.Fn (1) "_law_deed" ["_law_cell"] (sp_law_deed) := by
  refine R.fn sc_law_deed (fun vs H Q E h => by obtain ⟨c, rfl, q⟩ := h; rfl) fun f_ cdv A outer s H vs Q E hr h => ?_
  obtain ⟨c, rfl, q⟩ := h
  refine ⟨_, (@pss_cons _ _ _ _ _ (@ps_set _ _ (1) _ _ _ _ sc_law_deed.nd rfl (Or.inl rfl) (@pe_tup _ _ _ _ _ (@pa_cons _ _ _ _ _ (@pe_op _ _ _ _ _ _ _ _ op_mod (@pv _ 0 _ _ (by rfl) (by first | exact Or.inl rfl | exact Or.inr (Or.inl rfl) | exact Or.inr (Or.inr rfl)) (by decide) (by decide)) pe_int) (@pa_cons _ _ _ _ _ (@pe_op _ _ _ _ _ _ _ _ op_rep (@pe_lst _ _ _ _ (@pa_cons _ _ _ _ _ (@pe_op _ _ _ _ _ _ _ _ op_mod (@pe_op _ _ _ _ _ _ _ _ op_fdivL (@pv _ 0 _ _ (by rfl) (by first | exact Or.inl rfl | exact Or.inr (Or.inl rfl) | exact Or.inr (Or.inr rfl)) (by decide) (by decide)) pe_int) (@pe_op _ _ _ _ _ _ _ _ op_pow pe_int pe_int)) pa_nil (by rfl))) (@pe_op _ _ _ _ _ _ _ _ op_mod (@pe_op _ _ _ _ _ _ _ _ op_fdivL (@pv _ 0 _ _ (by rfl) (by first | exact Or.inl rfl | exact Or.inr (Or.inl rfl) | exact Or.inr (Or.inr rfl)) (by decide) (by decide)) pe_int) pe_int)) pa_nil (by rfl)) (by rfl))) (by rfl) (by first | exact .inl rfl | exact .inr rfl | assumption)) (@pss_cons _ _ _ _ _ (@ps_if _ _ _ _ _ _ _ _ (@pt_cmpR _ _ _ _ _ _ _ _ op_eq (@pe_op _ _ _ _ _ _ _ _ op_mod (@pe_op _ _ _ _ _ _ _ _ op_fdivL (@pv _ 0 _ _ (by rfl) (by first | exact Or.inl rfl | exact Or.inr (Or.inl rfl) | exact Or.inr (Or.inr rfl)) (by decide) (by decide)) pe_int) pe_int) pe_int (nomark _)) (@pss_one _ _ _ (@ps_ret _ _ _ _ (@pe_lst _ _ _ _ (@pa_cons _ _ _ _ _ (@pv _ 1 _ _ (by rfl) (by first | exact Or.inl rfl | exact Or.inr (Or.inl rfl) | exact Or.inr (Or.inr rfl)) (by decide) (by decide)) (@pa_cons _ _ _ _ _ (@pe_lst _ _ _ _ (@pa_cons _ _ _ _ _ (@pe_op _ _ _ _ _ _ _ _ op_mod (@pe_op _ _ _ _ _ _ _ _ op_fdivL (@pv _ 0 _ _ (by rfl) (by first | exact Or.inl rfl | exact Or.inr (Or.inl rfl) | exact Or.inr (Or.inr rfl)) (by decide) (by decide)) pe_int) pe_int) pa_nil (by rfl))) pa_nil (star_lst _ _ _ _)) (by rfl))))) pss_nil) (@pss_one _ _ _ (@ps_ret _ _ _ _ (@pv _ 1 _ _ (by rfl) (by first | exact Or.inl rfl | exact Or.inr (Or.inl rfl) | exact Or.inr (Or.inr rfl)) (by decide) (by decide)))))), ?_⟩
  have h9 : (10 : Int) ^ Int.toNat 9 = 1000000000 := by decide +kernel
  walk_at "rd"
  rw [h9]
  have e3 : c / 5 % 3 < 3 ∧ 0 ≤ c / 5 % 3 := by omega
  refine ⟨by decide, small_div (by decide) (by decide), cpow, by decide, few (by decide), fun p0 g0 => ⟨small_div (by decide) (by decide), by decide, p0, c / 5 % 3, [.int (c / 15 % 1000000000)], rfl, rfl, upd_same, by omega, by omega, few (by simp only [List.length_singleton]; omega), fun p1 g1 => ⟨few (by decide), fun p2 g2 => ⟨small_div (by decide) (by decide), by decide, ?_⟩⟩⟩⟩
  have er : (List.replicate (c / 5 % 3).toNat [V.int (c / 15 % 1000000000)]).flatten = List.replicate (c / 5 % 3).toNat (.int (c / 15 % 1000000000)) := by simp
  rw [er] at g2 ⊢
  have w0 := Same.upd_new g0 (.lst [.int (c / 15 % 1000000000)])
  have w1 := Same.upd_new g1 (.lst (List.replicate (c / 5 % 3).toNat (.int (c / 15 % 1000000000))))
  have w2 := Same.upd_new g2 (.tup [.int (c % 5), .ref p1])
  have w012 := (w0.trans w1).trans w2
  have n1 := w0.free g1
  refine ite2 (fun c1 => ⟨small_div (by decide) (by decide), by decide, few (by decide), fun p3 g3 => ⟨few (by decide), fun p4 g4 => ?_⟩⟩) (fun c1 => ?_)
  · have w3 := Same.upd_new g3 (.lst [.int (c / 90 % 4)])
    have w4 := Same.upd_new g4 (.lst [.ref p2, .ref p3])
    have k1 := w2 _ _ (upd_same (H := upd H p0 (.lst [.int (c / 15 % 1000000000)])) (a := p1) (o := .lst (List.replicate (c / 5 % 3).toNat (.int (c / 15 % 1000000000)))))
    have hp := pr_own (c := c) ((w3.trans w4) _ _ k1) ((w3.trans w4) _ _ upd_same)
    have n3 := w012.free g3
    have n4 := (w012.trans w3).free g4
    refine q _ _ [p4, p1, p3] (w012.trans (w3.trans w4)) ⟨?_, ?_, ?_⟩
    · rw [dd, if_pos c1]
      exact .lst upd_same (by simp) (.cons (L := [p1]) (L' := [p3]) hp (.cons (L := [p3]) (L' := []) (.lst (w4 _ _ upd_same) (by simp) (.cons (L := []) (L' := []) (.int _) .nil)) .nil))
    · have d1 : p4 ≠ p1 := fun z => by rw [z, w3 _ _ k1] at g4; cases g4
      have d2 : p4 ≠ p3 := fun z => by rw [z, upd_same] at g4; cases g4
      have d3 : p1 ≠ p3 := fun z => by rw [← z, k1] at g3; cases g3
      simp [d1, d2, d3]
    · intro a ha
      simp only [List.mem_cons, List.not_mem_nil, or_false] at ha
      rcases ha with rfl | rfl | rfl
      · exact n4
      · exact n1
      · exact n3
  · refine q _ _ [p1] w012 ⟨?_, by simp, ?_⟩
    · rw [dd, if_neg c1]
      exact pr_own (w2 _ _ upd_same) upd_same
    · intro a ha
      simp only [List.mem_cons, List.not_mem_nil, or_false] at ha
      rcases ha with rfl
      exact n1
end KW
set_option maxHeartbeats 8000000
namespace KW
open PySem L2

variable {g : Gx}
variable {m : Nat}
variable {src : List (Option Nat)} {te : TE} {σ : St} {H : Hp} {Q : VK}
local macro_rules | `(tactic| walk_at "gn") => `(tactic| simp only [gName, List.set_cons_zero, List.set_cons_succ])

local macro_rules | `(tactic| walk_at "rd") => `(tactic| simp (config := { failIfUnchanged := false, maxSteps := 10000000 }) only [L2.start, cxOf_K, nox_K, List.map_cons, List.map_nil, List.length_cons, List.length_nil, List.cons_append, List.nil_append, List.replicate_succ, List.replicate_zero, Nat.zero_add, Nat.reduceAdd, Nat.reduceSub, Nat.sub_self, tSeq, tIfS, tTest, tOp, tC, tVar, rI0, rI, rU, tUn, tRet, tRetN, tDrop, tNext, tBreak, tCont, tAsg, gName, gNil, gCons, tCons, tNil, tCB, tCall, tTry, tTryAs, tRaise, sFld, tFld, tMake, tMeth, Ends.gone, caught_K, tB, tAnd, tOr, tNot, tAndV, tOrV, tNotV, tIf, tChain, tNoPart, tPart, tSl, tNever, tAug, rIxL, rIxT, rSlL, tLst, tTup, gTup, tRev, tLZ, tConT, tDict0, tDNewT, tDGet, sDPut, rNotInD, rInD, tEither, tSlStep, rBits, rFind, rIn, tBM, tBM0, rAppend, rReverse, rEq, rNe, scal_ii, scal_ss, rCat, rSetL, gSub, ipI, capSt, List.getD_cons_zero, List.getD_cons_succ, decide_true, not_true_eq_false, not_false_eq_true,
  exists_eq_left', exists_eq_left, exists_eq', exists_eq, exists_and_left, and_assoc, Option.some.injEq, V.int.injEq, V.bl.injEq, V.ref.injEq, V.str.injEq, List.getElem?_cons_zero, List.getElem?_cons_succ, List.set_cons_zero, List.set_cons_succ, List.cons.injEq, and_true, true_and, List.append_nil, decide_eq_true_eq, Bool.not_eq_true', decide_eq_false_iff_not, Bool.not_not, Bool.not_true, Bool.not_false, Bool.true_eq_false, Bool.false_eq_true, if_true, if_false, ite_true, ite_false])

/-- the tables of the defs that make functions: as they were, or with the codes -/
def TabT (H : Hp) (P : Addr) : Prop := H P = some (.tbl #[]) ∨ ∃ c1 c2, H P = some (.tbl #[rawInt 102, rawInt 4, .ref c1, rawInt 105, rawInt 4, .ref c2]) ∧ H c1 = some (CdO c1 q_law_thing__law_begin) ∧ H c2 = some (CdO c2 q_law_thing__law_done)
def TabJ (H : Hp) (P : Addr) : Prop := H P = some (.tbl #[]) ∨ ∃ c, H P = some (.tbl #[rawInt 52, rawInt 11, .ref c]) ∧ H c = some (CdO c q_deed_judge_lam)
theorem TabT.tbl {H : Hp} {P : Addr} (h : TabT H P) : ∃ ps, H P = some (.tbl ps) := by
  rcases h with h | ⟨c1, c2, h, _, _⟩
  · exact ⟨_, h⟩
  · exact ⟨_, h⟩
theorem TabJ.tbl {H : Hp} {P : Addr} (h : TabJ H P) : ∃ ps, H P = some (.tbl ps) := by
  rcases h with h | ⟨c, h, _⟩
  · exact ⟨_, h⟩
  · exact ⟨_, h⟩
abbrev Cl1 (x : Addr) (bad : Int) : Caps := [("_law_bad", x, .int bad)]
theorem thing_fin {g : Gx} {H H3 : Hp} {P b f cb cf t x : Addr} {bad : Int} {ps : Array Value} {e1 e2 e3 e4 e5 e6 : Value} (F0 : g.Fn 7 "_law_lists" ["_law_value"] (sp_law_lists 5)) (F1 : g.Fn 7 "_law_mark" ["_law_deed_here"] sp_law_mark) (bn : g.mg "len" = none) (bn2 : g.mg "sum" = none) (bn3 : g.mg "int" = none)
    (hT : H P = some (.tbl ps)) (kb : H3 b = some (FnO b (fd_law_thing__law_begin [] cb e1 e2 e3))) (kcb : H3 cb = some (CdO cb q_law_thing__law_begin))
    (kf : H3 f = some (FnO f (fd_law_thing__law_done [("_law_bad", x)] cf e4 e5 e6))) (kcf : H3 cf = some (CdO cf q_law_thing__law_done)) (kt : H3 t = some (.tup [.ref b, .ref f]))
    (kT : H3 P = some (.tbl #[rawInt 102, rawInt 4, .ref cb, rawInt 105, rawInt 4, .ref cf])) (keep : ∀ a o, a ≠ P → H a = some o → H3 a = some o) (hc : ∀ c ∈ (Cl1 x bad).as, H3 c = none) :
    BegOk g (lay H3 (Cl1 x bad)) b (some bad) ∧ DoneOk g (lay H3 (Cl1 x bad)) f (some bad) ∧ lay H3 (Cl1 x bad) t = some (.tup [.ref b, .ref f]) ∧ TabT (lay H3 (Cl1 x bad)) P ∧ ∀ a o, a ≠ P → H a = some o → lay H3 (Cl1 x bad) a = some o := by
  have nd : (Cl1 x bad).as.Nodup := by simp [Caps.as]
  have hin := lay_in (H := H3) nd
  have out : ∀ {a : Addr} {o : HO}, H3 a = some o → lay H3 (Cl1 x bad) a = some o := fun {a o} e => by
    rw [lay_out fun hm => ?_]
    · exact e
    · rw [hc a hm] at e; cases e
  exact ⟨beg_thing ⟨out kb, out kcb, fun q hq => by cases hq⟩, done_thing F0 F1 bn bn2 bn3 ⟨out kf, out kcf, hin⟩, out kt, .inr ⟨cb, cf, out kT, out kcb, out kcf⟩, fun a o h1 h2 => out (keep a o h1 h2)⟩
def sp_law_thing (g : Gx) (P : Addr) : Sp := fun vs H Q _ => ∃ (bad : Int), vs = [.int bad] ∧ TabT H P ∧
  ∀ t b f H', BegOk g H' b (some bad) → DoneOk g H' f (some bad) → H' t = some (.tup [.ref b, .ref f]) → TabT H' P → (∀ a o, a ≠ P → H a = some o → H' a = some o) → Q (.ref t) H'
theorem ok_law_thing {k : Nat}  {c_deed_judge P_deed_judge : Addr} {c_law_thing P_law_thing : Addr} {c_law_still P_law_still : Addr} (R : g.RawT "_law_thing" "_law_thing" s_law_thing ["_law_bad"] c_law_thing) (bm : Bm g.mg g.base) (Cd_law_thing : PySem.W.CodeHd g.base c_law_thing P_law_thing) (F_law_lists : g.Fn 7 "_law_lists" ["_law_value"] (sp_law_lists 5)) (F_law_mark : g.Fn 7 "_law_mark" ["_law_deed_here"] (sp_law_mark)) (b_int : g.mg "int" = none) (b_len : g.mg "len" = none) (b_sum : g.mg "sum" = none) : g.Fn (k + 1) "_law_thing" ["_law_bad"] (sp_law_thing g P_law_thing) := by
  refine R.fnC sc_law_thing (fun vs H Q E h => by obtain ⟨bad, rfl, ht, q⟩ := h; rfl) fun f_ A outer s H vs Q E hr h => ?_
  obtain ⟨bad, rfl, ht, q⟩ := h
  refine ⟨_, (@pr_cons _ _ _ _ _ (@ps_def _ _ _ _ _ _ _ _ _ _ 1 bm Cd_law_thing rfl rfl sc_law_thing.nd rfl (Or.inl rfl) (Eq.trans rfl qe_law_thing__law_begin) rfl rfl rfl (.inr rfl)) (@pr_cons _ _ _ _ _ (@ps_def _ _ _ _ _ _ _ _ _ _ 2 bm Cd_law_thing rfl rfl sc_law_thing.nd rfl (Or.inl rfl) (Eq.trans rfl qe_law_thing__law_done) rfl rfl rfl (.inr rfl)) (@pr_ret _ _ _ _ (@pe_tup _ _ _ _ _ (@pa_cons _ _ _ _ _ (@pv _ 1 _ _ (by rfl) (by first | exact Or.inl rfl | exact Or.inr (Or.inl rfl) | exact Or.inr (Or.inr rfl)) (by decide) (by decide)) (@pa_cons _ _ _ _ _ (@pv _ 2 _ _ (by rfl) (by first | exact Or.inl rfl | exact Or.inr (Or.inl rfl) | exact Or.inr (Or.inr rfl)) (by decide) (by decide)) pa_nil (by rfl)) (by rfl)))))), ?_⟩
  rcases ht with ht | ⟨c1, c2, ht, k1, k2⟩
  · refine ⟨_, ht, trivial, .inl ⟨rfl, fun b cb fb g1 g2 g3 ⟨doc1, pm1, ctv1, e1⟩ => ?_⟩⟩
    subst e1
    have bP := ne_of_none ht g1
    have cP := ne_of_none ht g2
    refine ⟨#[rawInt 102, rawInt 4, .ref cb], by rw [upd_ne bP, upd_ne cP, upd_same]; rfl, trivial, .inl ⟨rfl, fun f cf ff g4 g5 g6 ⟨doc2, pm2, ctv2, e2⟩ => ?_⟩⟩
    subst e2
    have fb : f ≠ b := fun z => by rw [z, upd_same] at g4; cases g4
    rw [upd_ne fb] at g4
    have fcb : f ≠ cb := fun z => by rw [z, upd_same] at g4; cases g4
    rw [upd_ne fcb] at g4
    have fP : f ≠ P_law_thing := fun z => by rw [z, upd_same] at g4; cases g4
    rw [upd_ne fP] at g4
    have cfb : cf ≠ b := fun z => by rw [z, upd_same] at g5; cases g5
    rw [upd_ne cfb] at g5
    have cfcb : cf ≠ cb := fun z => by rw [z, upd_same] at g5; cases g5
    rw [upd_ne cfcb] at g5
    have cfP : cf ≠ P_law_thing := fun z => by rw [z, upd_same] at g5; cases g5
    rw [upd_ne cfP] at g5
    refine ⟨_, rfl, _, rfl, few (by simp), fun t g7 => ⟨Cl1 (s.heap.objs.size + 1) bad, ⟨?_, fun z hz => ?_⟩, fun hc => ?_⟩⟩
    · show List.Nodup [s.heap.objs.size + 1]
      simp
    · simp only [List.mem_cons, List.not_mem_nil, or_false] at hz
      rcases hz with rfl
      exact ⟨0, rfl, rfl, rfl, rfl⟩
    · have s7 := Same.upd_new g7 (.tup [.ref b, .ref f])
      obtain ⟨r1, r2, r3, r4, r5⟩ := thing_fin (H := H) (b := b) (f := f) (cb := cb) (cf := cf) (t := t) F_law_lists F_law_mark b_len b_sum b_int ht (s7 _ _ (by rw [upd_ne (Ne.symm fb), upd_ne (Ne.symm cfb), upd_ne (Ne.symm bP), upd_same]; rfl)) (s7 _ _ (by rw [upd_ne (Ne.symm fcb), upd_ne (Ne.symm cfcb), upd_ne (Ne.symm cP), upd_ne (Ne.symm g3), upd_same])) (s7 _ _ (by rw [upd_same]; rfl)) (s7 _ _ (by rw [upd_ne (Ne.symm g6), upd_same])) upd_same (s7 _ _ (by rw [upd_ne (Ne.symm fP), upd_ne (Ne.symm cfP), upd_same]; rfl)) (fun a o h1 h2 => s7 _ _ (by rw [upd_ne (ne_of_none h2 g4), upd_ne (ne_of_none h2 g5), upd_ne h1, upd_ne (ne_of_none h2 g1), upd_ne (ne_of_none h2 g2), upd_ne h1]; exact h2)) hc
      exact q t b f _ r1 r2 r3 r4 r5
  · refine ⟨_, ht, trivial, .inr ⟨c1, rfl, fun b fb g1 ⟨doc1, pm1, ctv1, e1⟩ => ?_⟩⟩
    subst e1
    have bP := ne_of_none ht g1
    refine ⟨_, (upd_ne bP).trans ht, trivial, .inr ⟨c2, rfl, fun f ff g4 ⟨doc2, pm2, ctv2, e2⟩ => ?_⟩⟩
    subst e2
    have fb : f ≠ b := fun z => by rw [z, upd_same] at g4; cases g4
    rw [upd_ne fb] at g4
    refine ⟨_, rfl, _, rfl, few (by simp), fun t g7 => ⟨Cl1 (s.heap.objs.size + 1) bad, ⟨?_, fun z hz => ?_⟩, fun hc => ?_⟩⟩
    · show List.Nodup [s.heap.objs.size + 1]
      simp
    · simp only [List.mem_cons, List.not_mem_nil, or_false] at hz
      rcases hz with rfl
      exact ⟨0, rfl, rfl, rfl, rfl⟩
    · have s7 := Same.upd_new g7 (.tup [.ref b, .ref f])
      have kk : ∀ (z1 z2 : HO) a o, H a = some o → upd (upd H b z1) f z2 a = some o := fun z1 z2 a o h2 => by rw [upd_ne (ne_of_none h2 g4), upd_ne (ne_of_none h2 g1)]; exact h2
      obtain ⟨r1, r2, r3, r4, r5⟩ := thing_fin (H := H) (b := b) (f := f) (cb := c1) (cf := c2) (t := t) F_law_lists F_law_mark b_len b_sum b_int ht (s7 _ _ (by rw [upd_ne (Ne.symm fb), upd_same]; rfl)) (s7 _ _ (kk _ _ _ _ k1)) (s7 _ _ (by rw [upd_same]; rfl)) (s7 _ _ (kk _ _ _ _ k2)) upd_same (s7 _ _ (kk _ _ _ _ ht)) (fun a o h1 h2 => s7 _ _ (kk _ _ _ _ h2)) hc
      exact q t b f _ r1 r2 r3 r4 r5
end KW
set_option maxHeartbeats 8000000
namespace KW
open PySem L2

variable {g : Gx}
variable {m : Nat}
variable {src : List (Option Nat)} {te : TE} {σ : St} {H : Hp} {Q : VK}
local macro_rules | `(tactic| walk_at "gn") => `(tactic| simp only [gName, List.set_cons_zero, List.set_cons_succ])

local macro_rules | `(tactic| walk_at "rd") => `(tactic| simp (config := { failIfUnchanged := false, maxSteps := 10000000 }) only [L2.start, cxOf_K, nox_K, List.map_cons, List.map_nil, List.length_cons, List.length_nil, List.cons_append, List.nil_append, List.replicate_succ, List.replicate_zero, Nat.zero_add, Nat.reduceAdd, Nat.reduceSub, Nat.sub_self, tSeq, tIfS, tTest, tOp, tC, tVar, rI0, rI, rU, tUn, tRet, tRetN, tDrop, tNext, tBreak, tCont, tAsg, gName, gNil, gCons, tCons, tNil, tCB, tCall, tTry, tTryAs, tRaise, sFld, tFld, tMake, tMeth, Ends.gone, caught_K, tB, tAnd, tOr, tNot, tAndV, tOrV, tNotV, tIf, tChain, tNoPart, tPart, tSl, tNever, tAug, rIxL, rIxT, rSlL, tLst, tTup, gTup, tRev, tLZ, tConT, tDict0, tDNewT, tDGet, sDPut, rNotInD, rInD, tEither, tSlStep, rBits, rFind, rIn, tBM, tBM0, rAppend, rReverse, rEq, rNe, scal_ii, scal_ss, rCat, rSetL, gSub, ipI, capSt, List.getD_cons_zero, List.getD_cons_succ, decide_true, not_true_eq_false, not_false_eq_true,
  exists_eq_left', exists_eq_left, exists_eq', exists_eq, exists_and_left, and_assoc, Option.some.injEq, V.int.injEq, V.bl.injEq, V.ref.injEq, V.str.injEq, List.getElem?_cons_zero, List.getElem?_cons_succ, List.set_cons_zero, List.set_cons_succ, List.cons.injEq, and_true, true_and, List.append_nil, decide_eq_true_eq, Bool.not_eq_true', decide_eq_false_iff_not, Bool.not_not, Bool.not_true, Bool.not_false, Bool.true_eq_false, Bool.false_eq_true, if_true, if_false, ite_true, ite_false])

def sp_law_still (g : Gx) (P : Addr) : Sp := fun vs H Q _ => vs = [] ∧ H P = some (.tbl #[]) ∧
  ∀ t b f H', BegOk g H' b none → DoneOk g H' f none → H' t = some (.tup [.ref b, .ref f]) → (∀ a o, a ≠ P → H a = some o → H' a = some o) → Q (.ref t) H'
theorem ok_law_still  {c_deed_judge P_deed_judge : Addr} {c_law_thing P_law_thing : Addr} {c_law_still P_law_still : Addr} (R : g.RawT "_law_still" "_law_still" s_law_still [] c_law_still) (bm : Bm g.mg g.base) (Cd_law_still : PySem.W.CodeHd g.base c_law_still P_law_still) : g.Fn (1) "_law_still" [] (sp_law_still g P_law_still) := by
  refine R.fnC sc_law_still (fun vs H Q E h => by obtain ⟨rfl, ht, q⟩ := h; rfl) fun f_ A outer s H vs Q E hr h => ?_
  obtain ⟨rfl, ht, q⟩ := h
  refine ⟨_, (@pr_cons _ _ _ _ _ (@ps_def _ _ _ _ _ _ _ _ _ _ 0 bm Cd_law_still rfl rfl sc_law_still.nd rfl (Or.inl rfl) (Eq.trans rfl qe_law_still__law_begin) rfl rfl rfl (.inr rfl)) (@pr_cons _ _ _ _ _ (@ps_def _ _ _ _ _ _ _ _ _ _ 1 bm Cd_law_still rfl rfl sc_law_still.nd rfl (Or.inl rfl) (Eq.trans rfl qe_law_still__law_done) rfl rfl rfl (.inr rfl)) (@pr_ret _ _ _ _ (@pe_tup _ _ _ _ _ (@pa_cons _ _ _ _ _ (@pv _ 0 _ _ (by rfl) (by first | exact Or.inl rfl | exact Or.inr (Or.inl rfl) | exact Or.inr (Or.inr rfl)) (by decide) (by decide)) (@pa_cons _ _ _ _ _ (@pv _ 1 _ _ (by rfl) (by first | exact Or.inl rfl | exact Or.inr (Or.inl rfl) | exact Or.inr (Or.inr rfl)) (by decide) (by decide)) pa_nil (by rfl)) (by rfl)))))), ?_⟩
  refine ⟨_, ht, trivial, .inl ⟨rfl, fun b cb fb g1 g2 g3 ⟨doc1, pm1, ctv1, e1⟩ => ?_⟩⟩
  subst e1
  have bP := ne_of_none ht g1
  have cP := ne_of_none ht g2
  refine ⟨#[rawInt 115, rawInt 4, .ref cb], by rw [upd_ne bP, upd_ne cP, upd_same]; rfl, trivial, .inl ⟨rfl, fun f cf ff g4 g5 g6 ⟨doc2, pm2, ctv2, e2⟩ => ?_⟩⟩
  subst e2
  have fb : f ≠ b := fun z => by rw [z, upd_same] at g4; cases g4
  rw [upd_ne fb] at g4
  have fcb : f ≠ cb := fun z => by rw [z, upd_same] at g4; cases g4
  rw [upd_ne fcb] at g4
  have fP : f ≠ P_law_still := fun z => by rw [z, upd_same] at g4; cases g4
  rw [upd_ne fP] at g4
  have cfb : cf ≠ b := fun z => by rw [z, upd_same] at g5; cases g5
  rw [upd_ne cfb] at g5
  have cfcb : cf ≠ cb := fun z => by rw [z, upd_same] at g5; cases g5
  rw [upd_ne cfcb] at g5
  have cfP : cf ≠ P_law_still := fun z => by rw [z, upd_same] at g5; cases g5
  rw [upd_ne cfP] at g5
  refine ⟨_, rfl, _, rfl, few (by simp), fun t g7 => ⟨[], ⟨.nil, fun z hz => by cases hz⟩, fun hc => ?_⟩⟩
  have s7 := Same.upd_new g7 (.tup [.ref b, .ref f])
  refine q t b f _ (beg_still ⟨s7 _ _ (by rw [upd_ne (Ne.symm fb), upd_ne (Ne.symm cfb), upd_ne (Ne.symm bP), upd_same]; rfl), s7 _ _ (by rw [upd_ne (Ne.symm fcb), upd_ne (Ne.symm cfcb), upd_ne (Ne.symm cP), upd_ne (Ne.symm g3), upd_same]), fun q hq => by cases hq⟩) (done_still ⟨s7 _ _ (by rw [upd_same]; rfl), s7 _ _ (by rw [upd_ne (Ne.symm g6), upd_same]), fun q hq => by cases hq⟩) upd_same fun a o h1 h2 => s7 _ _ (by rw [upd_ne (ne_of_none h2 g4), upd_ne (ne_of_none h2 g5), upd_ne h1, upd_ne (ne_of_none h2 g1), upd_ne (ne_of_none h2 g2), upd_ne h1]; exact h2)
def sp_deed_judge (g : Gx) (P : Addr) : Sp := fun vs H Q _ => ∃ (b1 f1 b2 f2 : Addr) (k1 k2 : Option Int), vs = [.ref b1, .ref f1, .ref b2, .ref f2] ∧ BegOk g H b1 k1 ∧ DoneOk g H f1 k1 ∧ BegOk g H b2 k2 ∧ DoneOk g H f2 k2 ∧ TabJ H P ∧
  ∀ f H', JudgeOk g H' f k1 k2 → TabJ H' P → (∀ a o, a ≠ P → H a = some o → H' a = some o) → Q (.ref f) H'
theorem judge_fin {g : Gx} {H H3 : Hp} {P f cf x1 x2 x3 x4 b1 f1 b2 f2 : Addr} {k1 k2 : Option Int} {ps : Array Value} {pm ctv : Value} (F0 : g.Fn 15 "apart" ["begin", "done", "model_begin", "model_done", "deeds"] (sp_apart g)) (nd : (Cl4 x1 x2 x3 x4 b1 f1 b2 f2).as.Nodup)
    (hb1 : BegOk g H b1 k1) (hf1 : DoneOk g H f1 k1) (hb2 : BegOk g H b2 k2) (hf2 : DoneOk g H f2 k2) (hT : H P = some (.tbl ps)) (kf : H3 f = some (FnO f (fd_deed_judge_lam (Cl4 x1 x2 x3 x4 b1 f1 b2 f2).cl cf pm ctv))) (kcf : H3 cf = some (CdO cf q_deed_judge_lam))
    (kT : H3 P = some (.tbl #[rawInt 52, rawInt 11, .ref cf])) (keep : ∀ a o, a ≠ P → H a = some o → H3 a = some o) (hc : ∀ c ∈ (Cl4 x1 x2 x3 x4 b1 f1 b2 f2).as, H3 c = none) :
    JudgeOk g (lay H3 (Cl4 x1 x2 x3 x4 b1 f1 b2 f2)) f k1 k2 ∧ TabJ (lay H3 (Cl4 x1 x2 x3 x4 b1 f1 b2 f2)) P ∧ ∀ a o, a ≠ P → H a = some o → lay H3 (Cl4 x1 x2 x3 x4 b1 f1 b2 f2) a = some o := by
  have hin := lay_in (H := H3) nd
  have out : ∀ {a : Addr} {o : HO}, H3 a = some o → lay H3 (Cl4 x1 x2 x3 x4 b1 f1 b2 f2) a = some o := fun {a o} e => by
    rw [lay_out fun hm => ?_]
    · exact e
    · rw [hc a hm] at e; cases e
  have hc0 : ∀ a ∈ (Cl4 x1 x2 x3 x4 b1 f1 b2 f2).as, H a = none := fun a ha => by
    have z := hc a ha
    cases h : H a with
    | none => rfl
    | some o =>
      exfalso
      by_cases c : a = P
      · subst c; rw [kT] at z; cases z
      · rw [keep a o c h] at z; cases z
  have kk : ∀ a o, a ≠ P → H a = some o → lay H3 (Cl4 x1 x2 x3 x4 b1 f1 b2 f2) a = some o := fun a o h1 h2 => out (keep a o h1 h2)
  exact ⟨judge_ok F0 nd ⟨out kf, out kcf, hin⟩ hb1 hf1 hb2 hf2 (nl_but kk hT) hc0, .inr ⟨cf, out kT, out kcf⟩, kk⟩
theorem ok_deed_judge {k : Nat}  {c_deed_judge P_deed_judge : Addr} {c_law_thing P_law_thing : Addr} {c_law_still P_law_still : Addr} (R : g.RawT "deed_judge" "deed_judge" s_deed_judge ["begin", "done", "model_begin", "model_done"] c_deed_judge) (bm : Bm g.mg g.base) (Cd_deed_judge : PySem.W.CodeHd g.base c_deed_judge P_deed_judge) (F_apart : g.Fn 15 "apart" ["begin", "done", "model_begin", "model_done", "deeds"] (sp_apart g)) : g.Fn (k + 1) "deed_judge" ["begin", "done", "model_begin", "model_done"] (sp_deed_judge g P_deed_judge) := by
  refine R.fnC sc_deed_judge (fun vs H Q E h => by obtain ⟨b1, f1, b2, f2, k1, k2, rfl, hb1, hf1, hb2, hf2, ht, q⟩ := h; rfl) fun f_ A outer s H vs Q E hr h => ?_
  obtain ⟨b1, f1, b2, f2, k1, k2, rfl, hb1, hf1, hb2, hf2, ht, q⟩ := h
  refine ⟨_, (@pr_ret _ _ _ _ (@pe_lam _ _ _ _ _ _ _ _ _ bm Cd_deed_judge rfl rfl (Eq.trans rfl qe_deed_judge_lam) rfl)), ?_⟩
  have nd4 : ∀ n : Nat, (Cl4 (n + 1) (n + 1 + 1) (n + 1 + 1 + 1) (n + 1 + 1 + 1 + 1) b1 f1 b2 f2).as.Nodup := fun n => by
    show List.Nodup [n + 1 + 1 + 1 + 1, n + 1 + 1 + 1, n + 1 + 1, n + 1]
    simp
    omega
  rcases ht with ht | ⟨c1, ht, hc1⟩
  · refine ⟨_, ht, trivial, .inl ⟨rfl, fun f cf ff g1 g2 g3 ⟨pm, ctv, e⟩ => ⟨Cl4 (s.heap.objs.size + 1) (s.heap.objs.size + 1 + 1) (s.heap.objs.size + 1 + 1 + 1) (s.heap.objs.size + 1 + 1 + 1 + 1) b1 f1 b2 f2, ⟨nd4 _, fun z hz => ?_⟩, fun hc => ?_⟩⟩⟩
    · simp only [List.mem_cons, List.not_mem_nil, or_false] at hz
      rcases hz with rfl | rfl | rfl | rfl
      · exact ⟨3, rfl, rfl, rfl, rfl⟩
      · exact ⟨2, rfl, rfl, rfl, rfl⟩
      · exact ⟨1, rfl, rfl, rfl, rfl⟩
      · exact ⟨0, rfl, rfl, rfl, rfl⟩
    · subst e
      have fP := ne_of_none ht g1
      have cP := ne_of_none ht g2
      obtain ⟨r1, r2, r3⟩ := judge_fin (H := H) (f := f) (cf := cf) F_apart (nd4 _) hb1 hf1 hb2 hf2 ht (by rw [upd_same]; rfl) (by rw [upd_ne (Ne.symm g3), upd_same]) (by rw [upd_ne fP, upd_ne cP, upd_same]; rfl) (fun a o h1 h2 => by rw [upd_ne (ne_of_none h2 g1), upd_ne (ne_of_none h2 g2), upd_ne h1]; exact h2) hc
      exact q f _ r1 r2 r3
  · refine ⟨_, ht, trivial, .inr ⟨c1, rfl, fun f ff g1 ⟨pm, ctv, e⟩ => ⟨Cl4 (s.heap.objs.size + 1) (s.heap.objs.size + 1 + 1) (s.heap.objs.size + 1 + 1 + 1) (s.heap.objs.size + 1 + 1 + 1 + 1) b1 f1 b2 f2, ⟨nd4 _, fun z hz => ?_⟩, fun hc => ?_⟩⟩⟩
    · simp only [List.mem_cons, List.not_mem_nil, or_false] at hz
      rcases hz with rfl | rfl | rfl | rfl
      · exact ⟨3, rfl, rfl, rfl, rfl⟩
      · exact ⟨2, rfl, rfl, rfl, rfl⟩
      · exact ⟨1, rfl, rfl, rfl, rfl⟩
      · exact ⟨0, rfl, rfl, rfl, rfl⟩
    · subst e
      obtain ⟨r1, r2, r3⟩ := judge_fin (H := H) (f := f) (cf := c1) F_apart (nd4 _) hb1 hf1 hb2 hf2 ht (by rw [upd_same]; rfl) (by rw [upd_ne (ne_of_none hc1 g1)]; exact hc1) (by rw [upd_ne (ne_of_none ht g1)]; exact ht) (fun a o h1 h2 => by rw [upd_ne (ne_of_none h2 g1)]; exact h2) hc
      exact q f _ r1 r2 r3
end KW
set_option maxHeartbeats 8000000
namespace KW
open PySem L2

variable {g : Gx}
variable {m : Nat}
variable {src : List (Option Nat)} {te : TE} {σ : St} {H : Hp} {Q : VK}
local macro_rules | `(tactic| walk_at "gn") => `(tactic| simp only [gName, List.set_cons_zero, List.set_cons_succ])

local macro_rules | `(tactic| walk_at "rd") => `(tactic| simp (config := { failIfUnchanged := false, maxSteps := 10000000 }) only [L2.start, cxOf_K, nox_K, List.map_cons, List.map_nil, List.length_cons, List.length_nil, List.cons_append, List.nil_append, List.replicate_succ, List.replicate_zero, Nat.zero_add, Nat.reduceAdd, Nat.reduceSub, Nat.sub_self, tSeq, tIfS, tTest, tOp, tC, tVar, rI0, rI, rU, tUn, tRet, tRetN, tDrop, tNext, tBreak, tCont, tAsg, gName, gNil, gCons, tCons, tNil, tCB, tCall, tTry, tTryAs, tRaise, sFld, tFld, tMake, tMeth, Ends.gone, caught_K, tB, tAnd, tOr, tNot, tAndV, tOrV, tNotV, tIf, tChain, tNoPart, tPart, tSl, tNever, tAug, rIxL, rIxT, rSlL, tLst, tTup, gTup, tRev, tLZ, tConT, tDict0, tDNewT, tDGet, sDPut, rNotInD, rInD, tEither, tSlStep, rBits, rFind, rIn, tBM, tBM0, rAppend, rReverse, rEq, rNe, scal_ii, scal_ss, rCat, rSetL, gSub, ipI, capSt, List.getD_cons_zero, List.getD_cons_succ, decide_true, not_true_eq_false, not_false_eq_true,
  exists_eq_left', exists_eq_left, exists_eq', exists_eq, exists_and_left, and_assoc, Option.some.injEq, V.int.injEq, V.bl.injEq, V.ref.injEq, V.str.injEq, List.getElem?_cons_zero, List.getElem?_cons_succ, List.set_cons_zero, List.set_cons_succ, List.cons.injEq, and_true, true_and, List.append_nil, decide_eq_true_eq, Bool.not_eq_true', decide_eq_false_iff_not, Bool.not_not, Bool.not_true, Bool.not_false, Bool.true_eq_false, Bool.false_eq_true, if_true, if_false, ite_true, ite_false])

/-- all stays but tables -/
def Kt (H H' : Hp) : Prop := ∀ a o, (∀ ps, o ≠ .tbl ps) → H a = some o → H' a = some o
theorem Kt.trans {H H1 H2 : Hp} (a : Kt H H1) (b : Kt H1 H2) : Kt H H2 := fun c o n e => b c o n (a c o n e)
theorem kt_of {H H' : Hp} (s : Same H H') : Kt H H' := fun c o _ e => s _ _ e
theorem kt_but {H H' : Hp} {P : Addr} {ps : Array Value} (hk : ∀ a o, a ≠ P → H a = some o → H' a = some o) (hP : H P = some (.tbl ps)) : Kt H H' := fun c o n e => hk c o (ne_of e hP (n _)) e
theorem Kt.nl {H H' : Hp} (h : Kt H H') : NL H H' := ⟨fun b xs e => h b _ (by intro ps z; cases z) e, fun b φ e => h b _ (by intro ps z; cases z) e⟩
theorem Kt.lst {H H' : Hp} (h : Kt H H') {a : Addr} {xs : List V} (e : H a = some (.lst xs)) : H' a = some (.lst xs) := h a _ (by intro ps z; cases z) e
theorem Kt.tup {H H' : Hp} (h : Kt H H') {a : Addr} {xs : List V} (e : H a = some (.tup xs)) : H' a = some (.tup xs) := h a _ (by intro ps z; cases z) e
theorem kt_vls {H H' : Hp} (h : Kt H H') {vs : List V} {ds : List PyData} {L : List Addr} (e : VLs H vs ds L) : VLs H' vs ds L := e.keepL (fun a xs z => h.tup z) fun a _ xs z => h.lst z
theorem vl_list {H : Hp} {v : V} {ds : List PyData} {L : List Addr} (h : VL H v (.list ds) L) : ∃ a vs L', v = .ref a ∧ H a = some (.lst vs) ∧ vs.length ≤ 10000 ∧ VLs H vs ds L' := by
  cases h with
  | lst h hn hs => exact ⟨_, _, _, rfl, h, hn, hs⟩
theorem dd_depth : ∀ zs : List Int, PyData.depthAll (zs.map dd) ≤ 3
  | [] => by simp [PyData.depthAll]
  | z :: zs => by
    have := dd_depth zs
    have := (dd_deed z).dp
    simp only [List.map_cons, PyData.depthAll]
    omega
theorem den_ix {K : PySem.W.Frag} {H : Hp} {c : Addr} {l : List Nat} (h : H c = some (.lst (l.map fun (i : Nat) => V.int (i : Int)))) : Den K H (.ref c) (.list (l.map fun (i : Nat) => PyData.int (i : Int))) := by
  refine .lst (SqL.of h) ?_
  have := Dens.ints (K := K) (H := H) (l.map fun (i : Nat) => (i : Int))
  rw [List.map_map, List.map_map] at this
  exact this
theorem depth_ix (l : List Nat) : (PyData.list (l.map fun (i : Nat) => PyData.int (i : Int))).depth ≤ 64 := by
  rw [PyData.depth]
  have : PyData.depthAll (l.map fun (i : Nat) => PyData.int (i : Int)) ≤ 0 := by
    induction l with
    | nil => simp [PyData.depthAll]
    | cons a l ih => simp only [List.map_cons, PyData.depthAll, PyData.depth]; omega
  omega
theorem kt_vz {H H' : Hp} (h : Kt H H') {us : List V} {zs : List Int} (e : Vz H us zs) : Vz H' us zs := ⟨e.1, fun i v z h1 h2 => by
  obtain ⟨L, hL⟩ := e.2 i v z h1 h2
  exact ⟨L, hL.keepL (fun a xs z => h.tup z) fun a _ xs z => h.lst z⟩⟩
mutual
theorem vl_den {K : PySem.W.Frag} {H : Hp} : ∀ {v : V} {d : PyData} {L : List Addr}, VL H v d L → Den K H v d
  | _, _, _, .int i => .int i
  | _, _, _, .str x h => .str x h
  | _, _, _, .lst h _ hs => .lst (SqL.of h) (vls_den hs)
  | _, _, _, .tup h _ hs => .tup (SqT.of h) (vls_den hs)
theorem vls_den {K : PySem.W.Frag} {H : Hp} : ∀ {vs : List V} {ds : List PyData} {L : List Addr}, VLs H vs ds L → Dens K H vs ds
  | _, _, _, .nil => .nil
  | _, _, _, .cons h hs => .cons (vl_den h) (vls_den hs)
end
section
variable {src : List (Option Nat)} {te : TE} {σ : St} {H : Hp} {Q : VK}
theorem tLC_ownG {K : PySem.W.Frag} {tl : TE} {xs : List V} (ds : List PyData) (ha : ∀ R : V → Hp → Prop, (∀ b H1, Same H H1 → SqL K H1 b xs → R (.ref b) H1) → tl σ H R) (hl : ds.length = xs.length) (hlen : xs.length ≤ 10000)
    (step : ∀ (i : Nat) x d H', xs[i]? = some x → ds[i]? = some d → Same H H' → ∀ R : VK, (∀ y H'' L, Same H' H'' → Own H' H'' y d L → R y H'') → te (some x :: capSt src σ) H' R)
    (fin : ∀ D H' L, Same H H' → Own H H' (.ref D) (.list ds) L → Q (.ref D) H') : tLC (none :: src) (iList K tl) (gName 0) tYes te σ H Q :=
  ha _ fun b H1 s1 hS => ⟨b, rfl, ⟨xs, hS⟩, fun D hD => lc_own (itseq_list.imp fun H' (e : Same H1 H') => e.seq hS) ds (fun _ e => e) hD hl hlen (fun i x d H' hx hd sm => step i x d H' hx hd (s1.trans sm)) fun _ H' L sm ho => fin D H' L (s1.trans sm) ⟨ho.vl, ho.nd, fun a ha => s1.free (ho.new a ha)⟩⟩
end
theorem tFor_listX {g : TG} {tb : TS} {D : Ends} {σ : St} {H : Hp} {K : PySem.W.Frag} {tl : TE} (G : Addr → List V → Hp → Prop) (ha : ∀ R : V → Hp → Prop, (∀ c xs H1, G c xs H1 → R (.ref c) H1) → tl σ H R)
    (hb : ∀ c xs H1, G c xs H1 → ∃ Pv : Nat → St → Hp → Prop, Pv 0 σ H1 ∧ (∀ i σ H, i ≤ xs.length → Pv i σ H → SqL K H c xs) ∧ (∀ (i : Nat) x σ H, xs[i]? = some x → Pv i σ H → g x σ H fun σ2 H2 => tb { D with nx := Pv (i + 1), ct := Pv (i + 1), bk := D.nx } σ2 H2) ∧ ∀ σ H, Pv xs.length σ H → D.nx σ H) : tFor (iList K tl) g tb D σ H := by
  refine ha _ fun c xs H1 hG => ?_
  obtain ⟨Pv, h0, hl, hs, hd⟩ := hb c xs H1 hG
  exact ⟨c, rfl, ⟨xs, hl 0 σ H1 (Nat.zero_le _) h0⟩, for_list Pv h0 hl hs hd⟩
/-- a row of deeds somewhere -/
def RowAt (H : Hp) (x : V) : Prop := ∃ (A : Addr) (us : List V) (zs : List Int), x = .ref A ∧ H A = some (.lst us) ∧ Vz H us zs ∧ zs.length ≤ 1200
theorem RowAt.keep {H H' : Hp} {x : V} (h : RowAt H x) (s : Same H H') : RowAt H' x := by
  obtain ⟨A, us, zs, h1, h2, h3, h4⟩ := h
  exact ⟨A, us, zs, h1, s _ _ h2, h3.keep s, h4⟩
end KW
set_option maxHeartbeats 8000000
namespace KW
open PySem L2

variable {g : Gx}
variable {m : Nat}
variable {src : List (Option Nat)} {te : TE} {σ : St} {H : Hp} {Q : VK}
local macro_rules | `(tactic| walk_at "gn") => `(tactic| simp only [gName, List.set_cons_zero, List.set_cons_succ])

local macro_rules | `(tactic| walk_at "rd") => `(tactic| simp (config := { failIfUnchanged := false, maxSteps := 10000000 }) only [L2.start, cxOf_K, nox_K, List.map_cons, List.map_nil, List.length_cons, List.length_nil, List.cons_append, List.nil_append, List.replicate_succ, List.replicate_zero, Nat.zero_add, Nat.reduceAdd, Nat.reduceSub, Nat.sub_self, tSeq, tIfS, tTest, tOp, tC, tVar, rI0, rI, rU, tUn, tRet, tRetN, tDrop, tNext, tBreak, tCont, tAsg, gName, gNil, gCons, tCons, tNil, tCB, tCall, tTry, tTryAs, tRaise, sFld, tFld, tMake, tMeth, Ends.gone, caught_K, tB, tAnd, tOr, tNot, tAndV, tOrV, tNotV, tIf, tChain, tNoPart, tPart, tSl, tNever, tAug, rIxL, rIxT, rSlL, tLst, tTup, gTup, tRev, tLZ, tConT, tDict0, tDNewT, tDGet, sDPut, rNotInD, rInD, tEither, tSlStep, rBits, rFind, rIn, tBM, tBM0, rAppend, rReverse, rEq, rNe, scal_ii, scal_ss, rCat, rSetL, gSub, ipI, capSt, List.getD_cons_zero, List.getD_cons_succ, decide_true, not_true_eq_false, not_false_eq_true,
  exists_eq_left', exists_eq_left, exists_eq', exists_eq, exists_and_left, and_assoc, Option.some.injEq, V.int.injEq, V.bl.injEq, V.ref.injEq, V.str.injEq, List.getElem?_cons_zero, List.getElem?_cons_succ, List.set_cons_zero, List.set_cons_succ, List.cons.injEq, and_true, true_and, List.append_nil, decide_eq_true_eq, Bool.not_eq_true', decide_eq_false_iff_not, Bool.not_not, Bool.not_true, Bool.not_false, Bool.true_eq_false, Bool.false_eq_true, if_true, if_false, ite_true, ite_false])

theorem body_law {k : Nat}  {c_deed_judge P_deed_judge : Addr} {c_law_thing P_law_thing : Addr} {c_law_still P_law_still : Addr} (F_apart : g.Fn k "apart" ["begin", "done", "model_begin", "model_done", "deeds"] (sp_apart g)) (F_deed_judge : g.Fn k "deed_judge" ["begin", "done", "model_begin", "model_done"] (sp_deed_judge g P_deed_judge)) (F_law_cell_at : g.Fn k "_law_cell_at" ["_law_script", "_law_k"] (sp_law_cell_at g.K)) (F_law_further : g.Fn k "_law_further" ["_law_cell", "_law_many", "_law_most"] (sp_law_further g.K)) (F_law_whole : g.Fn k "_law_whole" ["_law_found"] (sp_law_whole)) (F_law_copy : g.Fn k "_law_copy" ["_law_value"] (sp_copied 5)) (F_law_deed : g.Fn k "_law_deed" ["_law_cell"] (sp_law_deed)) (F_law_mark : g.Fn k "_law_mark" ["_law_deed_here"] (sp_law_mark)) (F_law_thing : g.Fn k "_law_thing" ["_law_bad"] (sp_law_thing g P_law_thing)) (F_law_still : g.Fn k "_law_still" [] (sp_law_still g P_law_still)) (hkc : 16 ≤ k) (b_bool : g.mg "bool" = none) (b_isinstance : g.mg "isinstance" = none) (b_len : g.mg "len" = none) (b_range : g.mg "range" = none) (hnd : ([P_deed_judge, P_law_thing, P_law_still] : List Addr).Nodup) : Body g k ["_law_script", "_law_bad", "_law_at", "_law_more", "_law_deeds", "_law_kept", "_law_places", "_law_one", "_law_other", "_law_still_here", "_law_found", "_law_judge", "_law_beside", "_law_some", "_law_told", "_law_due"] "law" s_law (spTrueT g.K [("deed_judge", c_deed_judge, P_deed_judge), ("_law_thing", c_law_thing, P_law_thing), ("_law_still", c_law_still, P_law_still)]) := by
  refine fun f_ cdv A outer s H vs Q E hr h => ?_
  obtain ⟨a, ns, rfl, hS, hl, ht, q⟩ := h
  refine ⟨_, (@pss_cons _ _ _ _ _ (@ps_set _ _ (1) _ _ _ _ sc_law.nd rfl (Or.inr rfl) (@pe_op _ _ _ _ _ _ _ _ op_mod (@pe_fn _ _ _ _ _ _ _ _ _ _ _ _ F_law_cell_at hr (@pa_cons _ _ _ _ _ (@pv _ 0 _ _ (by rfl) (by first | exact Or.inl rfl | exact Or.inr (Or.inl rfl) | exact Or.inr (Or.inr rfl)) (by decide) (by decide)) (@pa_cons _ _ _ _ _ pe_int pa_nil (by rfl)) (by rfl)) (by omega) (by rfl) (by rfl) (by decide) (by rfl) (by rfl)) pe_int) (by rfl) (by first | exact .inl rfl | exact .inr rfl | assumption)) (@pss_cons _ _ _ _ _ (@ps_set _ _ (2) _ _ _ _ sc_law.nd rfl (Or.inl rfl) (@pe_op _ _ _ _ _ _ _ _ op_mod (@pe_fn _ _ _ _ _ _ _ _ _ _ _ _ F_law_cell_at hr (@pa_cons _ _ _ _ _ (@pv _ 0 _ _ (by rfl) (by first | exact Or.inl rfl | exact Or.inr (Or.inl rfl) | exact Or.inr (Or.inr rfl)) (by decide) (by decide)) (@pa_cons _ _ _ _ _ pe_int pa_nil (by rfl)) (by rfl)) (by omega) (by rfl) (by rfl) (by decide) (by rfl) (by rfl)) pe_int) (by rfl) (by first | exact .inl rfl | exact .inr rfl | assumption)) (@pss_cons _ _ _ _ _ (@ps_set _ _ (3) _ _ _ _ sc_law.nd rfl (Or.inl rfl) (@pe_fn _ _ _ _ _ _ _ _ _ _ _ _ F_law_further hr (@pa_cons _ _ _ _ _ (@pe_fn _ _ _ _ _ _ _ _ _ _ _ _ F_law_cell_at hr (@pa_cons _ _ _ _ _ (@pv _ 0 _ _ (by rfl) (by first | exact Or.inl rfl | exact Or.inr (Or.inl rfl) | exact Or.inr (Or.inr rfl)) (by decide) (by decide)) (@pa_cons _ _ _ _ _ pe_int pa_nil (by rfl)) (by rfl)) (by omega) (by rfl) (by rfl) (by decide) (by rfl) (by rfl)) (@pa_cons _ _ _ _ _ pe_int (@pa_cons _ _ _ _ _ pe_int pa_nil (by rfl)) (by rfl)) (by rfl)) (by omega) (by rfl) (by rfl) (by decide) (by rfl) (by rfl)) (by rfl) (by first | exact .inl rfl | exact .inr rfl | assumption)) (@pss_cons _ _ _ _ _ (@ps_setC _ (4) _ _ _ _ _ _ _ _ _ ([none]) ((["_law_cell"] : List Str)) _ (gName 0) _ _ sc_law.nd rfl (Or.inl rfl) (.own .nil) rfl (@pi_list _ _ _ _ (@pe_slice _ _ _ _ _ _ _ _ _ _ sl_list (@pe_op _ _ _ _ _ _ _ _ op_cat (@pe_slice _ _ _ _ _ _ _ _ _ _ sl_list (@pv _ 0 _ _ (by rfl) (by first | exact Or.inl rfl | exact Or.inr (Or.inl rfl) | exact Or.inr (Or.inr rfl)) (by decide) (by decide)) (@po_some _ _ _ pe_int) po_none) (@pv _ 3 _ _ (by rfl) (by first | exact Or.inl rfl | exact Or.inr (Or.inl rfl) | exact Or.inr (Or.inr rfl)) (by decide) (by decide))) po_none (@po_some _ _ _ pe_int))) (fun cl C s₀ H₀ fp pn => (@pg_name _ _ (0) _ (show List.Nodup (["_law_cell"] : List Str) by decide +kernel) rfl (Or.inl rfl) (Or.inr rfl))) (fun cl C s₀ H₀ fp pn => pts_nil) (fun cl C s₀ H₀ fp pn => (@pe_fn _ _ _ _ _ _ _ _ _ _ _ _ F_law_deed hr (@pa_cons _ _ _ _ _ (@pv _ 0 _ _ (by rfl) (by first | exact Or.inl rfl | exact Or.inr (Or.inl rfl) | exact Or.inr (Or.inr rfl)) (by decide) (by decide)) pa_nil (by rfl)) (by omega) (by rfl) (by rfl) (by decide) (by rfl) (by rfl))) (by intro x hx; simp at hx) (by rfl) (by decide) (by decide +kernel) (by intro _; rfl) (by rfl) (by first | exact .inl rfl | exact .inr rfl | assumption)) (@pss_cons _ _ _ _ _ (@ps_set _ _ (5) _ _ _ _ sc_law.nd rfl (Or.inr rfl) (@pe_fn _ _ _ _ _ _ _ _ _ _ _ _ F_law_copy hr (@pa_cons _ _ _ _ _ (@pv _ 4 _ _ (by rfl) (by first | exact Or.inl rfl | exact Or.inr (Or.inl rfl) | exact Or.inr (Or.inr rfl)) (by decide) (by decide)) pa_nil (by rfl)) (by omega) (by rfl) (by rfl) (by decide) (by rfl) (by rfl)) (by rfl) (by first | exact .inl rfl | exact .inr rfl | assumption)) (@pss_cons _ _ _ _ _ (@ps_setC _ (6) _ _ _ _ _ _ _ _ _ ([none, some 1, some 5]) ((["_law_k", "_law_bad", "_law_kept"] : List Str)) _ (gName 0) _ _ sc_law.nd rfl (Or.inl rfl) (.own (.cap (i := 1) rfl rfl (by first | exact Or.inl rfl | exact Or.inr rfl) (.cap (i := 5) rfl rfl (by first | exact Or.inl rfl | exact Or.inr rfl) .nil))) rfl (@pi_range1 _ _ _ _ _ _ rfl b_range (@pa_cons _ _ _ _ _ (@pe_bf _ _ _ _ _ _ _ _ _ _ b_len call_len_seq (@pa_cons _ _ _ _ _ (@pv _ 5 _ _ (by rfl) (by first | exact Or.inl rfl | exact Or.inr (Or.inl rfl) | exact Or.inr (Or.inr rfl)) (by decide) (by decide)) pa_nil (by rfl)) (by decide +kernel) (by rfl) (by rfl) (by decide) (by decide) (by rfl) (by rfl)) pa_nil (by rfl)) (by rfl)) (fun cl C s₀ H₀ fp pn => (@pg_name _ _ (0) _ (show List.Nodup (["_law_k", "_law_bad", "_law_kept"] : List Str) by decide +kernel) rfl (Or.inl rfl) (Or.inr rfl))) (fun cl C s₀ H₀ fp pn => (@pts_one _ _ _ (@pt_cmpR _ _ _ _ _ _ _ _ op_eq (@pe_fn _ _ _ _ _ _ _ _ _ _ _ _ F_law_mark hr (@pa_cons _ _ _ _ _ (@pe_ix _ _ _ _ _ _ _ (ix_listK (K := g.K)) (@pv _ 2 _ _ (by rfl) (by first | exact Or.inl rfl | exact Or.inr (Or.inl rfl) | exact Or.inr (Or.inr rfl)) (by decide) (by decide)) (@pv _ 0 _ _ (by rfl) (by first | exact Or.inl rfl | exact Or.inr (Or.inl rfl) | exact Or.inr (Or.inr rfl)) (by decide) (by decide)) (fun _ _ => rfl)) pa_nil (by rfl)) (by omega) (by rfl) (by rfl) (by decide) (by rfl) (by rfl)) (@pv _ 1 _ _ (by rfl) (by first | exact Or.inl rfl | exact Or.inr (Or.inl rfl) | exact Or.inr (Or.inr rfl)) (by decide) (by decide)) (nomark _)))) (fun cl C s₀ H₀ fp pn => (@pv _ 0 _ _ (by rfl) (by first | exact Or.inl rfl | exact Or.inr (Or.inl rfl) | exact Or.inr (Or.inr rfl)) (by decide) (by decide))) (by intro x hx; simp at hx; first | (subst hx; exact Or.inl rfl) | (rcases hx with rfl | rfl <;> exact Or.inl rfl) | (rcases hx with rfl | rfl | rfl <;> exact Or.inl rfl)) (by rfl) (by decide) (by decide +kernel) (by intro _; rfl) (by rfl) (by first | exact .inl rfl | exact .inr rfl | assumption)) (@pss_cons _ _ _ _ _ (@ps_set _ _ (7) _ _ _ _ sc_law.nd rfl (Or.inl rfl) (@pe_fn _ _ _ _ _ _ _ _ _ _ _ _ F_law_thing hr (@pa_cons _ _ _ _ _ (@pe_un _ _ _ _ _ _ un_neg pe_int) pa_nil (by rfl)) (by omega) (by rfl) (by rfl) (by decide) (by rfl) (by rfl)) (by rfl) (by first | exact .inl rfl | exact .inr rfl | assumption)) (@pss_cons _ _ _ _ _ (@ps_set _ _ (8) _ _ _ _ sc_law.nd rfl (Or.inl rfl) (@pe_fn _ _ _ _ _ _ _ _ _ _ _ _ F_law_thing hr (@pa_cons _ _ _ _ _ (@pv _ 1 _ _ (by rfl) (by first | exact Or.inl rfl | exact Or.inr (Or.inl rfl) | exact Or.inr (Or.inr rfl)) (by decide) (by decide)) pa_nil (by rfl)) (by omega) (by rfl) (by rfl) (by decide) (by rfl) (by rfl)) (by rfl) (by first | exact .inl rfl | exact .inr rfl | assumption)) (@pss_cons _ _ _ _ _ (@ps_set _ _ (9) _ _ _ _ sc_law.nd rfl (Or.inl rfl) (@pe_fn0 _ _ _ _ _ _ _ _ _ F_law_still hr (by omega) (by rfl) (by rfl) (by decide)) (by rfl) (by first | exact .inl rfl | exact .inr rfl | assumption)) (@pss_cons _ _ _ _ _ (@ps_set _ _ (10) _ _ _ _ sc_law.nd rfl (Or.inl rfl) (@pe_fn _ _ _ _ _ _ _ _ _ _ _ _ F_apart hr (@pa_cons _ _ _ _ _ (@pe_ix _ _ _ _ _ _ _ ix_tup (@pv _ 7 _ _ (by rfl) (by first | exact Or.inl rfl | exact Or.inr (Or.inl rfl) | exact Or.inr (Or.inr rfl)) (by decide) (by decide)) pe_int (fun _ _ => rfl)) (@pa_cons _ _ _ _ _ (@pe_ix _ _ _ _ _ _ _ ix_tup (@pv _ 7 _ _ (by rfl) (by first | exact Or.inl rfl | exact Or.inr (Or.inl rfl) | exact Or.inr (Or.inr rfl)) (by decide) (by decide)) pe_int (fun _ _ => rfl)) (@pa_cons _ _ _ _ _ (@pe_ix _ _ _ _ _ _ _ ix_tup (@pv _ 8 _ _ (by rfl) (by first | exact Or.inl rfl | exact Or.inr (Or.inl rfl) | exact Or.inr (Or.inr rfl)) (by decide) (by decide)) pe_int (fun _ _ => rfl)) (@pa_cons _ _ _ _ _ (@pe_ix _ _ _ _ _ _ _ ix_tup (@pv _ 8 _ _ (by rfl) (by first | exact Or.inl rfl | exact Or.inr (Or.inl rfl) | exact Or.inr (Or.inr rfl)) (by decide) (by decide)) pe_int (fun _ _ => rfl)) (@pa_cons _ _ _ _ _ (@pv _ 4 _ _ (by rfl) (by first | exact Or.inl rfl | exact Or.inr (Or.inl rfl) | exact Or.inr (Or.inr rfl)) (by decide) (by decide)) pa_nil (by rfl)) (by rfl)) (by rfl)) (by rfl)) (by rfl)) (by omega) (by rfl) (by rfl) (by decide) (by rfl) (by rfl)) (by rfl) (by first | exact .inl rfl | exact .inr rfl | assumption)) (@pss_cons _ _ _ _ _ (@ps_if _ _ _ _ _ _ _ _ (@pt_cmpR _ _ _ _ _ _ _ _ (op_eqD hr.units) (@pv _ 6 _ _ (by rfl) (by first | exact Or.inl rfl | exact Or.inr (Or.inl rfl) | exact Or.inr (Or.inr rfl)) (by decide) (by decide)) (@pe_lst _ _ _ _ pa_nil) (nomark _)) (@pss_one _ _ _ (@ps_if _ _ _ _ _ _ _ _ (@pt_cmpR _ _ _ _ _ _ _ _ op_notN (@pv _ 10 _ _ (by rfl) (by first | exact Or.inl rfl | exact Or.inr (Or.inl rfl) | exact Or.inr (Or.inr rfl)) (by decide) (by decide)) pe_non (nomark _)) (@pss_one _ _ _ (@ps_ret _ _ _ _ pe_bl)) pss_nil)) (@pss_one _ _ _ (@ps_if _ _ _ _ _ _ _ _ (@pw_or _ _ _ _ _ _ _ (@pt_not _ _ _ _ (@pt_val _ _ _ (@pe_fn _ _ _ _ _ _ _ _ _ _ _ _ F_law_whole hr (@pa_cons _ _ _ _ _ (@pv _ 10 _ _ (by rfl) (by first | exact Or.inl rfl | exact Or.inr (Or.inl rfl) | exact Or.inr (Or.inr rfl)) (by decide) (by decide)) pa_nil (by rfl)) (by omega) (by rfl) (by rfl) (by decide) (by rfl) (by rfl)) (by intro _; rfl))) (@pw_or1 _ _ _ _ (@pt_cmpR _ _ _ _ _ _ _ _ op_ne (@pv _ 10 _ _ (by rfl) (by first | exact Or.inl rfl | exact Or.inr (Or.inl rfl) | exact Or.inr (Or.inr rfl)) (by decide) (by decide)) (@pe_ix _ _ _ _ _ _ _ ix_list (@pv _ 6 _ _ (by rfl) (by first | exact Or.inl rfl | exact Or.inr (Or.inl rfl) | exact Or.inr (Or.inr rfl)) (by decide) (by decide)) pe_int (fun _ _ => rfl)) (nomark _)))).pt (@pss_one _ _ _ (@ps_ret _ _ _ _ pe_bl)) pss_nil))) (@pss_cons _ _ _ _ _ (@ps_set _ _ (11) _ _ _ _ sc_law.nd rfl (Or.inl rfl) (@pe_fn _ _ _ _ _ _ _ _ _ _ _ _ F_deed_judge hr (@pa_cons _ _ _ _ _ (@pe_ix _ _ _ _ _ _ _ ix_tup (@pv _ 7 _ _ (by rfl) (by first | exact Or.inl rfl | exact Or.inr (Or.inl rfl) | exact Or.inr (Or.inr rfl)) (by decide) (by decide)) pe_int (fun _ _ => rfl)) (@pa_cons _ _ _ _ _ (@pe_ix _ _ _ _ _ _ _ ix_tup (@pv _ 7 _ _ (by rfl) (by first | exact Or.inl rfl | exact Or.inr (Or.inl rfl) | exact Or.inr (Or.inr rfl)) (by decide) (by decide)) pe_int (fun _ _ => rfl)) (@pa_cons _ _ _ _ _ (@pe_ix _ _ _ _ _ _ _ ix_tup (@pv _ 8 _ _ (by rfl) (by first | exact Or.inl rfl | exact Or.inr (Or.inl rfl) | exact Or.inr (Or.inr rfl)) (by decide) (by decide)) pe_int (fun _ _ => rfl)) (@pa_cons _ _ _ _ _ (@pe_ix _ _ _ _ _ _ _ ix_tup (@pv _ 8 _ _ (by rfl) (by first | exact Or.inl rfl | exact Or.inr (Or.inl rfl) | exact Or.inr (Or.inr rfl)) (by decide) (by decide)) pe_int (fun _ _ => rfl)) pa_nil (by rfl)) (by rfl)) (by rfl)) (by rfl)) (by omega) (by rfl) (by rfl) (by decide) (by rfl) (by rfl)) (by rfl) (by first | exact .inl rfl | exact .inr rfl | assumption)) (@pss_cons _ _ _ _ _ (@ps_set _ _ (12) _ _ _ _ sc_law.nd rfl (Or.inl rfl) (@pe_fn _ _ _ _ _ _ _ _ _ _ _ _ F_deed_judge hr (@pa_cons _ _ _ _ _ (@pe_ix _ _ _ _ _ _ _ ix_tup (@pv _ 9 _ _ (by rfl) (by first | exact Or.inl rfl | exact Or.inr (Or.inl rfl) | exact Or.inr (Or.inr rfl)) (by decide) (by decide)) pe_int (fun _ _ => rfl)) (@pa_cons _ _ _ _ _ (@pe_ix _ _ _ _ _ _ _ ix_tup (@pv _ 9 _ _ (by rfl) (by first | exact Or.inl rfl | exact Or.inr (Or.inl rfl) | exact Or.inr (Or.inr rfl)) (by decide) (by decide)) pe_int (fun _ _ => rfl)) (@pa_cons _ _ _ _ _ (@pe_ix _ _ _ _ _ _ _ ix_tup (@pv _ 9 _ _ (by rfl) (by first | exact Or.inl rfl | exact Or.inr (Or.inl rfl) | exact Or.inr (Or.inr rfl)) (by decide) (by decide)) pe_int (fun _ _ => rfl)) (@pa_cons _ _ _ _ _ (@pe_ix _ _ _ _ _ _ _ ix_tup (@pv _ 9 _ _ (by rfl) (by first | exact Or.inl rfl | exact Or.inr (Or.inl rfl) | exact Or.inr (Or.inr rfl)) (by decide) (by decide)) pe_int (fun _ _ => rfl)) pa_nil (by rfl)) (by rfl)) (by rfl)) (by rfl)) (by omega) (by rfl) (by rfl) (by decide) (by rfl) (by rfl)) (by rfl) (by first | exact .inl rfl | exact .inr rfl | assumption)) (@pss_cons _ _ _ _ _ (@ps_for _ _ _ _ _ _ _ _ PassesOwn.never rfl (@pi_list _ _ _ _ (@pe_lst _ _ _ _ (@pa_cons _ _ _ _ _ (@pv _ 4 _ _ (by rfl) (by first | exact Or.inl rfl | exact Or.inr (Or.inl rfl) | exact Or.inr (Or.inr rfl)) (by decide) (by decide)) (@pa_cons _ _ _ _ _ (@pe_slice _ _ _ _ _ _ _ _ _ _ sl_list (@pv _ 4 _ _ (by rfl) (by first | exact Or.inl rfl | exact Or.inr (Or.inl rfl) | exact Or.inr (Or.inr rfl)) (by decide) (by decide)) po_none (@po_some _ _ _ (@pv _ 2 _ _ (by rfl) (by first | exact Or.inl rfl | exact Or.inr (Or.inl rfl) | exact Or.inr (Or.inr rfl)) (by decide) (by decide)))) (@pa_cons _ _ _ _ _ (@pe_slice _ _ _ _ _ _ _ _ _ _ sl_list (@pv _ 4 _ _ (by rfl) (by first | exact Or.inl rfl | exact Or.inr (Or.inl rfl) | exact Or.inr (Or.inr rfl)) (by decide) (by decide)) (@po_some _ _ _ pe_int) (@po_some _ _ _ (@pe_op _ _ _ _ _ _ _ _ op_add (@pv _ 2 _ _ (by rfl) (by first | exact Or.inl rfl | exact Or.inr (Or.inl rfl) | exact Or.inr (Or.inr rfl)) (by decide) (by decide)) pe_int))) (@pa_cons _ _ _ _ _ (@pv _ 4 _ _ (by rfl) (by first | exact Or.inl rfl | exact Or.inr (Or.inl rfl) | exact Or.inr (Or.inr rfl)) (by decide) (by decide)) pa_nil (by rfl)) (by rfl)) (by rfl)) (by rfl)))) (@pg_name _ _ (13) _ sc_law.nd rfl (Or.inr rfl) (by first | exact .inl rfl | exact .inr rfl | assumption)) (@pss_cons _ _ _ _ _ (@ps_set _ _ (14) _ _ _ _ sc_law.nd rfl (Or.inl rfl) (@pe_callC _ (g) _ (16) _ _ _ _ _ _ 11 hr (@pa_cons _ _ _ _ _ (@pv _ 13 _ _ (by rfl) (by first | exact Or.inl rfl | exact Or.inr (Or.inl rfl) | exact Or.inr (Or.inr rfl)) (by decide) (by decide)) pa_nil (by rfl)) (by omega) (by rfl) (by rfl) (by first | exact Or.inl rfl | exact Or.inr (Or.inl rfl) | exact Or.inr (Or.inr rfl)) (by decide) (by decide) (by rfl) (by rfl)) (by rfl) (by first | exact .inl rfl | exact .inr rfl | assumption)) (@pss_cons _ _ _ _ _ (@ps_set _ _ (15) _ _ _ _ sc_law.nd rfl (Or.inl rfl) (@pe_cmpR _ _ _ _ _ _ _ _ (op_eqD hr.units) (@pe_lc _ _ _ _ _ _ _ ([none, some 1, some 13]) ((["_law_k", "_law_bad", "_law_some"] : List Str)) _ (gName 0) _ _ (.own (.cap (i := 1) rfl rfl (by first | exact Or.inl rfl | exact Or.inr rfl) (.cap (i := 13) rfl rfl (by first | exact Or.inl rfl | exact Or.inr rfl) .nil))) rfl (@pi_range1 _ _ _ _ _ _ rfl b_range (@pa_cons _ _ _ _ _ (@pe_bf _ _ _ _ _ _ _ _ _ _ b_len call_len_seq (@pa_cons _ _ _ _ _ (@pv _ 13 _ _ (by rfl) (by first | exact Or.inl rfl | exact Or.inr (Or.inl rfl) | exact Or.inr (Or.inr rfl)) (by decide) (by decide)) pa_nil (by rfl)) (by decide +kernel) (by rfl) (by rfl) (by decide) (by decide) (by rfl) (by rfl)) pa_nil (by rfl)) (by rfl)) (fun cl C s₀ H₀ fp pn => (@pg_name _ _ (0) _ (show List.Nodup (["_law_k", "_law_bad", "_law_some"] : List Str) by decide +kernel) rfl (Or.inl rfl) (Or.inr rfl))) (fun cl C s₀ H₀ fp pn => (@pts_one _ _ _ (@pt_cmpR _ _ _ _ _ _ _ _ op_eq (@pe_fn _ _ _ _ _ _ _ _ _ _ _ _ F_law_mark hr (@pa_cons _ _ _ _ _ (@pe_ix _ _ _ _ _ _ _ (ix_listK (K := g.K)) (@pv _ 2 _ _ (by rfl) (by first | exact Or.inl rfl | exact Or.inr (Or.inl rfl) | exact Or.inr (Or.inr rfl)) (by decide) (by decide)) (@pv _ 0 _ _ (by rfl) (by first | exact Or.inl rfl | exact Or.inr (Or.inl rfl) | exact Or.inr (Or.inr rfl)) (by decide) (by decide)) (fun _ _ => rfl)) pa_nil (by rfl)) (by omega) (by rfl) (by rfl) (by decide) (by rfl) (by rfl)) (@pv _ 1 _ _ (by rfl) (by first | exact Or.inl rfl | exact Or.inr (Or.inl rfl) | exact Or.inr (Or.inr rfl)) (by decide) (by decide)) (nomark _)))) (fun cl C s₀ H₀ fp pn => (@pv _ 0 _ _ (by rfl) (by first | exact Or.inl rfl | exact Or.inr (Or.inl rfl) | exact Or.inr (Or.inr rfl)) (by decide) (by decide))) (by intro x hx; simp at hx; first | (subst hx; exact Or.inl rfl) | (rcases hx with rfl | rfl <;> exact Or.inl rfl) | (rcases hx with rfl | rfl | rfl <;> exact Or.inl rfl)) (by rfl) (by decide) (by decide +kernel) (by intro _; rfl)) (@pe_lst _ _ _ _ pa_nil) (nomark _)) (by rfl) (by first | exact .inl rfl | exact .inr rfl | assumption)) (@pss_one _ _ _ (@ps_if _ _ _ _ _ _ _ _ (@pw_or _ _ _ _ _ _ _ (@pt_not _ _ _ _ (@pt_val _ _ _ (@pe_bf _ _ _ _ _ _ _ _ _ _ b_isinstance call_isinst (@pa_cons _ _ _ _ _ (@pv _ 14 _ _ (by rfl) (by first | exact Or.inl rfl | exact Or.inr (Or.inl rfl) | exact Or.inr (Or.inr rfl)) (by decide) (by decide)) (@pa_cons _ _ _ _ _ (@pe_bn _ _ _ _ ("bool") b_bool (by decide +kernel) (by rfl) (by rfl) (by decide) (by decide)) pa_nil (by rfl)) (by rfl)) (by decide +kernel) (by rfl) (by rfl) (by decide) (by decide) (by rfl) (by rfl)) (by intro _; rfl))) (@pw_or _ _ _ _ _ _ _ (@pt_cmpR _ _ _ _ _ _ _ _ op_ne (@pv _ 14 _ _ (by rfl) (by first | exact Or.inl rfl | exact Or.inr (Or.inl rfl) | exact Or.inr (Or.inr rfl)) (by decide) (by decide)) (@pv _ 15 _ _ (by rfl) (by first | exact Or.inl rfl | exact Or.inr (Or.inl rfl) | exact Or.inr (Or.inr rfl)) (by decide) (by decide)) (nomark _)) (@pw_or1 _ _ _ _ (@pt_cmpR _ _ _ _ _ _ _ _ op_isnotB (@pe_callC _ (g) _ (16) _ _ _ _ _ _ 12 hr (@pa_cons _ _ _ _ _ (@pv _ 13 _ _ (by rfl) (by first | exact Or.inl rfl | exact Or.inr (Or.inl rfl) | exact Or.inr (Or.inr rfl)) (by decide) (by decide)) pa_nil (by rfl)) (by omega) (by rfl) (by rfl) (by first | exact Or.inl rfl | exact Or.inr (Or.inl rfl) | exact Or.inr (Or.inr rfl)) (by decide) (by decide) (by rfl) (by rfl)) pe_bl (nomark _))))).pt (@pss_one _ _ _ (@ps_ret _ _ _ _ pe_bl)) pss_nil)))) (by intro _; rfl)) (@pss_one _ _ _ (@ps_ret _ _ _ _ (@pe_cmpR _ _ _ _ _ _ _ _ (op_eqD hr.units) (@pv _ 4 _ _ (by rfl) (by first | exact Or.inl rfl | exact Or.inr (Or.inl rfl) | exact Or.inr (Or.inr rfl)) (by decide) (by decide)) (@pv _ 5 _ _ (by rfl) (by first | exact Or.inl rfl | exact Or.inr (Or.inl rfl) | exact Or.inr (Or.inr rfl)) (by decide) (by decide)) (nomark _)))))))))))))))))), ?_⟩
  have hTJ : H P_deed_judge = some (.tbl #[]) := ht _ (.head _)
  have hTT : H P_law_thing = some (.tbl #[]) := ht _ (.tail _ (.head _))
  have hTS : H P_law_still = some (.tbl #[]) := ht _ (.tail _ (.tail _ (.head _)))
  have nTS : P_law_thing ≠ P_law_still := fun z => by simp [z] at hnd
  have nTJ : P_law_thing ≠ P_deed_judge := fun z => by simp [z] at hnd
  have nSJ : P_law_still ≠ P_deed_judge := fun z => by simp [z] at hnd
  refine cut5 (fun σ H' => ∃ (Mo D D2 : Addr) (bad : Int) (at' : Nat) (zs : List Int) (us us2 : List V) (L L2 : List Addr), σ = [some (.ref a), some (.int bad), some (.int at'), some (.ref Mo), some (.ref D), some (.ref D2), none, none, none, none, none, none, none, none, none, none] ∧ Same H H' ∧ H' D = some (.lst us) ∧ VLs H' us (zs.map dd) L ∧ H' D2 = some (.lst us2) ∧ VLs H' us2 (zs.map dd) L2 ∧ zs.length ≤ 1200) ?_ (fun N hN => ?_)
  rotate_left
  · walk_at "rd"
    refine ⟨a, ns, 0, rfl, hS, hl, _, rfl, by decide, a, ns, 1, rfl, hS, hl, _, rfl, by decide, a, ns, 1, rfl, hS, hl, _, rfl, fun Mo xs H1 s1 hMn hMo hxl => ?_⟩
    have hS1 := s1.seq hS
    obtain ⟨zs, hzs⟩ : ∃ zs, zs = ((ns.drop 2) ++ xs).take 1200 := ⟨_, rfl⟩
    have hzl : zs.length ≤ 1200 := by rw [hzs, List.length_take]; omega
    refine tLC_ownG (K := g.K) (xs := zs.map V.int) (zs.map dd) (fun R r => ?_) (by rw [List.length_map, List.length_map]) (by rw [List.length_map]; omega) ?_ ?_
    · walk_at "rd"
      have e6 : cutV (ns.map V.int) (some 2) none = (ns.drop 2).map V.int := by
        rw [show (2 : Int) = ((2 : Nat) : Int) from rfl, cutV_lo, List.map_drop]
      refine ⟨_, hS1, fun a1 g1 => ?_⟩
      have w1 := Same.upd_new g1 (.lst (cutV (ns.map V.int) (some 2) none))
      refine ⟨_, upd_same, _, w1 _ _ hMo, by rw [e6, List.length_map, List.length_map, List.length_drop]; exact few (by omega), fun a2 g2 => ⟨_, SqL.of upd_same, fun a3 g3 => ?_⟩⟩
      refine r a3 _ ((w1.trans (.upd_new g2 _)).trans (.upd_new g3 _)) (SqL.of ?_)
      rw [upd_same, e6, ← List.map_append, show (1200 : Int) = ((1200 : Nat) : Int) from rfl, cutV_hi, ← List.map_take, ← hzs]
    · intro i x d H' hx hd sm R r
      rw [List.getElem?_map] at hx hd
      obtain ⟨z, hz, rfl⟩ := Option.map_eq_some_iff.mp hx
      rw [hz] at hd
      have : dd z = d := Option.some.inj hd
      subst this
      walk_at "rd"
      exact ⟨z, rfl, fun v H'' L s'' ho => r v H'' L s'' ho⟩
    · intro D H2 L s2 ho
      obtain ⟨us, L1, _, h1, h2, h3, _, _⟩ := ho.inv
      have hdp := dd_depth zs
      refine ⟨.ref D, .list (zs.map dd), L, rfl, ho.vl, by rw [PyData.depth]; omega, fun v' H3 L' s3 ho' => ?_⟩
      obtain ⟨D2, us2, L2, rfl, k1, k2, k3⟩ := vl_list ho'.vl
      have n40 : 0 ≤ ns.getD 1 0 % 40 := Int.emod_nonneg _ (by decide)
      refine hN _ _ ⟨Mo, D, D2, _, (ns.getD 1 0 % 40).toNat, zs, us, us2, L1, L2, by rw [Int.toNat_of_nonneg n40], (s1.trans s2).trans s3, s3 _ _ h1, h3.vl.keep s3, k1, k3, hzl⟩
  rintro σ H1 ⟨Mo, D, D2, bad, at', zs, us, us2, L, L2, rfl, s1, hD, hv, hD2, hv2, hzl⟩
  have vz := vz_of hv
  have vz2 := vz_of hv2
  refine cut4 (fun σ H' => ∃ (Pl t1 t2 t3 b1 f1 b2 f2 b3 f3 : Addr), σ = [some (.ref a), some (.int bad), some (.int at'), some (.ref Mo), some (.ref D), some (.ref D2), some (.ref Pl), some (.ref t1), some (.ref t2), some (.ref t3), none, none, none, none, none, none] ∧ Kt H1 H' ∧ H' Pl = some (.lst ((bads bad zs).map fun (i : Nat) => V.int (i : Int))) ∧ H' t1 = some (.tup [.ref b1, .ref f1]) ∧ H' t2 = some (.tup [.ref b2, .ref f2]) ∧ H' t3 = some (.tup [.ref b3, .ref f3]) ∧ BegOk g H' b1 (some (-1)) ∧ DoneOk g H' f1 (some (-1)) ∧ BegOk g H' b2 (some bad) ∧ DoneOk g H' f2 (some bad) ∧ BegOk g H' b3 none ∧ DoneOk g H' f3 none ∧ H' P_deed_judge = some (.tbl #[])) ?_ (fun N hN => ?_)
  rotate_left
  · walk_at "rd"
    refine tLC_rangeF (n := zs.length) (fun i => decide (zs.getD i 0 % 5 = bad)) (fun R rr => by walk_at "rd"; exact ⟨us2, .inl (SqL.of hD2), by rw [vz2.1]; exact rr⟩) (by omega) ?_ ?_ ?_
    · intro i H' hi sm R rr
      have hx : us2[i]? = some (us2[i]'(by rw [vz2.1]; exact hi)) := List.getElem?_eq_getElem _
      have hzi : zs[i]? = some zs[i] := List.getElem?_eq_getElem hi
      obtain ⟨Lz, hvz⟩ := vz2.2 i _ _ hx hzi
      have ez : zs.getD i 0 = zs[i] := by rw [List.getD_eq_getElem?_getD, hzi]; rfl
      rw [ez] at rr
      walk_at "rd"
      exact ⟨us2, SqL.of (sm _ _ hD2), _, atI_nat hx, _, _, Lz, _, rfl, hvz.keep sm, dd_deed _, rfl, by have := rr H' (.refl _); simpa using this⟩
    · intro i H' hi hp sm R rr
      walk_at "rd"
      exact rr H' (.refl _)
    · intro Pl H2 hPl s2 hpl
      refine ⟨-1, rfl, .inl (s2 _ _ (s1 _ _ hTT)), fun t1 b1 f1 H3 r1 r2 r3 r4 r5 => ?_⟩
      have kt3 := kt_but r5 (s2 _ _ (s1 _ _ hTT))
      obtain ⟨ps3, hps3⟩ := r4.tbl
      refine ⟨bad, rfl, r4, fun t2 b2 f2 H4 u1 u2 u3 u4 u5 => ?_⟩
      have kt4 := kt_but u5 hps3
      have hS4 : H4 P_law_still = some (.tbl #[]) := u5 _ _ (Ne.symm nTS) (r5 _ _ (Ne.symm nTS) (s2 _ _ (s1 _ _ hTS)))
      refine ⟨rfl, hS4, fun t3 b3 f3 H5 v1 v2 v3 v5 => ?_⟩
      have kt5 := kt_but v5 hS4
      have kt45 := kt4.trans kt5
      have hJ5 : H5 P_deed_judge = some (.tbl #[]) := v5 _ _ (Ne.symm nSJ) (u5 _ _ (Ne.symm nTJ) (r5 _ _ (Ne.symm nTJ) (s2 _ _ (s1 _ _ hTJ))))
      exact hN _ _ ⟨Pl, t1, t2, t3, b1, f1, b2, f2, b3, f3, rfl, ((kt_of s2).trans kt3).trans kt45, (kt3.trans kt45).lst hpl, kt45.tup r3, kt5.tup u3, v3, r1.nl kt45.nl, r2.nl kt45.nl, u1.nl kt5.nl, u2.nl kt5.nl, v1, v2, hJ5⟩
  rintro σ H2 ⟨Pl, t1, t2, t3, b1, f1, b2, f2, b3, f3, rfl, kt2, hPl, ht1, ht2, ht3, hb1, hf1, hb2, hf2, hb3, hf3, hJ⟩
  have hD_2 := kt2.lst hD
  have vz_2 := kt_vz kt2 vz
  refine cut2 (fun σ H' => ∃ (o : Option Nat), σ = [some (.ref a), some (.int bad), some (.int at'), some (.ref Mo), some (.ref D), some (.ref D2), some (.ref Pl), some (.ref t1), some (.ref t2), some (.ref t3), some (dv o), none, none, none, none, none] ∧ Same H2 H') ?_ (fun N hN => ?_)
  rotate_left
  · walk_at "rd"
    refine ⟨_, SqT.of ht1, _, rfl, _, SqT.of ht1, _, rfl, _, SqT.of ht2, _, rfl, _, SqT.of ht2, _, rfl, b1, f1, b2, f2, D, _, _, us, zs, rfl, hb1, hf1, hb2, hf2, hD_2, vz_2, hzl, fun o H3 ho s3 => ⟨few (by decide), fun p hp => ?_⟩⟩
    have s4 := s3.trans (.upd_new hp (.lst []))
    refine ⟨_, den_ix (s4 _ _ hPl), _, .lst (SqL.of upd_same) .nil, depth_ix _, ?_⟩
    rw [eqv_nil8]
    cases o with
    | none =>
      rw [bad_none ho]
      exact iteY rfl (iteN (fun z => z rfl) (hN _ _ ⟨none, rfl, s4⟩))
    | some i =>
      obtain ⟨r, hr⟩ := bad_some ho
      have hPl' := s4 _ _ hPl
      rw [hr] at hPl' ⊢
      refine iteN (by simp) ⟨(i : Int), rfl, true, rfl, iteN (by decide) ⟨_, SqL.of hPl', _, atI_nat (j := 0) rfl, rfl, iteN (fun z => z rfl) (hN _ _ ⟨some i, rfl, s4⟩)⟩⟩
  rintro σ H3 ⟨o, rfl, s3⟩
  refine cut2 (fun σ H' => ∃ (jf kf : Addr), σ = [some (.ref a), some (.int bad), some (.int at'), some (.ref Mo), some (.ref D), some (.ref D2), some (.ref Pl), some (.ref t1), some (.ref t2), some (.ref t3), some (dv o), some (.ref jf), some (.ref kf), none, none, none] ∧ Kt H1 H' ∧ JudgeOk g H' jf (some (-1)) (some bad) ∧ JudgeOk g H' kf none none) ?_ (fun N hN => ?_)
  rotate_left
  · walk_at "rd"
    have n3 := nl_of s3
    refine ⟨_, SqT.of (s3 _ _ ht1), _, rfl, _, SqT.of (s3 _ _ ht1), _, rfl, _, SqT.of (s3 _ _ ht2), _, rfl, _, SqT.of (s3 _ _ ht2), _, rfl, b1, f1, b2, f2, _, _, rfl, hb1.nl n3, hf1.nl n3, hb2.nl n3, hf2.nl n3, .inl (s3 _ _ hJ), fun jf H4 jok tJ kj => ?_⟩
    have kt4 := (kt_of s3).trans (kt_but kj (s3 _ _ hJ))
    have q3 := kt4.tup ht3
    obtain ⟨ps4, hps4⟩ := tJ.tbl
    refine ⟨_, SqT.of q3, _, rfl, _, SqT.of q3, _, rfl, _, SqT.of q3, _, rfl, _, SqT.of q3, _, rfl, b3, f3, b3, f3, _, _, rfl, hb3.nl kt4.nl, hf3.nl kt4.nl, hb3.nl kt4.nl, hf3.nl kt4.nl, tJ, fun kf H5 jok2 tJ2 kj2 => ?_⟩
    have kt5 := kt_but kj2 hps4
    exact hN _ _ ⟨jf, kf, rfl, (kt2.trans kt4).trans kt5, jok.nl kt5.nl, jok2⟩
  rintro σ H4 ⟨jf, kf, rfl, kt4, hj, hk⟩
  have hD4 := kt4.lst hD
  have vz4 := kt_vz kt4 vz
  walk_at "rd"
  refine tFor_listX (K := g.K) (fun c xs H' => Same H4 H' ∧ H' c = some (.lst xs) ∧ ∀ x ∈ xs, RowAt H' x) (fun R r => ?_) ?_
  · walk_at "rd"
    refine ⟨us, SqL.of hD4, fun p g1 => ?_⟩
    rw [cutV_hi]
    have w1 := Same.upd_new g1 (.lst (us.take at'))
    refine ⟨us, SqL.of (w1 _ _ hD4), fun p1 g2 => ⟨few (by decide), fun p2 g3 => ?_⟩⟩
    rw [show (1 : Int) = ((1 : Nat) : Int) from rfl, show ((at' : Int) + ((1 : Nat) : Int)) = ((at' + 1 : Nat) : Int) by omega, cutV_nn] at g3 ⊢
    have w2 := Same.upd_new g2 (.lst ((us.drop 1).take (at' + 1 - 1)))
    have w3 := Same.upd_new g3 (.lst [V.ref D, V.ref p, V.ref p1, V.ref D])
    have w23 := w2.trans w3
    have wA := w1.trans w23
    refine r p2 _ _ ⟨wA, upd_same, fun x hx => ?_⟩
    have rD : RowAt _ (.ref D) := ⟨D, us, zs, rfl, wA _ _ hD4, vz4.keep wA, hzl⟩
    simp only [List.mem_cons, List.not_mem_nil, or_false] at hx
    rcases hx with rfl | rfl | rfl | rfl
    · exact rD
    · exact ⟨p, _, zs.take at', rfl, w23 _ _ upd_same, (vz4.take at').keep wA, by rw [List.length_take]; omega⟩
    · exact ⟨p1, _, (zs.drop 1).take (at' + 1 - 1), rfl, w3 _ _ upd_same, ((vz4.drop 1).take (at' + 1 - 1)).keep wA, by rw [List.length_take, List.length_drop]; omega⟩
    · exact rD
  · rintro c xs H5 ⟨s5, hc, hrow⟩
    refine ⟨fun i σ H' => (∃ o13 o14 o15, σ = [some (.ref a), some (.int bad), some (.int at'), some (.ref Mo), some (.ref D), some (.ref D2), some (.ref Pl), some (.ref t1), some (.ref t2), some (.ref t3), some (dv o), some (.ref jf), some (.ref kf), o13, o14, o15]) ∧ Same H5 H', ⟨⟨_, _, _, rfl⟩, .refl _⟩, fun i σ H' _ ⟨_, s⟩ => SqL.of (s _ _ hc), ?_, ?_⟩
    · rintro i x σ H' hx ⟨⟨o13, o14, o15, rfl⟩, s6⟩
      obtain ⟨A', us', zs', rfl, hA, hvz, hzl'⟩ := (hrow x (List.mem_of_getElem? hx)).keep s6
      obtain ⟨fd1, sp1, ok1, hf1', hf1c⟩ := hj.nl (nl_of (s5.trans s6))
      walk_at "rd"
      refine ⟨jf, fd1, _, sp1, rfl, ok1.1, ok1.2, hf1', ?_⟩
      walk_at "rd"
      refine hf1c H' A' us' zs' _ (.refl _) hA hvz hzl' fun o' H6 ho' s7 => ?_
      have hA6 := s7 _ _ hA
      have vz6 := hvz.keep s7
      walk_at "rd"
      refine tLC_rangeF (n := zs'.length) (fun i => decide (zs'.getD i 0 % 5 = bad)) (fun R rr => by walk_at "rd"; exact ⟨us', .inl (SqL.of hA6), by rw [vz6.1]; exact rr⟩) (by omega) ?_ ?_ ?_
      · intro i H' hi sm R rr
        have hx : us'[i]? = some (us'[i]'(by rw [vz6.1]; exact hi)) := List.getElem?_eq_getElem _
        have hzi : zs'[i]? = some zs'[i] := List.getElem?_eq_getElem hi
        obtain ⟨Lz, hvz⟩ := vz6.2 i _ _ hx hzi
        have ez : zs'.getD i 0 = zs'[i] := by rw [List.getD_eq_getElem?_getD, hzi]; rfl
        rw [ez] at rr
        walk_at "rd"
        exact ⟨us', SqL.of (sm _ _ hA6), _, atI_nat hx, _, _, Lz, _, rfl, hvz.keep sm, dd_deed _, rfl, by have := rr H' (.refl _); simpa using this⟩
      · intro i H' hi hp sm R rr
        walk_at "rd"
        exact rr H' (.refl _)
      · intro Pd H7 hPd s8 hpd
        refine ⟨few (by decide), fun p hp => ?_⟩
        have s9 := Same.upd_new hp (.lst [])
        refine ⟨_, den_ix (l := bads bad zs') (s9 _ _ hpd), _, .lst (SqL.of upd_same) .nil, depth_ix _, _, rfl, _, .bl _, true, rfl, iteN (by decide) ⟨rfl, ?_⟩⟩
        have eb : o'.isNone = ((bads bad zs').map fun (i : Nat) => PyData.int (i : Int)).isEmpty := by
          cases o' with
          | none => rw [bad_none ho']; rfl
          | some j => obtain ⟨r, hr⟩ := bad_some ho'; rw [hr]; rfl
        rw [eqv_nil8]
        refine iteN (fun z => z eb) ?_
        have s79 := (s7.trans s8).trans s9
        obtain ⟨fd2, sp2, ok2, hf2', hf2c⟩ := hk.nl (nl_of ((s5.trans s6).trans s79))
        refine ⟨kf, fd2, _, sp2, rfl, ok2.1, ok2.2, hf2', ?_⟩
        walk_at "rd"
        refine hf2c _ A' us' zs' _ (.refl _) (s79 _ _ hA) (hvz.keep s79) hzl' fun o9 H8 ho9 s10 => ?_
        rw [still_none ho9]
        exact ⟨true, rfl, iteN (by decide) ((s6.trans s79).trans s10)⟩
    · rintro σ H' ⟨⟨o13, o14, o15, rfl⟩, s6⟩
      walk_at "rd"
      have k6 := kt4.trans (kt_of (s5.trans s6))
      have d1 : Den g.K H' (.ref D) (.list (zs.map dd)) := .lst (SqL.of (k6.lst hD)) (vls_den (kt_vls k6 hv))
      have d2 : Den g.K H' (.ref D2) (.list (zs.map dd)) := .lst (SqL.of (k6.lst hD2)) (vls_den (kt_vls k6 hv2))
      have hdp := dd_depth zs
      refine ⟨_, d1, _, d2, by rw [PyData.depth]; omega, ?_⟩
      rw [PySem.SeqAt.eqv_refl _ d1.lay]
      exact q H'
end KW
set_option maxHeartbeats 8000000
namespace KW
open PySem L2

variable {g : Gx}
variable {m : Nat}
variable {src : List (Option Nat)} {te : TE} {σ : St} {H : Hp} {Q : VK}
local macro_rules | `(tactic| walk_at "gn") => `(tactic| simp only [gName, List.set_cons_zero, List.set_cons_succ])

local macro_rules | `(tactic| walk_at "rd") => `(tactic| simp (config := { failIfUnchanged := false, maxSteps := 10000000 }) only [L2.start, cxOf_K, nox_K, List.map_cons, List.map_nil, List.length_cons, List.length_nil, List.cons_append, List.nil_append, List.replicate_succ, List.replicate_zero, Nat.zero_add, Nat.reduceAdd, Nat.reduceSub, Nat.sub_self, tSeq, tIfS, tTest, tOp, tC, tVar, rI0, rI, rU, tUn, tRet, tRetN, tDrop, tNext, tBreak, tCont, tAsg, gName, gNil, gCons, tCons, tNil, tCB, tCall, tTry, tTryAs, tRaise, sFld, tFld, tMake, tMeth, Ends.gone, caught_K, tB, tAnd, tOr, tNot, tAndV, tOrV, tNotV, tIf, tChain, tNoPart, tPart, tSl, tNever, tAug, rIxL, rIxT, rSlL, tLst, tTup, gTup, tRev, tLZ, tConT, tDict0, tDNewT, tDGet, sDPut, rNotInD, rInD, tEither, tSlStep, rBits, rFind, rIn, tBM, tBM0, rAppend, rReverse, rEq, rNe, scal_ii, scal_ss, rCat, rSetL, gSub, ipI, capSt, List.getD_cons_zero, List.getD_cons_succ, decide_true, not_true_eq_false, not_false_eq_true,
  exists_eq_left', exists_eq_left, exists_eq', exists_eq, exists_and_left, and_assoc, Option.some.injEq, V.int.injEq, V.bl.injEq, V.ref.injEq, V.str.injEq, List.getElem?_cons_zero, List.getElem?_cons_succ, List.set_cons_zero, List.set_cons_succ, List.cons.injEq, and_true, true_and, List.append_nil, decide_eq_true_eq, Bool.not_eq_true', decide_eq_false_iff_not, Bool.not_not, Bool.not_true, Bool.not_false, Bool.true_eq_false, Bool.false_eq_true, if_true, if_false, ite_true, ite_false])

structure Top (K : PySem.W.Frag) (mg : Str → Option Value)  (c_deed_judge P_deed_judge : Addr) (c_law_thing P_law_thing : Addr) (c_law_still P_law_still : Addr) : Prop where
  f_law_whole : ∀ P w base, (Gx.mk P w K mg base).Raw "_law_whole" "_law_whole" s_law_whole ["_law_found"]
  f_law_cell_at : ∀ P w base, (Gx.mk P w K mg base).Raw "_law_cell_at" "_law_cell_at" s_law_cell_at ["_law_script", "_law_k"]
  f_is_whole_number : ∀ P w base, (Gx.mk P w K mg base).Raw "is_whole_number" "is_whole_number" s_is_whole_number ["thing"]
  f_is_truth : ∀ P w base, (Gx.mk P w K mg base).Raw "is_truth" "is_truth" s_is_truth ["thing"]
  f_is_text : ∀ P w base, (Gx.mk P w K mg base).Raw "is_text" "is_text" s_is_text ["thing"]
  f_is_list : ∀ P w base, (Gx.mk P w K mg base).Raw "is_list" "is_list" s_is_list ["thing"]
  f_same_each : ∀ P w base, (Gx.mk P w K mg base).Raw "same_each" "same_each" s_same_each ["one", "other"]
  f_same : ∀ P w base, (Gx.mk P w K mg base).Raw "same" "same" s_same ["one", "other"]
  f_copied : ∀ P w base, (Gx.mk P w K mg base).Raw "copied" "copied" s_copied ["thing"]
  f_law_lists : ∀ P w base, (Gx.mk P w K mg base).Raw "_law_lists" "_law_lists" s_law_lists ["_law_value"]
  f_law_copy : ∀ P w base, (Gx.mk P w K mg base).Raw "_law_copy" "_law_copy" s_law_copy ["_law_value"]
  f_law_mark : ∀ P w base, (Gx.mk P w K mg base).Raw "_law_mark" "_law_mark" s_law_mark ["_law_deed_here"]
  f_apart : ∀ P w base, (Gx.mk P w K mg base).Raw "apart" "apart" s_apart ["begin", "done", "model_begin", "model_done", "deeds"]
  f_law_further : ∀ P w base, (Gx.mk P w K mg base).Raw "_law_further" "_law_further" s_law_further ["_law_cell", "_law_many", "_law_most"]
  f_law_deed : ∀ P w base, (Gx.mk P w K mg base).Raw "_law_deed" "_law_deed" s_law_deed ["_law_cell"]
  f_law_thing : ∀ P w base, (Gx.mk P w K mg base).RawT "_law_thing" "_law_thing" s_law_thing ["_law_bad"] c_law_thing
  f_law_still : ∀ P w base, (Gx.mk P w K mg base).RawT "_law_still" "_law_still" s_law_still [] c_law_still
  f_deed_judge : ∀ P w base, (Gx.mk P w K mg base).RawT "deed_judge" "deed_judge" s_deed_judge ["begin", "done", "model_begin", "model_done"] c_deed_judge
  b_bool : mg "bool" = none
  b_dict : mg "dict" = none
  b_enumerate : mg "enumerate" = none
  b_int : mg "int" = none
  b_isinstance : mg "isinstance" = none
  b_len : mg "len" = none
  b_list : mg "list" = none
  b_range : mg "range" = none
  b_str : mg "str" = none
  b_sum : mg "sum" = none
  b_tuple : mg "tuple" = none
  b_zip : mg "zip" = none
theorem law_body {K : PySem.W.Frag} {mg : Str → Option Value}  {c_deed_judge P_deed_judge : Addr} {c_law_thing P_law_thing : Addr} {c_law_still P_law_still : Addr}  (t : Top K mg  c_deed_judge P_deed_judge c_law_thing P_law_thing c_law_still P_law_still) (P : Program) (w : World) (base : Heap) (hB : Bm mg base) (hC_deed_judge : PySem.W.CodeHd base c_deed_judge P_deed_judge) (hC_law_thing : PySem.W.CodeHd base c_law_thing P_law_thing) (hC_law_still : PySem.W.CodeHd base c_law_still P_law_still) (hnd : ([P_deed_judge, P_law_thing, P_law_still] : List Addr).Nodup) :
    Body (Gx.mk P w K mg base) 16 ["_law_script", "_law_bad", "_law_at", "_law_more", "_law_deeds", "_law_kept", "_law_places", "_law_one", "_law_other", "_law_still_here", "_law_found", "_law_judge", "_law_beside", "_law_some", "_law_told", "_law_due"] "law" s_law (spTrueT K [("deed_judge", c_deed_judge, P_deed_judge), ("_law_thing", c_law_thing, P_law_thing), ("_law_still", c_law_still, P_law_still)]) := by
  have G_law_whole := ok_law_whole (g := Gx.mk P w K mg base) (c_deed_judge := c_deed_judge) (P_deed_judge := P_deed_judge) (c_law_thing := c_law_thing) (P_law_thing := P_law_thing) (c_law_still := c_law_still) (P_law_still := P_law_still) (t.f_law_whole P w base) t.b_bool t.b_int t.b_isinstance
  have G_law_cell_at := ok_law_cell_at (g := Gx.mk P w K mg base) (c_deed_judge := c_deed_judge) (P_deed_judge := P_deed_judge) (c_law_thing := c_law_thing) (P_law_thing := P_law_thing) (c_law_still := c_law_still) (P_law_still := P_law_still) (t.f_law_cell_at P w base) t.b_len
  have G_is_whole_number := ok_is_whole_number (g := Gx.mk P w K mg base) (c_deed_judge := c_deed_judge) (P_deed_judge := P_deed_judge) (c_law_thing := c_law_thing) (P_law_thing := P_law_thing) (c_law_still := c_law_still) (P_law_still := P_law_still) (t.f_is_whole_number P w base) t.b_bool t.b_int t.b_isinstance
  have G_is_truth := ok_is_truth (g := Gx.mk P w K mg base) (c_deed_judge := c_deed_judge) (P_deed_judge := P_deed_judge) (c_law_thing := c_law_thing) (P_law_thing := P_law_thing) (c_law_still := c_law_still) (P_law_still := P_law_still) (t.f_is_truth P w base) t.b_bool t.b_isinstance
  have G_is_text := ok_is_text (g := Gx.mk P w K mg base) (c_deed_judge := c_deed_judge) (P_deed_judge := P_deed_judge) (c_law_thing := c_law_thing) (P_law_thing := P_law_thing) (c_law_still := c_law_still) (P_law_still := P_law_still) (t.f_is_text P w base) t.b_isinstance t.b_str
  have G_is_list := ok_is_list (g := Gx.mk P w K mg base) (c_deed_judge := c_deed_judge) (P_deed_judge := P_deed_judge) (c_law_thing := c_law_thing) (P_law_thing := P_law_thing) (c_law_still := c_law_still) (P_law_still := P_law_still) (t.f_is_list P w base) t.b_isinstance t.b_list
  have G_same_each_1 := ok_same_each (g := Gx.mk P w K mg base) (m := 0) (k := 1) (c_deed_judge := c_deed_judge) (P_deed_judge := P_deed_judge) (c_law_thing := c_law_thing) (P_law_thing := P_law_thing) (c_law_still := c_law_still) (P_law_still := P_law_still) (t.f_same_each P w base) ((t.f_same P w base).none (fun _ _ _ _ h => no_same h)) t.b_len t.b_zip
  have G_same_1 := ok_same (g := Gx.mk P w K mg base) (m := 0) (k := 1) (c_deed_judge := c_deed_judge) (P_deed_judge := P_deed_judge) (c_law_thing := c_law_thing) (P_law_thing := P_law_thing) (c_law_still := c_law_still) (P_law_still := P_law_still) (t.f_same P w base) (G_is_whole_number.mono (by decide)) ((t.f_same_each P w base).none (fun _ _ _ _ h => no_same_each h)) (G_is_truth.mono (by decide)) (G_is_text.mono (by decide)) (G_is_list.mono (by decide)) t.b_isinstance t.b_tuple
  have G_same_each_2 := ok_same_each (g := Gx.mk P w K mg base) (m := 1) (k := 2) (c_deed_judge := c_deed_judge) (P_deed_judge := P_deed_judge) (c_law_thing := c_law_thing) (P_law_thing := P_law_thing) (c_law_still := c_law_still) (P_law_still := P_law_still) (t.f_same_each P w base) (G_same_1.mono (by decide)) t.b_len t.b_zip
  have G_same_2 := ok_same (g := Gx.mk P w K mg base) (m := 1) (k := 2) (c_deed_judge := c_deed_judge) (P_deed_judge := P_deed_judge) (c_law_thing := c_law_thing) (P_law_thing := P_law_thing) (c_law_still := c_law_still) (P_law_still := P_law_still) (t.f_same P w base) (G_is_whole_number.mono (by decide)) (G_same_each_1.mono (by decide)) (G_is_truth.mono (by decide)) (G_is_text.mono (by decide)) (G_is_list.mono (by decide)) t.b_isinstance t.b_tuple
  have G_same_each_3 := ok_same_each (g := Gx.mk P w K mg base) (m := 2) (k := 3) (c_deed_judge := c_deed_judge) (P_deed_judge := P_deed_judge) (c_law_thing := c_law_thing) (P_law_thing := P_law_thing) (c_law_still := c_law_still) (P_law_still := P_law_still) (t.f_same_each P w base) (G_same_2.mono (by decide)) t.b_len t.b_zip
  have G_same_3 := ok_same (g := Gx.mk P w K mg base) (m := 2) (k := 3) (c_deed_judge := c_deed_judge) (P_deed_judge := P_deed_judge) (c_law_thing := c_law_thing) (P_law_thing := P_law_thing) (c_law_still := c_law_still) (P_law_still := P_law_still) (t.f_same P w base) (G_is_whole_number.mono (by decide)) (G_same_each_2.mono (by decide)) (G_is_truth.mono (by decide)) (G_is_text.mono (by decide)) (G_is_list.mono (by decide)) t.b_isinstance t.b_tuple
  have G_same_each_4 := ok_same_each (g := Gx.mk P w K mg base) (m := 3) (k := 4) (c_deed_judge := c_deed_judge) (P_deed_judge := P_deed_judge) (c_law_thing := c_law_thing) (P_law_thing := P_law_thing) (c_law_still := c_law_still) (P_law_still := P_law_still) (t.f_same_each P w base) (G_same_3.mono (by decide)) t.b_len t.b_zip
  have G_same_4 := ok_same (g := Gx.mk P w K mg base) (m := 3) (k := 4) (c_deed_judge := c_deed_judge) (P_deed_judge := P_deed_judge) (c_law_thing := c_law_thing) (P_law_thing := P_law_thing) (c_law_still := c_law_still) (P_law_still := P_law_still) (t.f_same P w base) (G_is_whole_number.mono (by decide)) (G_same_each_3.mono (by decide)) (G_is_truth.mono (by decide)) (G_is_text.mono (by decide)) (G_is_list.mono (by decide)) t.b_isinstance t.b_tuple
  have G_same_each := ok_same_each (g := Gx.mk P w K mg base) (m := 4) (k := 5) (c_deed_judge := c_deed_judge) (P_deed_judge := P_deed_judge) (c_law_thing := c_law_thing) (P_law_thing := P_law_thing) (c_law_still := c_law_still) (P_law_still := P_law_still) (t.f_same_each P w base) (G_same_4.mono (by decide)) t.b_len t.b_zip
  have G_same := ok_same (g := Gx.mk P w K mg base) (m := 4) (k := 5) (c_deed_judge := c_deed_judge) (P_deed_judge := P_deed_judge) (c_law_thing := c_law_thing) (P_law_thing := P_law_thing) (c_law_still := c_law_still) (P_law_still := P_law_still) (t.f_same P w base) (G_is_whole_number.mono (by decide)) (G_same_each_4.mono (by decide)) (G_is_truth.mono (by decide)) (G_is_text.mono (by decide)) (G_is_list.mono (by decide)) t.b_isinstance t.b_tuple
  have G_copied_1 := ok_copied (g := Gx.mk P w K mg base) (m := 0) (k := 0) (c_deed_judge := c_deed_judge) (P_deed_judge := P_deed_judge) (c_law_thing := c_law_thing) (P_law_thing := P_law_thing) (c_law_still := c_law_still) (P_law_still := P_law_still) (t.f_copied P w base) ((t.f_copied P w base).none (fun _ _ _ _ h => no_copied h)) t.b_dict t.b_isinstance t.b_list t.b_tuple
  have G_copied_2 := ok_copied (g := Gx.mk P w K mg base) (m := 1) (k := 1) (c_deed_judge := c_deed_judge) (P_deed_judge := P_deed_judge) (c_law_thing := c_law_thing) (P_law_thing := P_law_thing) (c_law_still := c_law_still) (P_law_still := P_law_still) (t.f_copied P w base) (G_copied_1.mono (by decide)) t.b_dict t.b_isinstance t.b_list t.b_tuple
  have G_copied_3 := ok_copied (g := Gx.mk P w K mg base) (m := 2) (k := 2) (c_deed_judge := c_deed_judge) (P_deed_judge := P_deed_judge) (c_law_thing := c_law_thing) (P_law_thing := P_law_thing) (c_law_still := c_law_still) (P_law_still := P_law_still) (t.f_copied P w base) (G_copied_2.mono (by decide)) t.b_dict t.b_isinstance t.b_list t.b_tuple
  have G_copied_4 := ok_copied (g := Gx.mk P w K mg base) (m := 3) (k := 3) (c_deed_judge := c_deed_judge) (P_deed_judge := P_deed_judge) (c_law_thing := c_law_thing) (P_law_thing := P_law_thing) (c_law_still := c_law_still) (P_law_still := P_law_still) (t.f_copied P w base) (G_copied_3.mono (by decide)) t.b_dict t.b_isinstance t.b_list t.b_tuple
  have G_copied := ok_copied (g := Gx.mk P w K mg base) (m := 4) (k := 4) (c_deed_judge := c_deed_judge) (P_deed_judge := P_deed_judge) (c_law_thing := c_law_thing) (P_law_thing := P_law_thing) (c_law_still := c_law_still) (P_law_still := P_law_still) (t.f_copied P w base) (G_copied_4.mono (by decide)) t.b_dict t.b_isinstance t.b_list t.b_tuple
  have G_law_lists_1 := ok_law_lists (g := Gx.mk P w K mg base) (m := 0) (k := 0) (c_deed_judge := c_deed_judge) (P_deed_judge := P_deed_judge) (c_law_thing := c_law_thing) (P_law_thing := P_law_thing) (c_law_still := c_law_still) (P_law_still := P_law_still) (t.f_law_lists P w base) ((t.f_law_lists P w base).none (fun _ _ _ _ h => no_law_lists h)) t.b_isinstance t.b_list t.b_tuple
  have G_law_lists_2 := ok_law_lists (g := Gx.mk P w K mg base) (m := 1) (k := 1) (c_deed_judge := c_deed_judge) (P_deed_judge := P_deed_judge) (c_law_thing := c_law_thing) (P_law_thing := P_law_thing) (c_law_still := c_law_still) (P_law_still := P_law_still) (t.f_law_lists P w base) (G_law_lists_1.mono (by decide)) t.b_isinstance t.b_list t.b_tuple
  have G_law_lists_3 := ok_law_lists (g := Gx.mk P w K mg base) (m := 2) (k := 2) (c_deed_judge := c_deed_judge) (P_deed_judge := P_deed_judge) (c_law_thing := c_law_thing) (P_law_thing := P_law_thing) (c_law_still := c_law_still) (P_law_still := P_law_still) (t.f_law_lists P w base) (G_law_lists_2.mono (by decide)) t.b_isinstance t.b_list t.b_tuple
  have G_law_lists_4 := ok_law_lists (g := Gx.mk P w K mg base) (m := 3) (k := 3) (c_deed_judge := c_deed_judge) (P_deed_judge := P_deed_judge) (c_law_thing := c_law_thing) (P_law_thing := P_law_thing) (c_law_still := c_law_still) (P_law_still := P_law_still) (t.f_law_lists P w base) (G_law_lists_3.mono (by decide)) t.b_isinstance t.b_list t.b_tuple
  have G_law_lists := ok_law_lists (g := Gx.mk P w K mg base) (m := 4) (k := 4) (c_deed_judge := c_deed_judge) (P_deed_judge := P_deed_judge) (c_law_thing := c_law_thing) (P_law_thing := P_law_thing) (c_law_still := c_law_still) (P_law_still := P_law_still) (t.f_law_lists P w base) (G_law_lists_4.mono (by decide)) t.b_isinstance t.b_list t.b_tuple
  have G_law_copy_1 := ok_law_copy (g := Gx.mk P w K mg base) (m := 0) (k := 0) (c_deed_judge := c_deed_judge) (P_deed_judge := P_deed_judge) (c_law_thing := c_law_thing) (P_law_thing := P_law_thing) (c_law_still := c_law_still) (P_law_still := P_law_still) (t.f_law_copy P w base) ((t.f_law_copy P w base).none (fun _ _ _ _ h => no_copied h)) t.b_isinstance t.b_list t.b_tuple
  have G_law_copy_2 := ok_law_copy (g := Gx.mk P w K mg base) (m := 1) (k := 1) (c_deed_judge := c_deed_judge) (P_deed_judge := P_deed_judge) (c_law_thing := c_law_thing) (P_law_thing := P_law_thing) (c_law_still := c_law_still) (P_law_still := P_law_still) (t.f_law_copy P w base) (G_law_copy_1.mono (by decide)) t.b_isinstance t.b_list t.b_tuple
  have G_law_copy_3 := ok_law_copy (g := Gx.mk P w K mg base) (m := 2) (k := 2) (c_deed_judge := c_deed_judge) (P_deed_judge := P_deed_judge) (c_law_thing := c_law_thing) (P_law_thing := P_law_thing) (c_law_still := c_law_still) (P_law_still := P_law_still) (t.f_law_copy P w base) (G_law_copy_2.mono (by decide)) t.b_isinstance t.b_list t.b_tuple
  have G_law_copy_4 := ok_law_copy (g := Gx.mk P w K mg base) (m := 3) (k := 3) (c_deed_judge := c_deed_judge) (P_deed_judge := P_deed_judge) (c_law_thing := c_law_thing) (P_law_thing := P_law_thing) (c_law_still := c_law_still) (P_law_still := P_law_still) (t.f_law_copy P w base) (G_law_copy_3.mono (by decide)) t.b_isinstance t.b_list t.b_tuple
  have G_law_copy := ok_law_copy (g := Gx.mk P w K mg base) (m := 4) (k := 4) (c_deed_judge := c_deed_judge) (P_deed_judge := P_deed_judge) (c_law_thing := c_law_thing) (P_law_thing := P_law_thing) (c_law_still := c_law_still) (P_law_still := P_law_still) (t.f_law_copy P w base) (G_law_copy_4.mono (by decide)) t.b_isinstance t.b_list t.b_tuple
  have G_law_mark := ok_law_mark (g := Gx.mk P w K mg base) (c_deed_judge := c_deed_judge) (P_deed_judge := P_deed_judge) (c_law_thing := c_law_thing) (P_law_thing := P_law_thing) (c_law_still := c_law_still) (P_law_still := P_law_still) (t.f_law_mark P w base) t.b_isinstance t.b_list
  have G_apart := ok_apart (g := Gx.mk P w K mg base) (k := 8) (c_deed_judge := c_deed_judge) (P_deed_judge := P_deed_judge) (c_law_thing := c_law_thing) (P_law_thing := P_law_thing) (c_law_still := c_law_still) (P_law_still := P_law_still) (t.f_apart P w base) (G_copied.mono (by decide)) (G_same.mono (by decide)) (by decide) t.b_enumerate
  have G_law_further := ok_law_further (g := Gx.mk P w K mg base) (c_deed_judge := c_deed_judge) (P_deed_judge := P_deed_judge) (c_law_thing := c_law_thing) (P_law_thing := P_law_thing) (c_law_still := c_law_still) (P_law_still := P_law_still) (t.f_law_further P w base) t.b_range
  have G_law_deed := ok_law_deed (g := Gx.mk P w K mg base) (c_deed_judge := c_deed_judge) (P_deed_judge := P_deed_judge) (c_law_thing := c_law_thing) (P_law_thing := P_law_thing) (c_law_still := c_law_still) (P_law_still := P_law_still) (t.f_law_deed P w base) 
  have G_law_thing := ok_law_thing (g := Gx.mk P w K mg base) (k := 5) (c_deed_judge := c_deed_judge) (P_deed_judge := P_deed_judge) (c_law_thing := c_law_thing) (P_law_thing := P_law_thing) (c_law_still := c_law_still) (P_law_still := P_law_still) (t.f_law_thing P w base) hB hC_law_thing (G_law_lists.mono (by decide)) (G_law_mark.mono (by decide)) t.b_int t.b_len t.b_sum
  have G_law_still := ok_law_still (g := Gx.mk P w K mg base) (c_deed_judge := c_deed_judge) (P_deed_judge := P_deed_judge) (c_law_thing := c_law_thing) (P_law_thing := P_law_thing) (c_law_still := c_law_still) (P_law_still := P_law_still) (t.f_law_still P w base) hB hC_law_still
  have G_deed_judge := ok_deed_judge (g := Gx.mk P w K mg base) (k := 9) (c_deed_judge := c_deed_judge) (P_deed_judge := P_deed_judge) (c_law_thing := c_law_thing) (P_law_thing := P_law_thing) (c_law_still := c_law_still) (P_law_still := P_law_still) (t.f_deed_judge P w base) hB hC_deed_judge (G_apart.mono (by decide))
  exact body_law (g := Gx.mk P w K mg base) (k := 16) (c_deed_judge := c_deed_judge) (P_deed_judge := P_deed_judge) (c_law_thing := c_law_thing) (P_law_thing := P_law_thing) (c_law_still := c_law_still) (P_law_still := P_law_still) (G_apart.mono (by decide)) (G_deed_judge.mono (by decide)) (G_law_cell_at.mono (by decide)) (G_law_further.mono (by decide)) (G_law_whole.mono (by decide)) (G_law_copy.mono (by decide)) (G_law_deed.mono (by decide)) (G_law_mark.mono (by decide)) (G_law_thing.mono (by decide)) (G_law_still.mono (by decide)) (by decide) t.b_bool t.b_isinstance t.b_len t.b_range hnd
end KW
def PySem.W.Fast.tw9734142327357498730 : Nat := 0
def PySem.W.Fast.tw4708980188143945748 : Nat := 0
def PySem.W.Fast.tw1121053043513739980 : Nat := 0
def PySem.W.Fast.tw8561134204915785225 : Nat := 0
def PySem.W.Fast.tw7963974457255152725 : Nat := 0
def PySem.W.Fast.tw12540850793857626626 : Nat := 0
def PySem.W.Fast.tw11867872736584330499 : Nat := 0
def PySem.W.Fast.tw13010797224580588062 : Nat := 0
def PySem.W.Fast.tw14897188487287757977 : Nat := 0
def PySem.W.Fast.tw3367538199746350683 : Nat := 0
open PySem PySem.W PyProof.Rows
set_option maxRecDepth 100000 in
set_option maxHeartbeats 0 in
theorem PySem.Challenge.cw_countgen_k81_deeds_of_their_own_holds : PySem.Challenge.rw_countgen_k81_deeds_of_their_own.Holds := by
  w_on; o_law; k_head; (case hw => w_witness2)
  k_fill
  refine' L2.walk_gxT (l := PySem.Challenge.rw_countgen_k81_deeds_of_their_own) (tabs := [("deed_judge", 74, 70), ("_law_thing", 133, 129), ("_law_still", 140, 136)]) 16 "_law_script" KW.s_law ["_law_script", "_law_bad", "_law_at", "_law_more", "_law_deeds", "_law_kept", "_law_places", "_law_one", "_law_other", "_law_still_here", "_law_found", "_law_judge", "_law_beside", "_law_some", "_law_told", "_law_due"] rfl rfl ⟨rfl, by decide, by decide⟩ KW.sc_law (fun w h Y => by first | exact PySem.W.kIn_of Y | exact PySem.W.km_in_of Y) ?tR ?tT ?tN ?F
  case tR => intro p hp; simp only [List.mem_cons, List.not_mem_nil, or_false] at hp; rcases hp with rfl | rfl | rfl <;> exact ⟨_, rfl⟩
  case tT => intro w p hp; simp only [List.mem_cons, List.not_mem_nil, or_false] at hp; rcases hp with rfl | rfl | rfl <;> kernel_rfl
  case tN => intro w p hp; simp only [List.mem_cons, List.not_mem_nil, or_false] at hp; rcases hp with rfl | rfl | rfl <;> kernel_rfl
  case F =>
    intro w mg h KX G
    refine' ⟨L2.lawRaw_mk KX G ?a ?l ?c ?k (fun _ _ _ _ _ _ _ _ => .of_eq rfl), fun base hB hC => KW.law_body ⟨?f_law_whole, ?f_law_cell_at, ?f_is_whole_number, ?f_is_truth, ?f_is_text, ?f_is_list, ?f_same_each, ?f_same, ?f_copied, ?f_law_lists, ?f_law_copy, ?f_law_mark, ?f_apart, ?f_law_further, ?f_law_deed, ?f_law_thing, ?f_law_still, ?f_deed_judge, ?b_bool, ?b_dict, ?b_enumerate, ?b_int, ?b_isinstance, ?b_len, ?b_list, ?b_range, ?b_str, ?b_sum, ?b_tuple, ?b_zip⟩ _ w base hB (hC _ (.head _)) (hC _ (.tail _ (.head _))) (hC _ (.tail _ (.tail _ (.head _)))) (by decide)⟩
    (case a => k_is)
    (case l => k_is)
    (case c => k_is)
    (case k => k_is)
    case f_law_whole =>
      refine' L2.raw_mk KX G ["_law_found"] ?a ?l ?c ?k (fun _ _ _ _ _ _ us hl => match us, hl with | [_], _ => rfl)
      (case a => k_is)
      (case l => k_is)
      (case c => k_is)
      (case k => k_is)
    case f_law_cell_at =>
      refine' L2.raw_mk KX G ["_law_script", "_law_k"] ?a ?l ?c ?k (fun _ _ _ _ _ _ us hl => match us, hl with | [_, _], _ => rfl)
      (case a => k_is)
      (case l => k_is)
      (case c => k_is)
      (case k => k_is)
    case f_is_whole_number =>
      refine' L2.raw_mk KX G ["thing"] ?a ?l ?c ?k (fun _ _ _ _ _ _ us hl => match us, hl with | [_], _ => rfl)
      (case a => k_is)
      (case l => k_is)
      (case c => k_is)
      (case k => k_is)
    case f_is_truth =>
      refine' L2.raw_mk KX G ["thing"] ?a ?l ?c ?k (fun _ _ _ _ _ _ us hl => match us, hl with | [_], _ => rfl)
      (case a => k_is)
      (case l => k_is)
      (case c => k_is)
      (case k => k_is)
    case f_is_text =>
      refine' L2.raw_mk KX G ["thing"] ?a ?l ?c ?k (fun _ _ _ _ _ _ us hl => match us, hl with | [_], _ => rfl)
      (case a => k_is)
      (case l => k_is)
      (case c => k_is)
      (case k => k_is)
    case f_is_list =>
      refine' L2.raw_mk KX G ["thing"] ?a ?l ?c ?k (fun _ _ _ _ _ _ us hl => match us, hl with | [_], _ => rfl)
      (case a => k_is)
      (case l => k_is)
      (case c => k_is)
      (case k => k_is)
    case f_same_each =>
      refine' L2.raw_mk KX G ["one", "other"] ?a ?l ?c ?k (fun _ _ _ _ _ _ us hl => match us, hl with | [_, _], _ => rfl)
      (case a => k_is)
      (case l => k_is)
      (case c => k_is)
      (case k => k_is)
    case f_same =>
      refine' L2.raw_mk KX G ["one", "other"] ?a ?l ?c ?k (fun _ _ _ _ _ _ us hl => match us, hl with | [_, _], _ => rfl)
      (case a => k_is)
      (case l => k_is)
      (case c => k_is)
      (case k => k_is)
    case f_copied =>
      refine' L2.raw_mk KX G ["thing"] ?a ?l ?c ?k (fun _ _ _ _ _ _ us hl => match us, hl with | [_], _ => rfl)
      (case a => k_is)
      (case l => k_is)
      (case c => k_is)
      (case k => k_is)
    case f_law_lists =>
      refine' L2.raw_mk KX G ["_law_value"] ?a ?l ?c ?k (fun _ _ _ _ _ _ us hl => match us, hl with | [_], _ => rfl)
      (case a => k_is)
      (case l => k_is)
      (case c => k_is)
      (case k => k_is)
    case f_law_copy =>
      refine' L2.raw_mk KX G ["_law_value"] ?a ?l ?c ?k (fun _ _ _ _ _ _ us hl => match us, hl with | [_], _ => rfl)
      (case a => k_is)
      (case l => k_is)
      (case c => k_is)
      (case k => k_is)
    case f_law_mark =>
      refine' L2.raw_mk KX G ["_law_deed_here"] ?a ?l ?c ?k (fun _ _ _ _ _ _ us hl => match us, hl with | [_], _ => rfl)
      (case a => k_is)
      (case l => k_is)
      (case c => k_is)
      (case k => k_is)
    case f_apart =>
      refine' L2.raw_mk KX G ["begin", "done", "model_begin", "model_done", "deeds"] ?a ?l ?c ?k (fun _ _ _ _ _ _ us hl => match us, hl with | [_, _, _, _, _], _ => rfl)
      (case a => k_is)
      (case l => k_is)
      (case c => k_is)
      (case k => k_is)
    case f_law_further =>
      refine' L2.raw_mk KX G ["_law_cell", "_law_many", "_law_most"] ?a ?l ?c ?k (fun _ _ _ _ _ _ us hl => match us, hl with | [_, _, _], _ => rfl)
      (case a => k_is)
      (case l => k_is)
      (case c => k_is)
      (case k => k_is)
    case f_law_deed =>
      refine' L2.raw_mk KX G ["_law_cell"] ?a ?l ?c ?k (fun _ _ _ _ _ _ us hl => match us, hl with | [_], _ => rfl)
      (case a => k_is)
      (case l => k_is)
      (case c => k_is)
      (case k => k_is)
    case f_law_thing =>
      refine' L2.rawT_mk KX G ["_law_bad"] ?a ?l ?c ?k ?e (fun _ _ _ _ _ _ us hl => match us, hl with | [_], _ => rfl)
      (case a => k_is)
      (case l => k_is)
      (case c => k_is)
      (case k => k_is)
      (case e => rfl)
    case f_law_still =>
      refine' L2.rawT_mk KX G [] ?a ?l ?c ?k ?e (fun _ _ _ _ _ _ us hl => match us, hl with | [], _ => rfl)
      (case a => k_is)
      (case l => k_is)
      (case c => k_is)
      (case k => k_is)
      (case e => rfl)
    case f_deed_judge =>
      refine' L2.rawT_mk KX G ["begin", "done", "model_begin", "model_done"] ?a ?l ?c ?k ?e (fun _ _ _ _ _ _ us hl => match us, hl with | [_, _, _, _], _ => rfl)
      (case a => k_is)
      (case l => k_is)
      (case c => k_is)
      (case k => k_is)
      (case e => rfl)
    case b_bool =>
      refine' PySem.W.mg_none_of KX G ?a
      (case a => k_is)
    case b_dict =>
      refine' PySem.W.mg_none_of KX G ?a
      (case a => k_is)
    case b_enumerate =>
      refine' PySem.W.mg_none_of KX G ?a
      (case a => k_is)
    case b_int =>
      refine' PySem.W.mg_none_of KX G ?a
      (case a => k_is)
    case b_isinstance =>
      refine' PySem.W.mg_none_of KX G ?a
      (case a => k_is)
    case b_len =>
      refine' PySem.W.mg_none_of KX G ?a
      (case a => k_is)
    case b_list =>
      refine' PySem.W.mg_none_of KX G ?a
      (case a => k_is)
    case b_range =>
      refine' PySem.W.mg_none_of KX G ?a
      (case a => k_is)
    case b_str =>
      refine' PySem.W.mg_none_of KX G ?a
      (case a => k_is)
    case b_sum =>
      refine' PySem.W.mg_none_of KX G ?a
      (case a => k_is)
    case b_tuple =>
      refine' PySem.W.mg_none_of KX G ?a
      (case a => k_is)
    case b_zip =>
      refine' PySem.W.mg_none_of KX G ?a
      (case a => k_is)
