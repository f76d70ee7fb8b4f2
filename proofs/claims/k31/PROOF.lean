import PyProof.Rows.All
import Wide.All
import OpenK.AllK
import Wide.FinOn
import Lean
import PyProof.EqAt
import PyProof.EqKinds
import PyProof.TupleCall
import PyProof.NeData
import KE.KTryMore
import PyProof.ExcBaseAll.ValueError
import PyProof.ExcArgsOwn
import KE.KIntText
import PyProof.Rows.SetFrom
import PyProof.SetRoads
import PyProof.StrWalks
import PyProof.ListStr
import PyProof.Rows.StrSplitCount
import PyProof.MeetsStr
import PyProof.MeetsStr2
import PyProof.StrOps2
import PySem.Challenge.RW_countgen_k31_rows_and_lists_counted
set_option Elab.async false
set_option linter.all false
set_option maxRecDepth 100000
namespace L2
open PySem PySem.Spec PyProof.Rows
abbrev Key := Sum Int Str
def keyIs : Key → Value → Bool
  | .inl k, v => Value.isInt k v
  | .inr x, v => Value.isStrOf x v
def keyH (w : World) : Key → Int
  | .inl k => hashInt k
  | .inr x => hashStr w x
theorem keyIs_shape : ∀ {k : Key} {v : Value}, keyIs k v = true → (∃ i t, k = Sum.inl i ∧ v = Value.int i t) ∨ (∃ x t, k = Sum.inr x ∧ v = Value.str x t)
  | .inl i, v, h => by
    obtain ⟨t, e⟩ := Value.isInt_shape (k := i) (v := v) h
    exact .inl ⟨i, t, rfl, e⟩
  | .inr x, v, h => by
    obtain ⟨t, e⟩ := Value.isStrOf_shape (x := x) (v := v) h
    exact .inr ⟨x, t, rfl, e⟩
theorem keyIs_int (i : Int) (t : Tok) : keyIs (.inl i) (.int i t) = true := by simp [keyIs, Value.isInt]
theorem keyIs_str (x : Str) (t : Tok) : keyIs (.inr x) (.str x t) = true := by simp [keyIs, Value.isStrOf]
theorem key_ll (a b : Int) : decide ((Sum.inl a : Key) = Sum.inl b) = (a == b) := by
  by_cases e : a = b
  · subst e; simp
  · have h : ¬ (Sum.inl a : Key) = Sum.inl b := fun q => e (Sum.inl.inj q)
    rw [decide_eq_false h]
    exact (beq_eq_false_iff_ne.mpr e).symm
theorem key_rr (a b : Str) : decide ((Sum.inr a : Key) = Sum.inr b) = decide (a = b) := by
  by_cases e : a = b
  · subst e; simp
  · have h : ¬ (Sum.inr a : Key) = Sum.inr b := fun q => e (Sum.inr.inj q)
    rw [decide_eq_false h, decide_eq_false e]
theorem key_lr (a : Int) (b : Str) : decide ((Sum.inl a : Key) = Sum.inr b) = false := decide_eq_false (fun q => nomatch q)
theorem key_rl (a : Str) (b : Int) : decide ((Sum.inr a : Key) = Sum.inl b) = false := decide_eq_false (fun q => nomatch q)
def mixKind (prog : Program) (w : World) : PySem.KeyKind prog w Key where
  is := keyIs
  hash := keyH w
  inj := fun v a b ha hb => by
    rcases keyIs_shape ha with ⟨i, t, rfl, rfl⟩ | ⟨x, t, rfl, rfl⟩
    · rcases keyIs_shape hb with ⟨j, u, rfl, e⟩ | ⟨y, u, rfl, e⟩
      · injection e with e1 _; rw [e1]
      · exact nomatch e
    · rcases keyIs_shape hb with ⟨j, u, rfl, e⟩ | ⟨y, u, rfl, e⟩
      · exact nomatch e
      · injection e with e1 _; rw [e1]
  byValue := fun k v h => by
    rcases keyIs_shape h with ⟨i, t, rfl, rfl⟩ | ⟨x, t, rfl, rfl⟩ <;> rfl
  pyHash := fun hv h => by
    rcases keyIs_shape hv with ⟨i, t, rfl, rfl⟩ | ⟨x, t, rfl, rfl⟩
    · exact wpAny_pyHash_int h
    · exact wpAny_pyHash_str h
  eqBool := fun hu hv h => by
    rcases keyIs_shape hu with ⟨i, t, rfl, rfl⟩ | ⟨x, t, rfl, rfl⟩
    · rcases keyIs_shape hv with ⟨j, u, rfl, rfl⟩ | ⟨y, u, rfl, rfl⟩
      · rw [key_ll] at h; exact wpAny_eqBool_int h
      · rw [key_lr] at h; exact SeqAt.EqAt.int_str i t y u _ _ _ _ h
    · rcases keyIs_shape hv with ⟨j, u, rfl, rfl⟩ | ⟨y, u, rfl, rfl⟩
      · rw [key_rl] at h; exact SeqAt.EqAt.str_int x t j u _ _ _ _ h
      · rw [key_rr] at h; exact wpAny_eqBool_str h
  «strs» := fun k x t v h => by
    rcases keyIs_shape h with ⟨i, u, rfl, e⟩ | ⟨y, u, rfl, e⟩
    · exact nomatch e
    · injection e with e1 _
      subst e1
      cases v <;> rfl
theorem mixKind_int (prog : Program) (w : World) (i : Int) (t : Tok) : (mixKind prog w).is (.inl i) (.int i t) = true := keyIs_int i t
theorem mixKind_str (prog : Program) (w : World) (x : Str) (t : Tok) : (mixKind prog w).is (.inr x) (.str x t) = true := keyIs_str x t
end L2
namespace L2
open PySem PySem.Spec PyProof.Rows
inductive V where
  | non | bl (b : Bool) | int (i : Int) | str (x : Str) | byt (b : Array UInt8) | flt (b : UInt64) | ref (a : Addr) | ty (n : String)
  deriving DecidableEq
def RelV : V → Value → Prop
  | .non, u => u = Value.none
  | .bl b, u => u = Value.bool b
  | .int i, u => ∃ t, u = Value.int i t
  | .str x, u => ∃ t, u = Value.str x t
  | .byt b, u => ∃ t, u = Value.bytes b t
  | .flt b, u => ∃ t, u = Value.float b t
  | .ref a, u => u = Value.ref a
  | .ty n, u => u = Value.type n
abbrev Vals : List V → List Value → Prop := Paired RelV
theorem Vals.length {xs : List V} {us : List Value} (r : Vals xs us) : xs.length = us.length := Paired.length r
theorem Vals.get : ∀ {xs : List V} {us : List Value} {i : Nat} {x : V}, Vals xs us → xs[i]? = some x → ∃ u, us[i]? = some u ∧ RelV x u
  | _, _, _, _, .nil, e => by simp at e
  | _, _, 0, _, .cons r _, e => by simp at e; subst e; exact ⟨_, rfl, r⟩
  | _, _, i + 1, x, .cons _ t, e => by
    obtain ⟨u, h1, h2⟩ := Vals.get (i := i) (x := x) t (by simpa using e)
    exact ⟨u, by simpa using h1, h2⟩
theorem Vals.append : ∀ {xs ys : List V} {us ws : List Value}, Vals xs us → Vals ys ws → Vals (xs ++ ys) (us ++ ws)
  | _, _, _, _, .nil, s => s
  | _, _, _, _, .cons r t, s => .cons r (Vals.append t s)
theorem Vals.take : ∀ {xs : List V} {us : List Value} (n : Nat), Vals xs us → Vals (xs.take n) (us.take n)
  | _, _, 0, _ => .nil
  | _, _, _ + 1, .nil => .nil
  | _, _, n + 1, .cons r t => .cons r (Vals.take n t)
theorem Vals.drop : ∀ {xs : List V} {us : List Value} (n : Nat), Vals xs us → Vals (xs.drop n) (us.drop n)
  | _, _, 0, r => r
  | _, _, _ + 1, .nil => .nil
  | _, _, n + 1, .cons _ t => Vals.drop n t
theorem Vals.none_of : ∀ {xs : List V} {us : List Value} {i : Nat}, Vals xs us → xs[i]? = none → us[i]? = none := fun {xs us i} r e => by
  have h1 := r.length
  have h2 : xs.length ≤ i := List.getElem?_eq_none_iff.mp e
  exact List.getElem?_eq_none_iff.mpr (by omega)
def RelO : Option V → Option Value → Prop
  | some v, some u => RelV v u
  | none, none => True
  | _, _ => False
def KV {κ : Type} : List (κ × V) → List (κ × Value) → Prop := Paired fun (p : κ × V) (q : κ × Value) => p.1 = q.1 ∧ RelV p.2 q.2
def kV : Key → V
  | .inl i => .int i
  | .inr x => .str x
inductive HO where
  /-- a list -/
  | lst (xs : List V)
  /-- a tuple (never changes) -/
  | tup (xs : List V)
  /-- a dict whose keys are ints and texts; one whose keys are tuples of ints and texts (the empty one is both) -/
  | dK (kvs : List (Key × V)) | dT (kvs : List (List Key × V))
  /-- a set of ints: its members, its size -/
  | set (S : Int → Bool) (n : Nat)
  /-- an instance of the class at C, its dict at dx, its attributes -/
  | ins (C dx : Addr) (fs : List (Str × V))
  /-- the dict of the instance at x -/
  | own (x : Addr)
  /-- the dict of an exception -/
  | xd (fs : List (Str × V))
  /-- a bound method, f of x -/
  | met (f x : Addr)
  /-- a range object lo, lo + 1, .. below hi -/
  | rng (lo hi : Int)
  /-- a thing that is known to the object (the script; a dict while a loop walks it): read, never written while it is so -/
  | frz (o : Obj) (u : HO)
  /-- a code object's table -/
  | tbl (ps : Array Value)
  /-- any other thing, by what is true of its one object (a def of one's own: SetO a S n := HO.ext fun h => ..) -/
  | ext (φ : Heap → Prop)
abbrev Hp := Addr → Option HO
def upd (H : Hp) (a : Addr) (o : HO) : Hp := fun b => if b = a then some o else H b
theorem upd_same {H : Hp} {a : Addr} {o : HO} : upd H a o a = some o := by unfold upd; rw [if_pos rfl]
theorem upd_ne {H : Hp} {a b : Addr} {o : HO} (h : b ≠ a) : upd H a o b = H b := by unfold upd; rw [if_neg h]
theorem ne_of {H : Hp} {a b : Addr} {o u : HO} (h : H a = some o) (h' : H b = some u) (d : o ≠ u) : a ≠ b := by
  intro e; subst e; rw [h] at h'; exact d (Option.some.inj h')
theorem ne_of_none {H : Hp} {a b : Addr} {o : HO} (h : H a = some o) (h' : H b = none) : a ≠ b := by
  intro e; subst e; rw [h] at h'; cases h'
section
variable (P : Program) (w : World)
def ObjOk (H : Hp) (h : Heap) (a : Addr) : HO → Prop
  | .lst xs => xs.length ≤ sizeLine ∧ ∃ (its : List Value) (n : Nat), Vals xs its ∧ h.get? a = some { cls := .type "list", data := .seq its.toArray n }
  | .tup xs => xs.length ≤ sizeLine ∧ ∃ its : List Value, Vals xs its ∧ IsTup h a its.toArray
  | .dK kvs => kvs.length ≤ sizeLine ∧ (a == sysModules) = false ∧ ∃ vs, KV kvs vs ∧ h.DictOf (mixKind P w) a vs
  | .dT kvs => kvs.length ≤ sizeLine ∧ (a == sysModules) = false ∧ ∃ xs : List (List Key × Addr × Value),
      Paired (fun (p : List Key × V) (q : List Key × Addr × Value) => p.1 = q.1 ∧ H q.2.1 = some (.tup (p.1.map kV)) ∧ RelV p.2 q.2.2) kvs xs ∧
      ∃ o es ep, h.get? a = some o ∧ o.ExactDict ∧ o.data = .dict es ep ∧ es.toList = xs.map (entryOfKey (tupleKind (mixKind P w))) ∧ (xs.map (·.1)).Nodup
  | .set S n => h.SetOf (intKind P w) a S n
  | .ins C dx fs => H dx = some (.own a) ∧ fs.length ≤ 1000 ∧ dx ≠ a ∧ h.get? a = some (PySem.W.instObj C dx) ∧
      ∃ mA, h.Ns1 dx mA ∧ (∀ f, RelO (fs.lookup f) (mA f)) ∧ PySem.Within mA (fs.map (·.1))
  | .own _ => ∃ o, h.get? a = some o
  | .xd fs => ∃ mA, h.Ns1 a mA ∧ ∀ f, RelO (fs.lookup f) (mA f)
  | .rng lo hi => ∃ t u v, h.get? a = some { cls := .type "range", data := .fields #[.int lo t, .int hi u, .int 1 v] }
  | .frz o u => h.get? a = some o ∧ ObjOk H h a u
  | .tbl ps => h.get? a = some { cls := .none, data := .fields ps }
  | .met f x => h.get? a = some (PySem.W.methodObj (.ref f) (.ref x))
  | .ext φ => φ h ∧ (∃ o, h.get? a = some o) ∧ ∀ h1 h2 : Heap, φ h1 → (∀ o, h1.get? a = some o → h2.get? a = some o) → φ h2
def HOk (H : Hp) (h : Heap) : Prop := ∀ a o, H a = some o → ObjOk P w H h a o
end
section
variable {P : Program} {w : World} {H H' : Hp} {h h' : Heap} {a : Addr} {o : HO}
theorem ObjOk.lt (x : ObjOk P w H h a o) : a < h.objs.size := by
  cases o with
  | lst xs => obtain ⟨_, _, _, _, e⟩ := x; exact Heap.lt_size e
  | tup xs => obtain ⟨_, _, _, p⟩ := x; exact p.lt
  | dK kvs => obtain ⟨_, _, _, _, o, _, _, e, _⟩ := x; exact Heap.lt_size e
  | dT kvs => obtain ⟨_, _, _, _, o, _, _, e, _⟩ := x; exact Heap.lt_size e
  | set S n => obtain ⟨o, _, _, _, e, _⟩ := x; exact Heap.lt_size e
  | ins C dx fs => obtain ⟨_, _, _, e, _⟩ := x; exact Heap.lt_size e
  | own y => obtain ⟨_, e⟩ := x; exact Heap.lt_size e
  | xd fs => obtain ⟨_, ⟨_, _, _, e, _⟩, _⟩ := x; exact Heap.lt_size e
  | rng lo hi => obtain ⟨_, _, _, e⟩ := x; exact Heap.lt_size e
  | frz ob u => obtain ⟨e, _⟩ := x; exact Heap.lt_size e
  | tbl ps => exact Heap.lt_size (show h.get? a = some _ from x)
  | met f y => exact Heap.lt_size (show h.get? a = some _ from x)
  | ext φ => obtain ⟨_, ⟨_, e⟩, _⟩ := x; exact Heap.lt_size e
theorem Paired.mapP {α β : Type} {F G : α → β → Prop} : ∀ {l₁ : List α} {l₂ : List β}, Paired F l₁ l₂ → (∀ a b, F a b → G a b) → Paired G l₁ l₂
  | _, _, .nil, _ => .nil
  | _, _, .cons r t, f => .cons (f _ _ r) (Paired.mapP t f)
theorem ObjOk.stay (x : ObjOk P w H h a o) (k : ∀ b u, (b = a ∨ H b = some (.own a)) → h.get? b = some u → h'.get? b = some u)
    (ho : ∀ b, H b = some (.own a) → H' b = some (.own a)) (ht : ∀ b xs, H b = some (.tup xs) → H' b = some (.tup xs)) : ObjOk P w H' h' a o := by
  induction o with
  | lst xs => obtain ⟨z, its, n, r, e⟩ := x; exact ⟨z, its, n, r, k _ _ (.inl rfl) e⟩
  | tup xs => obtain ⟨z, its, r, ob, e, c⟩ := x; exact ⟨z, its, r, ob, k _ _ (.inl rfl) e, c⟩
  | dK kvs => obtain ⟨z, y, vs, r, ob, es, ep, e, c⟩ := x; exact ⟨z, y, vs, r, ob, es, ep, k _ _ (.inl rfl) e, c⟩
  | dT kvs =>
    obtain ⟨z, y, xs, r, ob, es, ep, e, c⟩ := x
    exact ⟨z, y, xs, Paired.mapP r fun p q z => ⟨z.1, ht _ _ z.2.1, z.2.2⟩, ob, es, ep, k _ _ (.inl rfl) e, c⟩
  | set S n => obtain ⟨ob, es, ep, t, e, c⟩ := x; exact ⟨ob, es, ep, t, k _ _ (.inl rfl) e, c⟩
  | ins C dx fs =>
    obtain ⟨d, z, ne, e, mA, ⟨od, es, ep, e2, c⟩, r⟩ := x
    exact ⟨ho _ d, z, ne, k _ _ (.inl rfl) e, mA, ⟨od, es, ep, k _ _ (.inr d) e2, c⟩, r⟩
  | own y => obtain ⟨ob, e⟩ := x; exact ⟨ob, k _ _ (.inl rfl) e⟩
  | xd fs => obtain ⟨mA, ⟨od, es, ep, e, c⟩, r⟩ := x; exact ⟨mA, ⟨od, es, ep, k _ _ (.inl rfl) e, c⟩, r⟩
  | rng lo hi => obtain ⟨t, u, v, e⟩ := x; exact ⟨t, u, v, k _ _ (.inl rfl) e⟩
  | frz ob u ih => obtain ⟨e, q⟩ := x; exact ⟨k _ _ (.inl rfl) e, ih q⟩
  | tbl ps =>
    have e : h.get? a = some { cls := .none, data := .fields ps } := x
    show h'.get? a = some { cls := .none, data := .fields ps }
    exact k a _ (.inl rfl) e
  | met f y =>
    have e : h.get? a = some (PySem.W.methodObj (.ref f) (.ref y)) := x
    show h'.get? a = some (PySem.W.methodObj (.ref f) (.ref y))
    exact k a _ (.inl rfl) e
  | ext φ => obtain ⟨p, ⟨o, e⟩, st⟩ := x; exact ⟨st _ _ p fun o q => k _ _ (.inl rfl) q, ⟨o, k _ _ (.inl rfl) e⟩, st⟩
theorem HOk.lt (x : HOk P w H h) (e : H a = some o) : a < h.objs.size := (x a o e).lt
theorem HOk.fresh (x : HOk P w H h) (e : h.objs.size ≤ a) : H a = none := by
  cases q : H a with
  | none => rfl
  | some u => exact absurd (Nat.lt_of_lt_of_le (x.lt q) e) (Nat.lt_irrefl _)
theorem HOk.kept (x : HOk P w H h) (k : ∀ b u, h.get? b = some u → h'.get? b = some u) : HOk P w H h' := fun a o e =>
  (x a o e).stay (fun b u _ q => k b u q) (fun _ q => q) fun _ _ q => q
theorem HOk.laid (x : HOk P w H h) (k : ∀ b u, h.get? b = some u → h'.get? b = some u) (hp : h.objs.size ≤ a) (new : ObjOk P w (upd H a o) h' a o) : HOk P w (upd H a o) h' := fun b u e => by
  have hn := x.fresh hp
  by_cases hb : b = a
  · subst hb; rw [upd_same] at e; cases e; exact new
  · rw [upd_ne hb] at e
    exact (x b u e).stay (fun c v _ q => k c v q) (fun c q => by rw [upd_ne (ne_of_none q hn)]; exact q) fun c xs q => by rw [upd_ne (ne_of_none q hn)]; exact q
end
def Rd (H : Hp) (a : Addr) (u : HO) : Prop := H a = some u ∨ ∃ o, H a = some (.frz o u)
theorem Rd.ok {P : Program} {w : World} {H : Hp} {h : Heap} {a : Addr} {u : HO} (r : Rd H a u) (x : HOk P w H h) : ObjOk P w H h a u := by
  rcases r with r | ⟨o, r⟩
  · exact x a u r
  · obtain ⟨_, q⟩ := x a _ r
    exact q
def Mut : Option HO → Prop
  | some (.lst _) => True
  | some (.dK _) => True
  | some (.dT _) => True
  | some (.set _ _) => True
  | some (.ins _ _ _) => True
  | some (.ext _) => True
  | _ => False
section
variable {P : Program} {w : World} {H : Hp} {h h' : Heap} {x e : Addr} {o' : HO}
theorem HOk.write (ok : HOk P w H h) (mu : Mut (H x)) (he : e = x ∨ H e = some (.own x)) (k : ∀ b u, b ≠ e → h.get? b = some u → h'.get? b = some u) (heo : ∃ u, h'.get? e = some u)
    (new : ObjOk P w (upd H x o') h' x o') : HOk P w (upd H x o') h' := fun b u q => by
  have nown : ∀ c y, H c = some (.own y) → c ≠ x := fun c y r z => by subst z; rw [r] at mu; exact mu
  have ntup : ∀ c xs, H c = some (.tup xs) → c ≠ x := fun c xs r z => by subst z; rw [r] at mu; exact mu
  by_cases hb : b = x
  · subst hb; rw [upd_same] at q; cases q; exact new
  · rw [upd_ne hb] at q
    by_cases hbe : b = e
    · have q' : H b = some (.own x) := by
        rcases he with z | z
        · exact absurd (hbe.trans z) hb
        · rw [hbe]; exact z
      rw [q] at q'; cases q'
      obtain ⟨v, hv⟩ := heo
      exact ⟨v, by rw [hbe]; exact hv⟩
    · refine (ok b u q).stay (fun c v hc r => k c v ?_ r) (fun c r => by rw [upd_ne (nown c b r)]; exact r) fun c xs r => by rw [upd_ne (ntup c xs r)]; exact r
      rcases hc with rfl | hc
      · exact hbe
      · rintro rfl
        rcases he with z | z
        · exact nown c b hc z
        · rw [hc] at z; cases z; exact hb rfl
end
structure Un (fs ex : List Addr) (H H' : Hp) (h h' : Heap) : Prop where
  keep : ∀ b o, h.get? b = some o → H b = none → b ∉ fs → b ∉ ex → h'.get? b = some o
  slot : ∀ b o, h.get? b = some o → H b = none → b ∈ fs → b ∉ ex → ∃ sl, h'.get? b = some { o with slots := sl }
  free : ∀ b o, h.get? b = some o → H b = none → b ∉ ex → H' b = none
  there : ∀ b o, h.get? b = some o → b ∉ ex → ∃ o', h'.get? b = some o'
  tups : ∀ b xs, H b = some (.tup xs) → H' b = some (.tup xs)
  frzs : ∀ b o u, H b = some (.frz o u) → H' b = some (.frz o u)
  tbls : ∀ b ps, H b = some (.tbl ps) → ∃ more, H' b = some (.tbl (ps ++ more))
section
variable {fs fs' ex ex' : List Addr} {H H1 H2 : Hp} {h h1 h2 h' : Heap} {a x e : Addr} {o : HO}
theorem Un.any (u : Un fs ex H H1 h h1) {b : Addr} {ob : Obj} (q : h.get? b = some ob) (n : H b = none) (hx : b ∉ ex) : ∃ sl, h1.get? b = some { ob with slots := sl } := by
  by_cases hb : b ∈ fs
  · exact u.slot b ob q n hb hx
  · exact ⟨ob.slots, u.keep b ob q n hb hx⟩
theorem Un.kept (k : ∀ b u, h.get? b = some u → h'.get? b = some u) : Un fs ex H H h h' :=
  ⟨fun b ob q _ _ _ => k b ob q, fun b ob q _ _ _ => ⟨ob.slots, k b ob q⟩, fun _ _ _ n _ => n, fun b ob q _ => ⟨ob, k b ob q⟩, fun _ _ q => q, fun _ _ _ q => q, fun _ ps q => ⟨#[], by rw [q]; simp⟩⟩
theorem Un.refl : Un fs ex H H h h := Un.kept fun _ _ q => q
theorem Un.laid (k : ∀ b u, h.get? b = some u → h'.get? b = some u) (hp : h.objs.size ≤ a) (hn : H a = none) : Un fs ex H (upd H a o) h h' where
  keep := fun b u q _ _ _ => k b u q
  slot := fun b u q _ _ _ => ⟨u.slots, k b u q⟩
  free := fun b u q n _ => by rw [upd_ne (Nat.ne_of_lt (Nat.lt_of_lt_of_le (Heap.lt_size q) hp))]; exact n
  there := fun b u q _ => ⟨u, k b u q⟩
  tups := fun b xs q => by rw [upd_ne (ne_of_none q hn)]; exact q
  frzs := fun b u xs q => by rw [upd_ne (ne_of_none q hn)]; exact q
  tbls := fun b ps q => ⟨#[], by rw [upd_ne (ne_of_none q hn), q]; simp⟩
theorem Un.write (mu : Mut (H x)) (he : e = x ∨ H e = some (.own x)) (k : ∀ b u, b ≠ e → h.get? b = some u → h'.get? b = some u) (heo : ∃ u, h'.get? e = some u) : Un fs ex H (upd H x o) h h' := by
  have hx : ∀ b, H b = none → b ≠ x := fun b n z => by subst z; rw [n] at mu; exact mu
  have hb : ∀ b, H b = none → b ≠ e := fun b n z => by
    subst z
    rcases he with r | r
    · exact hx b n r
    · rw [n] at r; cases r
  have hm : ∀ b u, H b = some u → ¬ Mut (some u) → b ≠ x := fun b u q nm z => by subst z; rw [q] at mu; exact nm mu
  refine ⟨fun b u q n _ _ => k b u (hb b n) q, fun b u q n _ _ => ⟨u.slots, k b u (hb b n) q⟩, fun b u q n _ => by rw [upd_ne (hx b n)]; exact n, fun b u q _ => ?_,
    fun b xs q => by rw [upd_ne (hm b _ q fun z => z)]; exact q, fun b u xs q => by rw [upd_ne (hm b _ q fun z => z)]; exact q, fun b ps q => ⟨#[], by rw [upd_ne (hm b _ q fun z => z), q]; simp⟩⟩
  by_cases hbe : b = e
  · subst hbe; exact heo
  · exact ⟨u, k b u hbe q⟩
end
def trk (h : Heap) (H : Hp) : List Addr := (List.range h.objs.size).filter fun a => (H a).isSome
def hidT (h : Heap) (H : Hp) : Heap := PySem.W.hideAll h (trk h H)
theorem hidT_size (h : Heap) (H : Hp) : (hidT h H).objs.size = h.objs.size := PySem.W.hideAll_size _ _
theorem hidT_get {h : Heap} {H : Hp} {b : Addr} {o : Obj} (e : h.get? b = some o) (n : H b = none) : (hidT h H).get? b = some o :=
  PySem.W.hideAll_get _ e fun hm => by
    have q : (H b).isSome = true := (List.mem_filter.mp hm).2
    rw [n] at q; simp at q
theorem of_hidT {h : Heap} {H : Hp} {b : Addr} {o : Obj} (e : (hidT h H).get? b = some o) : h.get? b = some o ∧ H b = none := by
  have e' : h.get? b = some o := PySem.W.of_hideAll (trk h H) e
  refine ⟨e', ?_⟩
  cases q : H b with
  | none => rfl
  | some x =>
    have hm : b ∈ trk h H := List.mem_filter.mpr ⟨List.mem_range.mpr (Heap.lt_size e'), by simp [q]⟩
    have z : (hidT h H).get? b = none := PySem.W.hideAll_none (trk h H) hm
    rw [z] at e; cases e
def allNews (g h : Heap) (L : Addr) : List (Addr × Obj) := (List.range h.objs.size).filterMap fun a => if a = L ∨ (g.get? a).isSome = true then none else (h.get? a).map fun o => (a, o)
def rest (g h : Heap) (L d : Addr) : List (Addr × Obj) := (allNews g h L).filter fun p => decide (p.1 ≠ d)
end L2
namespace L2
open PySem PySem.Spec PyProof.Rows
structure Mod (K : PySem.W.Frag) (mg : Str → Option Value) (base : Heap) : Prop where
  kin : K.In base
  glob : base.Ns mainGlobals mg
  blt : ∃ mb, base.Ns builtinsNs mb ∧ ∀ x : Str, x ≠ "__name__" → mb x = bootBuiltins x
  nolimit : base.NoLimit
structure Cx where
  prog : Program
  w : World
  K : PySem.W.Frag
  mg : Str → Option Value
  base : Heap
  A : Around
  N : List Str
  s₀ : Shared
  H₀ : Hp
  env : Env
  outer : List Env
  stack : List Env
  ex : List Addr
  fn : Str → Bool
  calm : Bool
  pn : List (Addr × Obj)
  xe : Value → Shared → Prop
def frs (l : List Env) : List Addr := l.filterMap (·.frame)
abbrev Cx.fs (X : Cx) : List Addr := frs X.outer
def Vis (sc : Scope) (x : Str) : Prop := sc.names.lookup x = some .local ∨ sc.names.lookup x = some .cell ∨ sc.names.lookup x = some .free
def Loc (sc : Scope) (x : Str) : Prop := sc.names.lookup x = some .local ∨ sc.names.lookup x = some .cell
def Look (env : Env) (h : Heap) (m : Str → Option Value) (x : Str) (u : Value) : Prop :=
  (env.kindOf x = some .local ∧ m x = some u) ∨ ((env.kindOf x = some .cell ∨ env.kindOf x = some .free) ∧ ∃ c, env.cells.lookup x = some c ∧ h.IsCell c (some u))
structure Cx.Ok (X : Cx) : Prop where
  mod : Mod X.K X.mg X.base
  kind : X.env.scope.kind = .function
  glob : X.env.globals = mainGlobals
  blt : X.env.builtins = builtinsNs
  above : X.s₀.heap.objs.size ≤ X.env.locals
  inj : ∀ x y c, X.env.cells.lookup x = some c → X.env.cells.lookup y = some c → x = y
  has : ∀ x, (X.env.kindOf x = some .cell ∨ X.env.kindOf x = some .free) → ∃ c, X.env.cells.lookup x = some c
  cab : ∀ x c, X.fn x = true → X.env.cells.lookup x = some c → X.s₀.heap.objs.size ≤ c
  hd : X.calm = true → X.A.handled = none
  frames : X.A.frames = some X.stack
  stk : X.stack = X.outer ∨ (X.stack = X.env :: X.outer ∧ X.env.frame = some X.env.locals)
  exf : ∀ b ∈ X.ex, b ≠ X.env.locals ∧ ∀ x c, X.env.cells.lookup x = some c → c ≠ b
  bs : ∀ b o, X.base.get? b = some o → X.s₀.heap.get? b = some o ∧ X.H₀ b = none
  bsz : X.base.objs.size ≤ X.s₀.heap.objs.size
  noex : ∀ b o, X.base.get? b = some o → b ∉ X.ex
  exfs : ∀ b ∈ X.ex, b ∉ X.fs
  funs : X.s₀.heap.FunFrames X.base X.outer
  frf : ∀ b ∈ X.fs, X.H₀ b = none
structure Inv (X : Cx) (pins : List (Addr × Obj)) (σ : List (Option V)) (H : Hp) (s : Shared) : Prop where
  ok : X.Ok
  os : s.os = X.s₀.os
  bare : AllBare s.gens
  base : Un X.fs X.ex X.H₀ H X.s₀.heap s.heap
  loc : ∃ m, s.heap.Ns X.env.locals m ∧ ∀ (i : Nat) (x : Str) (v : V), X.N[i]? = some x → σ[i]? = some (some v) → Vis X.env.scope x → ∃ u, RelV v u ∧ Look X.env s.heap m x u
  cell : ∀ x c, X.env.cells.lookup x = some c → ∃ v, s.heap.IsCell c v
  free : H X.env.locals = none
  freeC : ∀ x c, X.env.cells.lookup x = some c → H c = none
  pin : ∀ p ∈ X.pn ++ pins, s.heap.get? p.1 = some p.2 ∧ H p.1 = none ∧ p.1 ≠ X.env.locals ∧ p.1 ∉ X.fs ∧ ∀ v, p.2.data ≠ .cell v
  hok : HOk X.prog X.w H s.heap
  len : σ.length = X.N.length
section
variable {X : Cx} {pins : List (Addr × Obj)} {σ : List (Option V)} {H H' : Hp} {s : Shared} {h' : Heap}
theorem Cx.Ok.nofr (ok : X.Ok) {b : Addr} {o : Obj} (e : X.base.get? b = some o) : b ∉ X.fs := fun hb => by
  have := (ok.funs.mem hb).1
  rw [e] at this; cases this
theorem Inv.bs (I : Inv X pins σ H s) : ∀ b o, X.base.get? b = some o → s.heap.get? b = some o ∧ H b = none := fun b o e =>
  ⟨I.base.keep b o (I.ok.bs b o e).1 (I.ok.bs b o e).2 (I.ok.nofr e) (I.ok.noex b o e), I.base.free b o (I.ok.bs b o e).1 (I.ok.bs b o e).2 (I.ok.noex b o e)⟩
theorem Inv.bk (I : Inv X pins σ H s) : ∀ b o, X.base.get? b = some o → s.heap.get? b = some o := fun b o e => (I.bs b o e).1
theorem Inv.mod (I : Inv X pins σ H s) : Mod X.K X.mg X.base := I.ok.mod
theorem Inv.kIn (I : Inv X pins σ H s) : X.K.In s.heap := I.ok.mod.kin.keeps I.bk
theorem Inv.lt (I : Inv X pins σ H s) : X.env.locals < s.heap.objs.size := let ⟨_, hn, _⟩ := I.loc; hn.lt
theorem Inv.sz (I : Inv X pins σ H s) : X.s₀.heap.objs.size ≤ s.heap.objs.size := Nat.le_trans I.ok.above (Nat.le_of_lt I.lt)
theorem Inv.nofs (I : Inv X pins σ H s) {a : Addr} (h : s.heap.objs.size ≤ a) : a ∉ X.fs := fun hb => by
  obtain ⟨_, o, ho, _⟩ := I.ok.funs.mem hb
  exact absurd (Nat.lt_of_lt_of_le (Heap.lt_size ho) (Nat.le_trans I.sz h)) (Nat.lt_irrefl _)
theorem Inv.cne (I : Inv X pins σ H s) : ∀ x c, X.env.cells.lookup x = some c → c ≠ X.env.locals := fun x c e z => by
  obtain ⟨v, o, ho, hd⟩ := I.cell x c e
  obtain ⟨m, ⟨o', es, ep, ho', hd', _⟩, _⟩ := I.loc
  rw [z, ho'] at ho; cases ho; rw [hd'] at hd; cases hd
theorem Inv.funs (I : Inv X pins σ H s) : s.heap.FunFrames X.base X.outer := by
  have all : ∀ (l : List Env), (∀ b ∈ frs l, b ∈ X.fs) → X.s₀.heap.FunFrames X.base l → s.heap.FunFrames X.base l := by
    intro l
    induction l with
    | nil => intro _ _; trivial
    | cons env r ih =>
      intro hs hl
      obtain ⟨hk, ⟨L, o, hf, hn, ho, hd⟩, hr⟩ := hl
      have hL : L ∈ X.fs := hs L (by unfold frs; rw [List.filterMap_cons, hf]; exact List.mem_cons_self)
      obtain ⟨sl, e⟩ := I.base.slot L o ho (I.ok.frf L hL) hL fun z => I.ok.exfs L z hL
      exact ⟨hk, ⟨L, _, hf, hn, e, hd⟩, ih (fun b hb => hs b (by unfold frs; rw [List.filterMap_cons, hf]; exact List.mem_cons_of_mem _ hb)) hr⟩
  exact all X.outer (fun _ hb => hb) I.ok.funs
theorem Inv.stack (I : Inv X pins σ H s) : s.heap.FunFrames X.base X.stack := by
  rcases I.ok.stk with e | ⟨e, hf⟩
  · rw [e]; exact I.funs
  · rw [e]
    obtain ⟨m, hn, _⟩ := I.loc
    refine .cons (by rw [I.ok.kind]; decide) hf hn ?_ I.funs
    exact Heap.get?_none_of_le (Nat.le_trans I.ok.bsz I.ok.above)
theorem Inv.stkSub (I : Inv X pins σ H s) : ∀ b ∈ frs X.stack, b ∈ X.env.locals :: X.fs := fun b hb => by
  rcases I.ok.stk with e | ⟨e, hf⟩
  · rw [e] at hb; exact List.mem_cons_of_mem _ hb
  · rw [e] at hb
    unfold frs at hb
    rw [List.filterMap_cons, hf] at hb
    exact hb
theorem Inv.stkFree (I : Inv X pins σ H s) : ∀ b ∈ frs X.stack, H b = none := fun b hb => by
  rcases List.mem_cons.mp (I.stkSub b hb) with e | hb
  · rw [e]; exact I.free
  · obtain ⟨_, o, ho, _⟩ := I.ok.funs.mem hb
    exact I.base.free b o ho (I.ok.frf b hb) fun z => I.ok.exfs b z hb
theorem Inv.step {g' : Array GenState} {t' : Nat} {d' : Drawn} {ch : List Addr} (I : Inv X pins σ H s)
    (hch : ∀ b ∈ ch, (b ∈ X.ex ∨ X.s₀.heap.objs.size ≤ b) ∧ b ≠ X.env.locals ∧ (∀ x c, X.env.cells.lookup x = some c → c ≠ b) ∧ ∀ p ∈ X.pn ++ pins, p.1 ≠ b)
    (keep : ∀ b o, b ≠ X.env.locals → b ∉ X.fs → b ∉ ch → s.heap.get? b = some o → H b = none → h'.get? b = some o)
    (slot : ∀ b o, b ≠ X.env.locals → b ∈ X.fs → b ∉ ch → s.heap.get? b = some o → H b = none → ∃ sl, h'.get? b = some { o with slots := sl }) (free : ∀ b o, b ∉ ch → s.heap.get? b = some o → H b = none → H' b = none)
    (there : ∀ b o, b ∉ ch → s.heap.get? b = some o → ∃ o', h'.get? b = some o')
    (tups : ∀ b xs, H b = some (.tup xs) → H' b = some (.tup xs)) (frzs : ∀ b o u, H b = some (.frz o u) → H' b = some (.frz o u)) (tbls : ∀ b ps, H b = some (.tbl ps) → ∃ more, H' b = some (.tbl (ps ++ more)))
    (ns : ∀ m, s.heap.Ns X.env.locals m → h'.Ns X.env.locals m) (hok : HOk X.prog X.w H' h') (hg : AllBare g') :
    Inv X pins σ H' { s with heap := h', gens := g', drawn := d', toks := t' } := by
  have neL : ∀ b o, X.s₀.heap.get? b = some o → b ≠ X.env.locals := fun b o e => Nat.ne_of_lt (Nat.lt_of_lt_of_le (Heap.lt_size e) I.ok.above)
  have neC : ∀ b o, X.s₀.heap.get? b = some o → b ∉ X.ex → b ∉ ch := fun b o e hx hb => by
    rcases (hch b hb).1 with z | z
    · exact hx z
    · exact absurd (Nat.lt_of_lt_of_le (Heap.lt_size e) z) (Nat.lt_irrefl _)
  have cellK : ∀ x c, X.env.cells.lookup x = some c → ∀ v, s.heap.IsCell c v → h'.IsCell c v := fun x c e v ⟨o, ho, hd⟩ => by
    have nch : c ∉ ch := fun z => (hch c z).2.2.1 x c e rfl
    by_cases hc : c ∈ X.fs
    · obtain ⟨sl, q⟩ := slot c o (I.cne x c e) hc nch ho (I.freeC x c e)
      exact ⟨_, q, hd⟩
    · exact ⟨o, keep c o (I.cne x c e) hc nch ho (I.freeC x c e), hd⟩
  refine ⟨I.ok, I.os, hg, ⟨fun b o e n hb hx => ?_, fun b o e n hb hx => ?_, fun b o e n hx => ?_, fun b o e hx => ?_, fun b xs e => tups b xs (I.base.tups b xs e), fun b o xs e => frzs b o xs (I.base.frzs b o xs e), fun b ps e => ?_⟩, ?_, fun x c e => ?_, ?_, fun x c e => ?_, fun p hp => ?_, hok, I.len⟩
  · exact keep b o (neL b o e) hb (neC b o e hx) (I.base.keep b o e n hb hx) (I.base.free b o e n hx)
  · obtain ⟨sl, e1⟩ := I.base.slot b o e n hb hx
    obtain ⟨sl', e2⟩ := slot b _ (neL b o e) hb (neC b o e hx) e1 (I.base.free b o e n hx)
    exact ⟨sl', e2⟩
  · obtain ⟨o', e1⟩ := I.base.there b o e hx
    exact free b o' (neC b o e hx) e1 (I.base.free b o e n hx)
  · obtain ⟨o', e1⟩ := I.base.there b o e hx
    exact there b o' (neC b o e hx) e1
  · obtain ⟨m1, e1⟩ := I.base.tbls b ps e
    obtain ⟨m2, e2⟩ := tbls b _ e1
    exact ⟨m1 ++ m2, by rw [e2, Array.append_assoc]⟩
  · obtain ⟨m, hn, hl⟩ := I.loc
    refine ⟨m, ns m hn, fun i x v e1 e2 e3 => ?_⟩
    obtain ⟨u, r, l⟩ := hl i x v e1 e2 e3
    refine ⟨u, r, ?_⟩
    rcases l with l | ⟨k, c, e, z⟩
    · exact .inl l
    · exact .inr ⟨k, c, e, cellK x c e _ z⟩
  · obtain ⟨v, z⟩ := I.cell x c e
    exact ⟨v, cellK x c e v z⟩
  · obtain ⟨m, ⟨o, _, _, ho, _⟩, _⟩ := I.loc
    exact free _ o (fun z => (hch _ z).2.1 rfl) ho I.free
  · obtain ⟨v, o, ho, hd⟩ := I.cell x c e
    exact free c o (fun z => (hch c z).2.2.1 x c e rfl) ho (I.freeC x c e)
  · obtain ⟨e, n, ne, nf, d⟩ := I.pin p hp
    have nch : p.1 ∉ ch := fun z => (hch p.1 z).2.2.2 p hp rfl
    exact ⟨keep p.1 p.2 ne nf nch e n, free p.1 p.2 nch e n, ne, nf, d⟩
theorem Inv.un {t' : Nat} (I : Inv X pins σ H s) (u : Un X.fs [] H H' s.heap h') (hok : HOk X.prog X.w H' h') : Inv X pins σ H' { s with heap := h', toks := t' } := by
  obtain ⟨m, ⟨o, es, ep, ho, r⟩, _⟩ := id I.loc
  obtain ⟨sl, hL⟩ := u.any ho I.free (by simp)
  exact I.step (g' := s.gens) (d' := s.drawn) (ch := []) (fun _ z => nomatch z) (fun b o _ hb _ e n => u.keep b o e n hb (by simp)) (fun b o _ hb _ e n => u.slot b o e n hb (by simp)) (fun b o _ e n => u.free b o e n (by simp)) (fun b o _ e => u.there b o e (by simp)) u.tups u.frzs u.tbls (fun m' hm => by
    obtain ⟨o', es', ep', ho', r'⟩ := hm
    rw [ho] at ho'; cases ho'
    exact ⟨_, es', ep', hL, r'⟩) hok I.bare
theorem Inv.call {g' : Array GenState} {t' : Nat} {d' : Drawn} {ch : List Addr} (I : Inv X pins σ H s) (u : Un (frs X.stack) ch H H' s.heap h') (hok : HOk X.prog X.w H' h') (hg : AllBare g')
    (hch : ∀ b ∈ ch, (b ∈ X.ex ∨ X.s₀.heap.objs.size ≤ b) ∧ b ≠ X.env.locals ∧ (∀ x c, X.env.cells.lookup x = some c → c ≠ b) ∧ ∀ p ∈ X.pn ++ pins, p.1 ≠ b) :
    Inv X pins σ H' { s with heap := h', gens := g', drawn := d', toks := t' } := by
  obtain ⟨m, ⟨o, es, ep, ho, r⟩, _⟩ := id I.loc
  obtain ⟨sl, hL⟩ := u.any ho I.free fun z => (hch _ z).2.1 rfl
  exact I.step (ch := ch) hch (fun b o hL hb hc e n => u.keep b o e n (fun z => (List.mem_cons.mp (I.stkSub b z)).elim hL hb) hc) (fun b o _ _ hc e n => u.any e n hc) (fun b o hc e n => u.free b o e n hc) (fun b o hc e => u.there b o e hc) u.tups u.frzs u.tbls (fun m' hm => by
    obtain ⟨o', es', ep', ho', r'⟩ := hm
    rw [ho] at ho'; cases ho'
    exact ⟨_, es', ep', hL, r'⟩) hok hg
theorem Inv.turned {t' : Nat} {it : Addr} (I : Inv X pins σ H s) (k : ∀ b o, b ≠ it → s.heap.get? b = some o → h'.get? b = some o) (hn : H it = none) (hL : it ≠ X.env.locals)
    (h1 : it ∈ X.ex ∨ X.s₀.heap.objs.size ≤ it) (h2 : ∀ x c, X.env.cells.lookup x = some c → c ≠ it) (h3 : ∀ p ∈ X.pn ++ pins, p.1 ≠ it) : Inv X pins σ H { s with heap := h', toks := t' } := by
  have nit : ∀ b u, H b = some u → b ≠ it := fun b u e z => by rw [z, hn] at e; cases e
  refine I.step (g' := s.gens) (d' := s.drawn) (ch := [it]) (fun b hb => ?_) (fun b o _ _ hc e _ => k b o (fun z => hc (by simp [z])) e) (fun b o _ _ hc e _ => ⟨o.slots, k b o (fun z => hc (by simp [z])) e⟩) (fun _ _ _ _ n => n)
    (fun b o hc e => ⟨o, k b o (fun z => hc (by simp [z])) e⟩) (fun _ _ e => e) (fun _ _ _ e => e) (fun b ps e => ⟨#[], by rw [e]; simp⟩) (fun m hm => ?_) (fun b u e => ?_) I.bare
  · have e : b = it := by simpa using hb
    subst e
    exact ⟨h1, hL, h2, h3⟩
  · obtain ⟨o, es, ep, ho, r⟩ := hm
    exact ⟨o, es, ep, k _ o (Ne.symm hL) ho, r⟩
  · refine (I.hok b u e).stay (fun c v hc q => k c v ?_ q) (fun _ q => q) fun _ _ q => q
    rcases hc with z | z
    · rw [z]; exact nit b u e
    · exact nit c _ z
theorem Inv.tok (I : Inv X pins σ H s) (t : Nat) : Inv X pins σ H { s with toks := t } := I.un (h' := s.heap) (t' := t) Un.refl I.hok
theorem Inv.kept {t' : Nat} (I : Inv X pins σ H s) (k : ∀ b u, s.heap.get? b = some u → h'.get? b = some u) : Inv X pins σ H { s with heap := h', toks := t' } := I.un (Un.kept k) (I.hok.kept k)
theorem Inv.laid {a : Addr} {o : HO} {t' : Nat} (I : Inv X pins σ H s) (k : ∀ b u, s.heap.get? b = some u → h'.get? b = some u) (hp : s.heap.objs.size ≤ a) (new : ObjOk X.prog X.w (upd H a o) h' a o) :
    Inv X pins σ (upd H a o) { s with heap := h', toks := t' } := I.un (Un.laid k hp (I.hok.fresh hp)) (I.hok.laid k hp new)
theorem Inv.write {x e : Addr} {o : HO} {t' : Nat} (I : Inv X pins σ H s) (mu : Mut (H x)) (he : e = x ∨ H e = some (.own x)) (k : ∀ b u, b ≠ e → s.heap.get? b = some u → h'.get? b = some u) (heo : ∃ u, h'.get? e = some u)
    (new : ObjOk X.prog X.w (upd H x o) h' x o) : Inv X pins σ (upd H x o) { s with heap := h', toks := t' } := I.un (Un.write mu he k heo) (I.hok.write mu he k heo new)
theorem Inv.pins_of {pins' : List (Addr × Obj)} (I : Inv X pins σ H s) (h : ∀ p ∈ pins', s.heap.get? p.1 = some p.2 ∧ H p.1 = none ∧ p.1 ≠ X.env.locals ∧ p.1 ∉ X.fs ∧ ∀ v, p.2.data ≠ .cell v) : Inv X pins' σ H s :=
  ⟨I.ok, I.os, I.bare, I.base, I.loc, I.cell, I.free, I.freeC, fun p hp => (List.mem_append.mp hp).elim (fun z => I.pin p (List.mem_append_left _ z)) (h p), I.hok, I.len⟩
theorem nodup_ix {N : List Str} (hN : N.Nodup) {i j : Nat} {x : Str} (a : N[i]? = some x) (b : N[j]? = some x) : i = j := by
  obtain ⟨h1, e1⟩ := List.getElem?_eq_some_iff.mp a
  obtain ⟨h2, e2⟩ := List.getElem?_eq_some_iff.mp b
  exact (List.getElem_inj hN).mp (e1.trans e2.symm)
theorem store_ok2 {M : Model} {A : Around} {E : Value → Shared → Prop} {i : Nat} {x : Str} {v : V} {u : Value} {Q : Unit → Shared → Prop} (I : Inv X pins σ H s) (hN : X.N.Nodup) (hi : X.N[i]? = some x) (hx : Loc X.env.scope x) (r : RelV v u)
    (h : ∀ s', Inv X pins (σ.set i (some v)) H s' → (∃ a, Heap.SameBut a s.heap s'.heap ∧ (a = X.env.locals ∨ X.env.cells.lookup x = some a)) → Q () s') (hf : X.fn x = true ∨ X.env.scope.names.lookup x = some .local := by first | exact .inl rfl | exact .inr rfl | assumption) : wpAny M A (storeName X.env x u) Q E s := by
  obtain ⟨m, hn, hl⟩ := id I.loc
  have hcls : (X.env.scope.kind == .class || (X.env.scope.kind == .module && X.env.locals != X.env.globals)) = false := by rw [I.ok.kind]; rfl
  have hiσ : i < σ.length := by rw [I.len]; exact (List.getElem?_eq_some_iff.mp hi).1
  have cne := I.cne
  have tracked : ∀ {a : Addr} {h' : Heap}, (∃ o, s.heap.get? a = some o ∧ H a = none) → Heap.SameBut a s.heap h' → HOk X.prog X.w H h' := fun {a h'} ha hs b ob e => by
    obtain ⟨_, _, hfree⟩ := ha
    refine (I.hok b ob e).stay (fun c w' hc q => (hs.2 c ?_).trans q) (fun _ q => q) fun _ _ q => q
    rintro rfl
    rcases hc with rfl | hc
    · rw [hfree] at e; cases e
    · rw [hfree] at hc; cases hc
  rcases hx with hk | hk
  · refine wpAny_storeName_local hk hn (fun h' hn' hs => ?_) hcls
    obtain ⟨oL, _, _, hoL, _⟩ := id hn
    refine h _ ⟨I.ok, I.os, I.bare, ⟨fun b o e n hb hx => ?_, fun b o e n hb hx => ?_, I.base.free, fun b o e hx => ?_, I.base.tups, I.base.frzs, I.base.tbls⟩, ⟨_, hn', fun j y v' e1 e2 e3 => ?_⟩, fun y c e => ?_, I.free, I.freeC, fun p hp => ?_, tracked ⟨oL, hoL, I.free⟩ hs, by simpa using I.len⟩ ⟨_, hs, .inl rfl⟩
    · exact (hs.2 b (Nat.ne_of_lt (Nat.lt_of_lt_of_le (Heap.lt_size e) I.ok.above))).trans (I.base.keep b o e n hb hx)
    · obtain ⟨sl, e1⟩ := I.base.slot b o e n hb hx
      exact ⟨sl, (hs.2 b (Nat.ne_of_lt (Nat.lt_of_lt_of_le (Heap.lt_size e) I.ok.above))).trans e1⟩
    · obtain ⟨o', e1⟩ := I.base.there b o e hx
      exact ⟨o', (hs.2 b (Nat.ne_of_lt (Nat.lt_of_lt_of_le (Heap.lt_size e) I.ok.above))).trans e1⟩
    · by_cases hj : j = i
      · subst hj
        rw [hi] at e1; cases e1
        rw [List.getElem?_set_self hiσ] at e2
        cases e2
        exact ⟨u, r, .inl ⟨hk, by simp⟩⟩
      · rw [List.getElem?_set_ne (Ne.symm hj)] at e2
        obtain ⟨u', r', q⟩ := hl j y v' e1 e2 e3
        refine ⟨u', r', ?_⟩
        rcases q with ⟨k, e⟩ | ⟨k, c, e, z⟩
        · refine .inl ⟨k, ?_⟩
          have : y ≠ x := fun e => hj (nodup_ix hN e1 (e ▸ hi))
          simp [this, e]
        · exact .inr ⟨k, c, e, z.sameBut hs (cne y c e)⟩
    · obtain ⟨w', z⟩ := I.cell y c e
      exact ⟨w', z.sameBut hs (cne y c e)⟩
    · obtain ⟨e, n, ne, nf, d⟩ := I.pin p hp
      exact ⟨(hs.2 p.1 ne).trans e, n, ne, nf, d⟩
  · have hfn : X.fn x = true := by
      rcases hf with z | z
      · exact z
      · rw [z] at hk; cases hk
    obtain ⟨c, hc⟩ := I.ok.has x (.inl hk)
    obtain ⟨w', z⟩ := I.cell x c hc
    refine wpAny_storeName_cell I.ok.kind hk hc z (fun h' hc' hs => ?_)
    obtain ⟨oc, hoc, hocd⟩ := id z
    refine h { s with heap := h' } ⟨I.ok, I.os, I.bare, ⟨fun b o e n hb hx => ?_, fun b o e n hb hx => ?_, I.base.free, fun b o e hx => ?_, I.base.tups, I.base.frzs, I.base.tbls⟩, ⟨m, hn.sameBut hs (Ne.symm (cne x c hc)), fun j y v' e1 e2 e3 => ?_⟩, fun y c' e => ?_, I.free, I.freeC, fun p hp => ?_, tracked ⟨oc, hoc, I.freeC x c hc⟩ hs, by simpa using I.len⟩ ⟨c, hs, .inr hc⟩
    · exact (hs.2 b (Nat.ne_of_lt (Nat.lt_of_lt_of_le (Heap.lt_size e) (I.ok.cab x c hfn hc)))).trans (I.base.keep b o e n hb hx)
    · obtain ⟨sl, e1⟩ := I.base.slot b o e n hb hx
      exact ⟨sl, (hs.2 b (Nat.ne_of_lt (Nat.lt_of_lt_of_le (Heap.lt_size e) (I.ok.cab x c hfn hc)))).trans e1⟩
    · obtain ⟨o', e1⟩ := I.base.there b o e hx
      exact ⟨o', (hs.2 b (Nat.ne_of_lt (Nat.lt_of_lt_of_le (Heap.lt_size e) (I.ok.cab x c hfn hc)))).trans e1⟩
    · by_cases hj : j = i
      · subst hj
        rw [hi] at e1; cases e1
        rw [List.getElem?_set_self hiσ] at e2
        cases e2
        exact ⟨u, r, .inr ⟨.inl hk, c, hc, hc'⟩⟩
      · rw [List.getElem?_set_ne (Ne.symm hj)] at e2
        obtain ⟨u', r', q⟩ := hl j y v' e1 e2 e3
        refine ⟨u', r', ?_⟩
        rcases q with q | ⟨k, c', e, z'⟩
        · exact .inl q
        · refine .inr ⟨k, c', e, z'.sameBut hs ?_⟩
          rintro rfl
          exact hj (nodup_ix hN e1 (I.ok.inj _ _ _ e hc ▸ hi))
    · by_cases hcc : c' = c
      · subst hcc; exact ⟨_, hc'⟩
      · obtain ⟨w2, z2⟩ := I.cell y c' e
        exact ⟨w2, z2.sameBut hs hcc⟩
    · obtain ⟨e, n, ne, nf, d⟩ := I.pin p hp
      refine ⟨(hs.2 p.1 ?_).trans e, n, ne, nf, d⟩
      intro q
      rw [q, hoc] at e
      have q' : oc = p.2 := Option.some.inj e
      exact d w' (by rw [← q']; exact hocd)
theorem store_ok {M : Model} {A : Around} {E : Value → Shared → Prop} {i : Nat} {x : Str} {v : V} {u : Value} {Q : Unit → Shared → Prop} (I : Inv X pins σ H s) (hN : X.N.Nodup) (hi : X.N[i]? = some x) (hx : Loc X.env.scope x) (r : RelV v u)
    (h : ∀ s', Inv X pins (σ.set i (some v)) H s' → Q () s') (hf : X.fn x = true ∨ X.env.scope.names.lookup x = some .local := by first | exact .inl rfl | exact .inr rfl | assumption) : wpAny M A (storeName X.env x u) Q E s :=
  store_ok2 I hN hi hx r (fun s' I' _ => h s' I') hf
theorem Inv.call' {s' : Shared} {ch : List Addr} (I : Inv X pins σ H s) (ho : s'.os = s.os) (u : Un (frs X.stack) ch H H' s.heap s'.heap) (hok : HOk X.prog X.w H' s'.heap) (hg : AllBare s'.gens)
    (hch : ∀ b ∈ ch, (b ∈ X.ex ∨ X.s₀.heap.objs.size ≤ b) ∧ b ≠ X.env.locals ∧ (∀ x c, X.env.cells.lookup x = some c → c ≠ b) ∧ ∀ p ∈ X.pn ++ pins, p.1 ≠ b) : Inv X pins σ H' s' := by
  obtain ⟨h', g', d', t', o'⟩ := s'
  have e : o' = s.os := ho
  subst e
  exact I.call (g' := g') (t' := t') (d' := d') u hok hg hch
end
abbrev XK := Value → Option Addr → Hp → Prop
abbrev St := List (Option V)
abbrev VK := V → Hp → Prop
abbrev TE := St → Hp → VK → Prop
abbrev TT := St → Hp → (Bool → Hp → Prop) → Prop
abbrev TA := St → Hp → (List V → Hp → Prop) → Prop
structure Ends where
  nx : St → Hp → Prop
  rt : VK
  bk : St → Hp → Prop := fun _ _ => False
  ct : St → Hp → Prop := fun _ _ => False
abbrev TS := Ends → St → Hp → Prop
def EP (X : Cx) (pins : List (Addr × Obj)) (σ : St) (Q : VK) (u : Value) (s' : Shared) : Prop := ∃ v H', Inv X pins σ H' s' ∧ RelV v u ∧ Q v H'
def TP (X : Cx) (pins : List (Addr × Obj)) (σ : St) (Q : Bool → Hp → Prop) (b : Bool) (s' : Shared) : Prop := ∃ H', Inv X pins σ H' s' ∧ Q b H'
def AP (X : Cx) (pins : List (Addr × Obj)) (σ : St) (Q : List V → Hp → Prop) (us : List Value) (s' : Shared) : Prop := ∃ vs H', Inv X pins σ H' s' ∧ Vals vs us ∧ Q vs H'
def SP (X : Cx) (pins : List (Addr × Obj)) (D : Ends) (f : Flow) (s' : Shared) : Prop :=
  match f with
  | .next => ∃ σ' H', Inv X pins σ' H' s' ∧ D.nx σ' H'
  | .brk => ∃ σ' H', Inv X pins σ' H' s' ∧ D.bk σ' H'
  | .cont => ∃ σ' H', Inv X pins σ' H' s' ∧ D.ct σ' H'
  | .ret u => ∃ v σ' H', Inv X pins σ' H' s' ∧ RelV v u ∧ D.rt v H'
def PE (X : Cx) (e : Expr) (t : TE) : Prop :=
  ∀ (pins : List (Addr × Obj)) (s : Shared) (σ : St) (H : Hp) (Q : VK), Inv X pins σ H s → t σ H Q → wpAny (model X.prog X.w) X.A (eval e X.env) (EP X pins σ Q) X.xe s
def PT (X : Cx) (e : Expr) (t : TT) : Prop :=
  ∀ (pins : List (Addr × Obj)) (s : Shared) (σ : St) (H : Hp) (Q : Bool → Hp → Prop), Inv X pins σ H s → t σ H Q → wpAny (model X.prog X.w) X.A (isTrue e X.env (eval e X.env)) (TP X pins σ Q) X.xe s
def PW (X : Cx) (e : Expr) (t : TT) : Prop :=
  ∀ (whole : Sem Value) (pins : List (Addr × Obj)) (s : Shared) (σ : St) (H : Hp) (Q : Bool → Hp → Prop), Inv X pins σ H s → t σ H Q → wpAny (model X.prog X.w) X.A (isTrue e X.env whole) (TP X pins σ Q) X.xe s
theorem PW.pt {X : Cx} {e : Expr} {t : TT} (h : PW X e t) : PT X e t := h _
def PA (X : Cx) (es : List Expr) (t : TA) : Prop :=
  ∀ (pos : Pos) (pins : List (Addr × Obj)) (s : Shared) (σ : St) (H : Hp) (Q : List V → Hp → Prop), Inv X pins σ H s → t σ H Q → wpAny (model X.prog X.w) X.A (spliced (backTo pos (starEach es X.env))) (AP X pins σ Q) X.xe s
def PS (X : Cx) (st : Stmt) (t : TS) : Prop :=
  ∀ (pins : List (Addr × Obj)) (s : Shared) (σ : St) (H : Hp) (D : Ends), Inv X pins σ H s → t D σ H → wpAny (model X.prog X.w) X.A (exec st X.env) (SP X pins D) X.xe s
def PSs (X : Cx) (st : List Stmt) (t : TS) : Prop :=
  ∀ (pins : List (Addr × Obj)) (s : Shared) (σ : St) (H : Hp) (D : Ends), Inv X pins σ H s → t D σ H → wpAny (model X.prog X.w) X.A (execs st X.env) (SP X pins D) X.xe s
theorem thn {α : Type} {t : Sem α} {Q Q' : α → Shared → Prop} {M : Model} {A : Around} {E : Value → Shared → Prop} {s : Shared} (h : wpAny M A t Q E s) (hQ : ∀ a s, Q a s → Q' a s) : wpAny M A t Q' E s := wpAny_mono h hQ fun _ _ x => x
end L2
namespace L2
open PySem PySem.Spec PyProof.Rows
section
variable {X : Cx}
def tVar (i : Nat) : TE := fun σ H Q => ∃ v, σ[i]? = some (some v) ∧ Q v H
def tC (v : V) : TE := fun _ H Q => Q v H
theorem pe_var {i : Nat} {x : Str} {pos : Pos} (hN : X.N[i]? = some x) (hv : Vis X.env.scope x) (hd : (x == ("__debug__" : Str)) = false := by decide) (hcd : (x == ("__classdict__" : Str)) = false := by decide) : PE X (.Name x pos) (tVar i) := by
  intro pins s σ H Q I h
  obtain ⟨v, e, h⟩ := h
  obtain ⟨m, hn, hl⟩ := I.loc
  obtain ⟨u, r, l⟩ := hl i x v hN e hv
  have fin : EP X pins σ Q u s := ⟨v, H, I, r, h⟩
  rcases l with ⟨hk, hm⟩ | ⟨hk, c, hc, hcell⟩
  · exact wpAny_Name (wpAny_loadName_local I.ok.kind hk hn hm fin) hd
  · rcases hk with hk | hk
    · exact wpAny_Name (wpAny_loadName_cell I.ok.kind hk hc hcell fin) hd
    · exact wpAny_Name (wpAny_loadName_free I.ok.kind hk hc hcell fin hcd) hd
theorem pe_int {i j pos} : PE X (.Constant (.int i) j pos) (tC (.int i)) := fun _ _ _ H _ I h => wpAny_Constant_int ⟨.int i, H, I.tok _, ⟨_, rfl⟩, h⟩
theorem pe_bl {b j pos} : PE X (.Constant (.bool b) j pos) (tC (.bl b)) := fun _ _ _ H _ I h => Constant_bool ⟨.bl b, H, I, rfl, h⟩
theorem pe_non {j pos} : PE X (.Constant .none j pos) (tC .non) := fun _ _ _ H _ I h => Constant_none ⟨.non, H, I, rfl, h⟩
theorem pe_str {x j pos} : PE X (.Constant (.str x) j pos) (tC (.str x)) := fun _ _ _ H _ I h => Calls.Constant_str ⟨.str x, H, I.tok _, ⟨_, rfl⟩, h⟩
def Gl (X : Cx) (x : Str) : Prop := X.env.kindOf x = some .globalImplicit
theorem ld_glob {E : Value → Shared → Prop} {pins : List (Addr × Obj)} {s : Shared} {σ : St} {H : Hp} {x : Str} {u : Value} {pos : Pos} {Q : Value → Shared → Prop} (I : Inv X pins σ H s) (hg : Gl X x) (hm : X.mg x = some u) (h : Q u s)
    (hd : (x == ("__debug__" : Str)) = false := by decide) : wpAny (model X.prog X.w) X.A (eval (.Name x pos) X.env) Q E s :=
  Calls.Name_function_global I.ok.kind hg (Calls.loadGlobal_global (by rw [I.ok.glob]; exact I.mod.glob.keeps I.bk) hm h) hd
theorem ld_blt {E : Value → Shared → Prop} {pins : List (Addr × Obj)} {s : Shared} {σ : St} {H : Hp} {x : Str} {u : Value} {pos : Pos} {Q : Value → Shared → Prop} (I : Inv X pins σ H s) (hg : Gl X x) (hm : X.mg x = none) (hv : bootBuiltins x = some u) (h : Q u s)
    (hn : x ≠ "__name__" := by decide) (hd : (x == ("__debug__" : Str)) = false := by decide) : wpAny (model X.prog X.w) X.A (eval (.Name x pos) X.env) Q E s := by
  obtain ⟨mb, h1, h2⟩ := I.mod.blt
  exact Calls.Name_function_global I.ok.kind hg (Calls.loadGlobal_builtin (by rw [I.ok.glob]; exact I.mod.glob.keeps I.bk) hm (by rw [I.ok.blt]; exact h1.keeps I.bk) ((h2 x hn).trans hv) h) hd
theorem pe_glob {x : Str} {v : V} {u : Value} {pos : Pos} (hg : Gl X x) (hm : X.mg x = some u) (r : RelV v u) (hd : (x == ("__debug__" : Str)) = false := by decide) : PE X (.Name x pos) (tC v) :=
  fun _ _ _ H _ I h => ld_glob I hg hm ⟨v, H, I, r, h⟩ hd
theorem pe_bltn {x : Str} {v : V} {u : Value} {pos : Pos} (hg : Gl X x) (hm : X.mg x = none) (hv : bootBuiltins x = some u) (r : RelV v u) (hn : x ≠ "__name__" := by decide) (hd : (x == ("__debug__" : Str)) = false := by decide) : PE X (.Name x pos) (tC v) :=
  fun _ _ _ H _ I h => ld_blt I hg hm hv ⟨v, H, I, r, h⟩ hn hd
def t2I (ta tb : TE) (k : Int → Int → Hp → Prop) : St → Hp → Prop := fun σ H => ta σ H fun x H1 => tb σ H1 fun y H2 => ∃ i j, x = .int i ∧ y = .int j ∧ k i j H2
def tAdd (ta tb : TE) : TE := fun σ H Q => t2I ta tb (fun i j H2 => Q (.int (i + j)) H2) σ H
def tSub (ta tb : TE) : TE := fun σ H Q => t2I ta tb (fun i j H2 => Q (.int (i - j)) H2) σ H
def tMul (ta tb : TE) : TE := fun σ H Q => t2I ta tb (fun i j H2 => (-(2 ^ 64) < i ∧ i < 2 ^ 64) ∧ Q (.int (i * j)) H2) σ H
variable {a b : Expr} {ta tb : TE} {pos : Pos}
def PC (X : Cx) (op : CmpOp) (a b : Expr) (t : TE) : Prop :=
  ∀ (pins : List (Addr × Obj)) (s : Shared) (σ : St) (H : Hp) (Q : VK), Inv X pins σ H s → t σ H Q →
    wpAny (model X.prog X.w) X.A (eval a X.env) (fun v s₁ => wpAny (model X.prog X.w) X.A (eval b X.env) (fun u s₂ => wpAny (model X.prog X.w) X.A (compareOp op v u) (EP X pins σ Q) X.xe s₂) X.xe s₁) X.xe s
def tCmp (p : Int → Int → Bool) (ta tb : TE) : TE := fun σ H Q => t2I ta tb (fun i j H2 => Q (.bl (p i j)) H2) σ H
abbrev tLt : TE → TE → TE := tCmp fun i j => decide (i < j)
abbrev tLe : TE → TE → TE := tCmp fun i j => decide (i ≤ j)
abbrev tGt : TE → TE → TE := tCmp fun i j => decide (j < i)
abbrev tGe : TE → TE → TE := tCmp fun i j => decide (j ≤ i)
abbrev tEqI : TE → TE → TE := tCmp fun i j => decide (i = j)
abbrev tNeI : TE → TE → TE := tCmp fun i j => !decide (i = j)
def tIsN (ta : TE) : TE := fun σ H Q => ta σ H fun x H1 => Q (.bl (decide (x = .non))) H1
def tNotN (ta : TE) : TE := fun σ H Q => ta σ H fun x H1 => Q (.bl (!decide (x = .non))) H1
def tB (t : TE) : TT := fun σ H Q => t σ H fun x H1 => ∃ c, x = .bl c ∧ Q c H1
theorem pt_val {e : Expr} {t : TE} (h : PE X e t) (he : ∀ whole, isTrue e X.env whole = (do let v ← whole; standAt e.pos; holding [v] (truthy v)) := by intro _; rfl) : PT X e (tB t) := by
  intro pins s σ H Q I hw
  refine isTrue_plain (thn (h pins s σ H _ I hw) fun v s1 ⟨x, H1, I1, r1, q1⟩ => ?_) (he _)
  obtain ⟨d, rfl, q⟩ := q1
  cases r1
  exact wpAny_truthy_bool ⟨H1, I1, q⟩
variable {tA tB' : TT} {rest : List Expr}
def tAnd (t u : TT) : TT := fun σ H Q => t σ H fun c H1 => if c = true then u σ H1 Q else Q false H1
def tOr (t u : TT) : TT := fun σ H Q => t σ H fun c H1 => if c = true then Q true H1 else u σ H1 Q
def tNot (t : TT) : TT := fun σ H Q => t σ H fun c H1 => Q (!c) H1
theorem pw_or1 (ha : PT X a tA) : PW X (.BoolOp .Or [a] pos) tA := by
  intro wh pins s σ H Q I h
  refine isTrue_or (thn (ha pins s σ H Q I h) fun c s1 e => ?_)
  cases c with
  | false => exact isTrue_or_nil e
  | true => exact e
theorem pw_or (ha : PT X a tA) (hb : PW X (.BoolOp .Or (b :: rest) pos) tB') : PW X (.BoolOp .Or (a :: b :: rest) pos) (tOr tA tB') := by
  intro wh pins s σ H Q I h
  refine isTrue_or (thn (ha pins s σ H _ I h) fun c s1 ⟨H1, I1, q1⟩ => ?_)
  cases c with
  | true => exact ⟨H1, I1, q1⟩
  | false => exact hb wh pins s1 σ H1 Q I1 q1
theorem pt_not (ha : PT X a tA) : PT X (.UnaryOp .Not a pos) (tNot tA) := by
  intro pins s σ H Q I h
  exact isTrue_not (ha pins s σ H (fun c H1 => Q (!c) H1) I h)
def tAndV (ta tb : TE) : TE := fun σ H Q => ta σ H fun x H1 => ∃ c, x = .bl c ∧ if c = true then tb σ H1 Q else Q (.bl false) H1
def tOrV (ta tb : TE) : TE := fun σ H Q => ta σ H fun x H1 => ∃ c, x = .bl c ∧ if c = true then Q (.bl true) H1 else tb σ H1 Q
def tNotV (ta : TE) : TE := fun σ H Q => ta σ H fun x H1 => ∃ c, x = .bl c ∧ Q (.bl (!c)) H1
theorem pe_one {op} {t : TE} (h : PE X a t) : PE X (.BoolOp op [a] pos) t := fun pins s σ H Q I hw => BoolOp_one (h pins s σ H Q I hw)
theorem pe_and (ha : PE X a ta) (hb : PE X (.BoolOp .And (b :: rest) pos) tb) : PE X (.BoolOp .And (a :: b :: rest) pos) (tAndV ta tb) := by
  intro pins s σ H Q I h
  refine BoolOp_and (thn (ha pins s σ H _ I h) fun v s1 ⟨x, H1, I1, r1, q1⟩ => ?_)
  obtain ⟨c, rfl, q1⟩ := q1
  cases r1
  refine wpAny_truthy_bool ?_
  cases c with
  | true => exact hb pins s1 σ H1 Q I1 q1
  | false => exact ⟨.bl false, H1, I1, rfl, q1⟩
theorem pe_not (ha : PE X a ta) : PE X (.UnaryOp .Not a pos) (tNotV ta) := by
  intro pins s σ H Q I h
  refine UnaryOp_ (thn (ha pins s σ H _ I h) fun v s1 ⟨x, H1, I1, r1, q1⟩ => ?_)
  obtain ⟨c, rfl, q1⟩ := q1
  cases r1
  exact not_of (wpAny_truthy_bool ⟨.bl (!c), H1, I1, rfl, q1⟩)
def tIf (t : TT) (ta tb : TE) : TE := fun σ H Q => t σ H fun c H1 => if c = true then ta σ H1 Q else tb σ H1 Q
theorem pe_ifExp {c : Expr} (hc : PT X c tA) (ha : PE X a ta) (hb : PE X b tb) : PE X (.IfExp c a b pos) (tIf tA ta tb) := by
  intro pins s σ H Q I h
  refine wpAny_IfExp (thn (hc pins s σ H _ I h) fun d s1 ⟨H1, I1, q1⟩ => ?_)
  cases d with
  | true => exact ha pins s1 σ H1 Q I1 q1
  | false => exact hb pins s1 σ H1 Q I1 q1
end
end L2
namespace L2
open PySem PySem.Spec PyProof.Rows
def SqL (K : PySem.W.Frag) (H : Hp) (a : Addr) (xs : List V) : Prop :=
  Rd H a (.lst xs) ∨
    ∃ (o : Obj) (its : Array Value) (n : Nat), K.lookup a = some o ∧ o.cls = .type "list" ∧ o.dict = none ∧ o.data = .seq its n ∧ its.size ≤ sizeLine ∧ Vals xs its.toList
def SqT (K : PySem.W.Frag) (H : Hp) (a : Addr) (xs : List V) : Prop :=
  Rd H a (.tup xs) ∨
    ∃ (o : Obj) (its : Array Value) (n : Nat), K.lookup a = some o ∧ o.cls = .type "tuple" ∧ o.data = .seq its n ∧ its.size ≤ sizeLine ∧ Vals xs its.toList
def absV : Value → Option V
  | .none => some .non
  | .bool b => some (.bl b)
  | .int i _ => some (.int i)
  | .str x _ => some (.str x)
  | .bytes b _ => some (.byt b)
  | .float b _ => some (.flt b)
  | .ref a => some (.ref a)
  | .type n => some (.ty n)
  | _ => none
theorem RelV.abs {x : V} {u : Value} (r : RelV x u) : absV u = some x := by
  cases x with
  | non => cases r; rfl
  | bl _ => cases r; rfl
  | int _ => obtain ⟨t, rfl⟩ := r; rfl
  | str _ => obtain ⟨t, rfl⟩ := r; rfl
  | byt _ => obtain ⟨t, rfl⟩ := r; rfl
  | flt _ => obtain ⟨t, rfl⟩ := r; rfl
  | ref _ => cases r; rfl
  | ty _ => cases r; rfl
theorem RelV.inj {x y : V} {u : Value} (r : RelV x u) (q : RelV y u) : x = y := Option.some.inj (r.abs.symm.trans q.abs)
theorem Vals.inj : ∀ {xs ys : List V} {us : List Value}, Vals xs us → Vals ys us → xs = ys
  | _, _, _, .nil, .nil => rfl
  | _, _, _, .cons r t, .cons r' t' => by rw [r.inj r', Vals.inj t t']
section
variable {X : Cx} {pins : List (Addr × Obj)} {σ : St} {H : Hp} {s : Shared} {a : Addr} {xs ys : List V}
theorem SqL.of {K : PySem.W.Frag} (h : H a = some (.lst xs)) : SqL K H a xs := .inl (.inl h)
theorem SqT.of {K : PySem.W.Frag} (h : H a = some (.tup xs)) : SqT K H a xs := .inl (.inl h)
theorem Inv.list (I : Inv X pins σ H s) (h : SqL X.K H a xs) : ∃ its : List Value, Vals xs its ∧ PlainL s.heap a its.toArray ∧ xs.length ≤ sizeLine := by
  rcases h with h | ⟨o, its, n, hk, hc, hd, hs, hz, r⟩
  · obtain ⟨z, its, n, r, e⟩ := h.ok I.hok
    exact ⟨its, r, ⟨_, n, e, rfl, rfl, rfl⟩, z⟩
  · refine ⟨its.toList, r, ⟨o, n, I.kIn a o hk, hc, hd, by simpa using hs⟩, ?_⟩
    have e := r.length
    simp only [Array.length_toList] at e
    omega
theorem Inv.tuple (I : Inv X pins σ H s) (h : SqT X.K H a xs) : ∃ its : List Value, Vals xs its ∧ IsTup s.heap a its.toArray ∧ xs.length ≤ sizeLine := by
  rcases h with h | ⟨o, its, n, hk, hc, hs, hz, r⟩
  · obtain ⟨z, its, r, p⟩ := h.ok I.hok
    exact ⟨its, r, p, z⟩
  · refine ⟨its.toList, r, ⟨o, I.kIn a o hk, hc, n, by simpa using hs⟩, ?_⟩
    have e := r.length
    simp only [Array.length_toList] at e
    omega
theorem Inv.list_inj (I : Inv X pins σ H s) (h : SqL X.K H a xs) (h' : SqL X.K H a ys) : xs = ys := by
  obtain ⟨its, r, ⟨o, n, e, _, _, d⟩, _⟩ := I.list h
  obtain ⟨its', r', ⟨o', n', e', _, _, d'⟩, _⟩ := I.list h'
  rw [e] at e'; cases e'
  rw [d] at d'
  injection d' with d1 _
  have : its = its' := by simpa using congrArg Array.toList d1
  subst this
  exact r.inj r'
theorem Inv.tuple_inj (I : Inv X pins σ H s) (h : SqT X.K H a xs) (h' : SqT X.K H a ys) : xs = ys := by
  obtain ⟨its, r, ⟨o, e, _, n, d⟩, _⟩ := I.tuple h
  obtain ⟨its', r', ⟨o', e', _, n', d'⟩, _⟩ := I.tuple h'
  rw [e] at e'; cases e'
  rw [d] at d'
  injection d' with d1 _
  have : its = its' := by simpa using congrArg Array.toList d1
  subst this
  exact r.inj r'
end
abbrev Cx.wish (X : Cx) (E : Value → Shared → Prop) : Cx := { X with xe := E }
abbrev Cx.nox (X : Cx) : Cx := X.wish fun _ _ => False
theorem Cx.Ok.wish {X : Cx} (ok : X.Ok) (E : Value → Shared → Prop) : (X.wish E).Ok :=
  ⟨ok.mod, ok.kind, ok.glob, ok.blt, ok.above, ok.inj, ok.has, ok.cab, ok.hd, ok.frames, ok.stk, ok.exf, ok.bs, ok.bsz, ok.noex, ok.exfs, ok.funs, ok.frf⟩
theorem Cx.Ok.unwish {X : Cx} {E : Value → Shared → Prop} (ok : (X.wish E).Ok) : X.Ok :=
  ⟨ok.mod, ok.kind, ok.glob, ok.blt, ok.above, ok.inj, ok.has, ok.cab, ok.hd, ok.frames, ok.stk, ok.exf, ok.bs, ok.bsz, ok.noex, ok.exfs, ok.funs, ok.frf⟩
section
variable {X : Cx} {pins : List (Addr × Obj)} {σ : St} {H : Hp} {s : Shared} {E : Value → Shared → Prop}
theorem Inv.wish (I : Inv X pins σ H s) (E : Value → Shared → Prop) : Inv (X.wish E) pins σ H s := ⟨I.ok.wish E, I.os, I.bare, I.base, I.loc, I.cell, I.free, I.freeC, I.pin, I.hok, I.len⟩
theorem Inv.unwish (I : Inv (X.wish E) pins σ H s) : Inv X pins σ H s := ⟨I.ok.unwish, I.os, I.bare, I.base, I.loc, I.cell, I.free, I.freeC, I.pin, I.hok, I.len⟩
theorem SP.unwish {D : Ends} {f : Flow} {s' : Shared} (h : SP (X.wish E) pins D f s') : SP X pins D f s' := by
  cases f with
  | next => obtain ⟨σ', H', I, q⟩ := h; exact ⟨σ', H', I.unwish, q⟩
  | brk => obtain ⟨σ', H', I, q⟩ := h; exact ⟨σ', H', I.unwish, q⟩
  | cont => obtain ⟨σ', H', I, q⟩ := h; exact ⟨σ', H', I.unwish, q⟩
  | ret u => obtain ⟨v, σ', H', I, r, q⟩ := h; exact ⟨v, σ', H', I.unwish, r, q⟩
theorem PSs.nox {st : List Stmt} {t : TS} (h : PSs X.nox st t) : PSs X st t := fun pins s σ H D I hw =>
  wpAny_mono (h pins s σ H D (I.wish _) hw) (fun _ _ q => q.unwish) fun _ _ z => False.elim z
end
section
variable {X : Cx} {st : Stmt} {rest : List Stmt} {t u : TS} {e : Expr} {te : TE} {pos : Pos}
def tNext : TS := fun D σ H => D.nx σ H
def tSeq (t u : TS) : TS := fun D σ H => t { D with nx := u D } σ H
theorem pss_nil : PSs X [] tNext := fun _ _ σ H _ I h => wpAny_execs_nil ⟨σ, H, I, h⟩
theorem pss_cons (h1 : PS X st t) (h2 : PSs X rest u) : PSs X (st :: rest) (tSeq t u) := by
  intro pins s σ H D I h
  refine wpAny_execs_cons (thn (h1 pins s σ H { D with nx := u D } I h) fun f s1 q => ?_)
  cases f with
  | next =>
    obtain ⟨σ', H', I', q⟩ := q
    exact h2 pins s1 σ' H' D I' q
  | ret v => exact q
  | brk => exact q
  | cont => exact q
theorem pss_one (h1 : PS X st t) : PSs X [st] t := by
  intro pins s σ H D I h
  refine wpAny_execs_cons (thn (h1 pins s σ H D I h) fun f s1 q => ?_)
  cases f with
  | next => exact wpAny_execs_nil q
  | ret v => exact q
  | brk => exact q
  | cont => exact q
def tBreak : TS := fun D σ H => D.bk σ H
def tCont : TS := fun D σ H => D.ct σ H
theorem Inv.quiet {pins : List (Addr × Obj)} {σ : St} {H : Hp} {s : Shared} (I : Inv X pins σ H s) : interactive X.env = false := by simp [interactive, I.ok.kind]
def tDrop (te : TE) : TS := fun D σ H => te σ H fun _ H1 => D.nx σ H1
theorem ps_expr (he : PE X e te) (hs : swapsWith e none pos.line X.env = pure false := by rfl) : PS X (.Expr e pos) (tDrop te) := by
  intro pins s σ H D I h
  exact wpAny_Expr_any (thn (he pins s σ H _ I h) fun v s1 ⟨x, H1, I1, r1, q1⟩ => ⟨σ, H1, I1, q1⟩) I.quiet hs
def tRet (te : TE) : TS := fun D σ H => te σ H D.rt
theorem ps_ret (he : PE X e te) : PS X (.Return (some e) pos) (tRet te) := by
  intro pins s σ H D I h
  exact wpAny_Return_some (thn (he pins s σ H _ I h) fun v s1 ⟨x, H1, I1, r1, q1⟩ => ⟨x, σ, H1, I1, r1, q1⟩)
def tRetN : TS := fun D _ H => D.rt .non H
def tIfS (c : TT) (t u : TS) : TS := fun D σ H => c σ H fun b H1 => if b = true then t D σ H1 else u D σ H1
theorem ps_if {c : Expr} {a b : List Stmt} {tc : TT} (hc : PT X c tc) (ha : PSs X a t) (hb : PSs X b u) : PS X (.If c a b pos) (tIfS tc t u) := by
  intro pins s σ H D I h
  refine wpAny_If (thn (hc pins s σ H _ I h) fun d s1 ⟨H1, I1, q1⟩ => ?_)
  cases d with
  | true => exact ha pins s1 σ H1 D I1 q1
  | false => exact hb pins s1 σ H1 D I1 q1
def tNever : TS := fun _ _ _ => False
theorem ps_never : PS X st tNever := fun _ _ _ _ _ _ h => h.elim
end
abbrev TG := V → St → Hp → (St → Hp → Prop) → Prop
abbrev TGs := List V → St → Hp → (St → Hp → Prop) → Prop
def PG (X : Cx) (target : Expr) (t : TG) : Prop :=
  ∀ (pins : List (Addr × Obj)) (s : Shared) (σ : St) (H : Hp) (v : V) (u : Value) (Q : St → Hp → Prop), Inv X pins σ H s → RelV v u → t v σ H Q →
    wpAny (model X.prog X.w) X.A (assign target X.env u) (fun _ s' => ∃ σ' H', Inv X pins σ' H' s' ∧ Q σ' H') X.xe s
def PGs (X : Cx) (ts : List Expr) (t : TGs) : Prop :=
  ∀ (pins : List (Addr × Obj)) (s : Shared) (σ : St) (H : Hp) (vs : List V) (us : List Value) (Q : St → Hp → Prop), Inv X pins σ H s → Vals vs us → t vs σ H Q →
    wpAny (model X.prog X.w) X.A (assignInOrder ((assignEach ts X.env).map (·.2)) us) (fun _ s' => ∃ σ' H', Inv X pins σ' H' s' ∧ Q σ' H') X.xe s
abbrev TSet := V → V → V → Hp → (Hp → Prop) → Prop
def PSet (X : Cx) (t : TSet) : Prop :=
  ∀ (pins : List (Addr × Obj)) (s : Shared) (σ : St) (H : Hp) (o i v : V) (ov iv u : Value) (Q : Hp → Prop), Inv X pins σ H s → RelV o ov → RelV i iv → RelV v u → t o i v H Q →
    wpAny (model X.prog X.w) X.A (setItem ov iv u) (fun _ s' => ∃ H', Inv X pins σ H' s' ∧ Q H') X.xe s
abbrev TIp := V → V → Hp → VK → Prop
def PIp (X : Cx) (op : Operator) (t : TIp) : Prop :=
  ∀ (pins : List (Addr × Obj)) (s : Shared) (σ : St) (H : Hp) (x y : V) (v u : Value) (Q : VK), Inv X pins σ H s → RelV x v → RelV y u → t x y H Q →
    wpAny (model X.prog X.w) X.A (inplaceOp op v u) (EP X pins σ Q) X.xe s
section
variable {X : Cx} {pos : Pos}
def gName (i : Nat) : TG := fun v σ H Q => Q (σ.set i (some v)) H
theorem pg_name {i : Nat} {x : Str} (hN : X.N.Nodup) (hi : X.N[i]? = some x) (hx : Loc X.env.scope x) (hf : X.fn x = true ∨ X.env.scope.names.lookup x = some .local := by first | exact .inl rfl | exact .inr rfl | assumption) : PG X (.Name x pos) (gName i) := by
  intro pins s σ H v u Q I r h
  exact wpAny_assign_Name (store_ok I hN hi hx r (fun s' I' => ⟨_, H, I', h⟩) hf)
def gNil : TGs := fun vs σ H Q => vs = [] ∧ Q σ H
def gCons (t : TG) (u : TGs) : TGs := fun vs σ H Q => ∃ v r, vs = v :: r ∧ t v σ H fun σ' H' => u r σ' H' Q
theorem pgs_nil : PGs X [] gNil := by
  intro pins s σ H vs us Q I r h
  obtain ⟨e, h⟩ := h
  subst e
  cases r
  exact assignInOrder_nil ⟨σ, H, I, h⟩
theorem pgs_cons {e : Expr} {es : List Expr} {t : TG} {u : TGs} (h1 : PG X e t) (h2 : PGs X es u)
    (hs : (assignEach (e :: es) X.env).map (·.2) = assign e X.env :: (assignEach es X.env).map (·.2) := by rfl) : PGs X (e :: es) (gCons t u) := by
  intro pins s σ H vs us Q I r h
  obtain ⟨v, vr, e1, h⟩ := h
  subst e1
  cases r with
  | cons r rr =>
    rw [hs]
    refine assignInOrder_cons (thn (h1 pins s σ H _ _ _ I r h) fun _ s1 ⟨σ1, H1, I1, q1⟩ => ?_)
    exact h2 pins s1 σ1 H1 _ _ Q I1 rr q1
def gTup (K : PySem.W.Frag) (n : Nat) (t : TGs) : TG := fun v σ H Q => ∃ a xs, v = .ref a ∧ SqT K H a xs ∧ xs.length = n ∧ t xs σ H Q
theorem pg_tup {es : List Expr} {k : Nat} {t : TGs} {n : Nat} (hc : X.calm = true) (h : PGs X es t)
    (hn : (assignEach es X.env).length = n := by rfl) (hst : (assignEach es X.env).findIdx? (·.1) = none := by rfl) : PG X (.Tuple es k pos) (gTup X.K n t) := by
  intro pins s σ H v u Q I r hw
  obtain ⟨a, xs, e1, hq, hl, hw⟩ := hw
  subst e1
  cases r
  obtain ⟨its, rv, ht, hz⟩ := I.tuple hq
  refine assign_Tuple_tuple (I.ok.hd hc) ht (by simp [hn, ← hl, rv.length]) hst fun h' hx => ?_
  have I1 : Inv X pins σ H { s with heap := h' } := I.kept (t' := s.toks) fun b o e => hx b o (Nat.ne_of_lt (Heap.lt_size e)) e
  exact h pins _ σ H xs _ Q I1 (by simpa using rv) hw
def gSub (to ti : TE) (t : TSet) : TG := fun v σ H Q => to σ H fun o H1 => ti σ H1 fun i H2 => t o i v H2 fun H3 => Q σ H3
def tAsg (te : TE) (g : TG) : TS := fun D σ H => te σ H fun x H1 => g x σ H1 D.nx
theorem ps_set {i : Nat} {x : Str} {e : Expr} {te : TE} {pos' : Pos} (hN : X.N.Nodup) (hi : X.N[i]? = some x) (hx : Loc X.env.scope x) (he : PE X e te) (hs : swapsWith e (some (.Name x pos')) pos.line X.env = pure false := by rfl) (hf : X.fn x = true ∨ X.env.scope.names.lookup x = some .local := by first | exact .inl rfl | exact .inr rfl | assumption) :
    PS X (.Assign [.Name x pos'] e pos) (tAsg te (gName i)) := by
  intro pins s σ H D I h
  refine wpAny_Assign_Name (thn (he pins s σ H _ I h) fun v s1 ⟨y, H1, I1, r1, q1⟩ => ?_) hs
  exact store_ok I1 hN hi hx r1 (fun s2 I2 => ⟨_, H1, I2, q1⟩) hf
def tPar (i j : Nat) (ta : TA) : TS := fun D σ H => ta σ H fun vs H1 => ∃ v w, vs = [v, w] ∧ D.nx ((σ.set i (some v)).set j (some w)) H1
def tAug (i : Nat) (te : TE) (ti : TIp) : TS := fun D σ H => ∃ x, σ[i]? = some (some x) ∧ te σ H fun y H1 => ti x y H1 fun z H2 => D.nx (σ.set i (some z)) H2
def tAugS (to ti te : TE) (tget : V → V → Hp → VK → Prop) (tip : TIp) (tset : TSet) : TS := fun D σ H => to σ H fun o H1 => ti σ H1 fun i H2 => tget o i H2 fun x H3 => te σ H3 fun y H4 => tip x y H4 fun z H5 => tset o i z H5 fun H6 => D.nx σ H6
def PGet (X : Cx) (t : V → V → Hp → VK → Prop) : Prop :=
  ∀ (pins : List (Addr × Obj)) (s : Shared) (σ : St) (H : Hp) (o i : V) (ov iv : Value) (Q : VK), Inv X pins σ H s → RelV o ov → RelV i iv → t o i H Q →
    wpAny (model X.prog X.w) X.A (getItem ov iv) (EP X pins σ Q) X.xe s
def ipI (f : Int → Int → Int) : TIp := fun x y H Q => ∃ i j, x = .int i ∧ y = .int j ∧ Q (.int (f i j)) H
end
section
variable {X : Cx} {pos : Pos}
def tWhile (c : TT) (tb : TS) : TS := fun D σ H => ∃ W : Nat → St → Hp → Prop, (∃ m, W m σ H) ∧ ∀ m σ H, W m σ H →
  c σ H fun b H1 => if b = true then ∃ N : St → Hp → Prop, (∀ σ' H', N σ' H' → ∃ m', m' < m ∧ W m' σ' H') ∧ tb { D with nx := N, ct := N, bk := D.nx } σ H1 else D.nx σ H1
theorem ps_while {c : Expr} {body : List Stmt} {tc : TT} {tb : TS} (hp : PassesOwn (model X.prog X.w) X.A X.env X.xe) (hc : PT X c tc) (hb : PSs X body tb) : PS X (.While c body [] pos) (tWhile tc tb) := by
  intro pins s σ H D I h
  obtain ⟨W, ⟨m0, w0⟩, turn⟩ := h
  refine wpAny_While (codeAny_whileLoop (fun n s' => ∃ σ' H', Inv X pins σ' H' s' ∧ W n σ' H') ?_ m0 ⟨σ, H, I, w0⟩)
  rintro n s1 ⟨σ1, H1, I1, w1⟩
  refine wpAny_passesOwn hp (thn (hc pins s1 σ1 H1 _ I1 (turn n σ1 H1 w1)) fun b s2 ⟨H2, I2, q2⟩ => ?_)
  cases b with
  | true =>
    obtain ⟨N, hN, q2⟩ := q2
    rw [if_pos rfl]
    refine wpAny_passesOwn hp (thn (hb pins s2 σ1 H2 _ I2 q2) fun f s3 q3 => ?_)
    cases f with
    | next =>
      obtain ⟨σ3, H3, I3, n3⟩ := q3
      obtain ⟨m', hm, w3⟩ := hN σ3 H3 n3
      exact ⟨m', hm, σ3, H3, I3, w3⟩
    | cont =>
      obtain ⟨σ3, H3, I3, n3⟩ := q3
      obtain ⟨m', hm, w3⟩ := hN σ3 H3 n3
      exact ⟨m', hm, σ3, H3, I3, w3⟩
    | brk => exact q3
    | ret v => exact q3
  | false =>
    rw [if_neg Bool.false_ne_true]
    exact wpAny_execs_nil ⟨σ1, H2, I2, q2⟩
end
structure It where
  go : Nat → Hp → Prop
  yld : Nat → Hp → V → Hp → Prop
  stop : Nat → Hp → Prop
def FpOk (X : Cx) (pins : List (Addr × Obj)) (H : Hp) (b : Addr) : Prop :=
  H b = none ∧ b ≠ X.env.locals ∧ b ∉ X.fs ∧ (b ∈ X.ex ∨ X.s₀.heap.objs.size ≤ b) ∧ (∀ x c, X.env.cells.lookup x = some c → c ≠ b) ∧ ∀ p ∈ X.pn ++ pins, p.1 ≠ b
theorem Inv.fpOk {X : Cx} {pins : List (Addr × Obj)} {σ : St} {H H' : Hp} {s : Shared} {b : Addr} (I : Inv X pins σ H s) (hb : s.heap.objs.size ≤ b) (hn : H' b = none) : FpOk X pins H' b := by
  refine ⟨hn, Nat.ne_of_gt (Nat.lt_of_lt_of_le I.lt hb), I.nofs hb, .inr (Nat.le_trans I.sz hb), fun x c e z => ?_, fun p hp z => ?_⟩
  · obtain ⟨v, q⟩ := I.cell x c e
    exact absurd (Nat.lt_of_lt_of_le q.lt (by rw [z]; exact hb)) (Nat.lt_irrefl _)
  · exact absurd (Nat.lt_of_lt_of_le (Heap.lt_size (I.pin p hp).1) (by rw [z]; exact hb)) (Nat.lt_irrefl _)
structure Turn (P : Program) (w : World) (K : PySem.W.Frag) (tg : Expr) (J : It) (fp : List Addr) (it : Addr) (tn : Nat → Heap → Prop) : Prop where
  mem : it ∈ fp
  obj : ∀ i h, tn i h → ∀ b ∈ fp, ∃ o, h.get? b = some o ∧ ∀ v, o.data ≠ .cell v
  keep : ∀ i h h', tn i h → (∀ b ∈ fp, ∀ o, h.get? b = some o → h'.get? b = some o) → tn i h'
  item : ∀ (X : Cx), X.prog = P → X.w = w → X.K = K → X.calm = true → ∀ (i : Nat) (pins : List (Addr × Obj)) (s : Shared) (σ : St) (H : Hp) (E : Value → Shared → Prop), Inv X pins σ H s → (∀ b ∈ fp, FpOk X pins H b) → tn i s.heap → J.go i H →
    wpAny (model P w) X.A (pyNext (.ref it)) (fun r s1 => ∃ u, r = some u ∧
      wpAny (model P w) X.A (letOwnedTupleGo tg (.ref it) u) (fun _ s2 => ∃ x H', Inv X pins σ H' s2 ∧ RelV x u ∧ J.yld i H x H' ∧ tn (i + 1) s2.heap ∧ ∀ b ∈ fp, H' b = none) E s1) E s
  done : ∀ (X : Cx), X.prog = P → X.w = w → X.K = K → X.calm = true → ∀ (i : Nat) (pins : List (Addr × Obj)) (s : Shared) (σ : St) (H : Hp) (E : Value → Shared → Prop), Inv X pins σ H s → (∀ b ∈ fp, FpOk X pins H b) → tn i s.heap → J.stop i H →
    wpAny (model P w) X.A (pyNext (.ref it)) (fun r s1 => r = none ∧ Inv X pins σ H s1) E s
  self : ∀ (A : Around) (i : Nat) (s : Shared) (Q : Value → Shared → Prop) (E : Value → Shared → Prop), tn i s.heap → Q (.ref it) s → wpAny (model P w) A (pyIter (.ref it)) Q E s
abbrev TI := St → Hp → (It → Hp → Prop) → Prop
def PIE (X : Cx) (pins : List (Addr × Obj)) (σ : St) (tg : Expr) (R : It → Hp → Prop) (itv : Value) (s2 : Shared) : Prop :=
  ∃ (it : Addr) (fp : List Addr) (tn : Nat → Heap → Prop) (J : It) (H' : Hp), itv = .ref it ∧ Inv X pins σ H' s2 ∧ Turn X.prog X.w X.K tg J fp it tn ∧ tn 0 s2.heap ∧ (∀ b ∈ fp, FpOk X pins H' b) ∧ R J H'
def PI (X : Cx) (tg iter : Expr) (wi : TI) : Prop :=
  ∀ (pins : List (Addr × Obj)) (s : Shared) (σ : St) (H : Hp) (R : It → Hp → Prop), Inv X pins σ H s → wi σ H R →
    wpAny (model X.prog X.w) X.A (eval iter X.env) (fun v s1 => wpAny (model X.prog X.w) X.A (pyIter v) (PIE X pins σ tg R) X.xe s1) X.xe s
theorem go_of {M : Model} {A : Around} {E : Value → Shared → Prop} {s : Shared} {tg : Expr} {it : Addr} {u : Value} {o : Obj} {n : String} {vs : Array Value} {Q : Unit → Shared → Prop} (ho : s.heap.get? it = some o) (hc : o.cls = .type n) (hd : o.data = .fields vs)
    (hn : ["enumerate", "zip", "dict_itemiterator", "dict_reverseitemiterator", "odict_iterator", "itertools.zip_longest", "itertools.pairwise"].contains n = false) (hQ : Q () s) : wpAny M A (letOwnedTupleGo tg (.ref it) u) Q E s := by
  unfold letOwnedTupleGo
  cases tg <;> first
    | exact wpAny_pure hQ
    | (cases u <;> first
        | exact wpAny_pure hQ
        | (refine wpAny_bind (wpAny_load ho ?_)
           rw [hc, hd]
           show wpAny M A (if (["enumerate", "zip", "dict_itemiterator", "dict_reverseitemiterator", "odict_iterator", "itertools.zip_longest", "itertools.pairwise"].contains n && vs[0]? == some (rawInt _)) = true then _ else _) Q E s
           rw [if_neg (by intro h; rw [hn, Bool.false_and] at h; cases h)]
           exact wpAny_pure hQ))
def Itl (K : PySem.W.Frag) (a : Addr) : It :=
  ⟨fun i H => ∃ xs x, SqL K H a xs ∧ xs[i]? = some x, fun i H x H' => H' = H ∧ ∀ xs, SqL K H a xs → xs[i]? = some x, fun i H => ∃ xs, SqL K H a xs ∧ xs.length ≤ i⟩
def Itt (K : PySem.W.Frag) (a : Addr) : It :=
  ⟨fun i H => ∃ xs x, SqT K H a xs ∧ xs[i]? = some x, fun i H x H' => H' = H ∧ ∀ xs, SqT K H a xs → xs[i]? = some x, fun i H => ∃ xs, SqT K H a xs ∧ xs.length ≤ i⟩
def Itr (lo : Int) (n : Nat) : It := ⟨fun i _ => i < n, fun i H x H' => H' = H ∧ x = .int (lo + i), fun i _ => n ≤ i⟩
theorem turn_list {P : Program} {w : World} {K : PySem.W.Frag} {tg : Expr} (a it : Addr) : Turn P w K tg (Itl K a) [it] it (fun i h => h.IsListIter it a i) where
  mem := by simp
  obj := fun i h st b hb => by
    have e : b = it := by simpa using hb
    subst e
    obtain ⟨o, e, c, d⟩ := st
    exact ⟨o, e, fun v z => by rw [d] at z; cases z⟩
  keep := fun i h h' st k => st.at fun o e => k it (by simp) o e
  item := by
    intro X hP hw hK hc i pins s σ H E I hf st hg
    subst hP hw hK
    obtain ⟨xs, x, hq, hx⟩ := hg
    obtain ⟨its, rv, p, hz⟩ := I.list hq
    obtain ⟨u, hu, ru⟩ := rv.get hx
    obtain ⟨f0, f1, f2, f3, f4, f5⟩ := hf it (by simp)
    refine wpAny_pyNext_list_item st p.isList (x := u) (by simpa using hu) fun h' st' sb => ?_
    have I1 : Inv X pins σ H { s with heap := h' } := I.turned (t' := s.toks) (fun b o hb e => (sb.2 b hb).trans e) f0 f1 f3 f4 f5
    obtain ⟨o, e, c, d⟩ := id st'
    exact ⟨u, rfl, go_of (s := { s with heap := h' }) e c d (by decide) ⟨x, H, I1, ru, ⟨rfl, fun ys hy => by rw [I.list_inj hy hq]; exact hx⟩, st', fun b hb => (hf b hb).1⟩⟩
  done := by
    intro X hP hw hK hc i pins s σ H E I hf st hg
    subst hP hw hK
    obtain ⟨xs, hq, hx⟩ := hg
    obtain ⟨its, rv, p, hz⟩ := I.list hq
    obtain ⟨f0, f1, f2, f3, f4, f5⟩ := hf it (by simp)
    have hl := rv.length
    exact wpAny_pyNext_list_end (I.ok.hd hc) st p.isList (by simp; omega) fun h' eb => ⟨rfl, I.turned (t' := s.toks) (fun b o hb e => eb b o hb e) f0 f1 f3 f4 f5⟩
  self := fun _ _ _ _ _ st h => wpAny_pyIter_listiter st h
theorem turn_tuple {P : Program} {w : World} {K : PySem.W.Frag} {tg : Expr} (a it : Addr) : Turn P w K tg (Itt K a) [it] it (fun i h => h.IsTupleIter it a i) where
  mem := by simp
  obj := fun i h st b hb => by
    have e : b = it := by simpa using hb
    subst e
    obtain ⟨o, e, c, d⟩ := st
    exact ⟨o, e, fun v z => by rw [d] at z; cases z⟩
  keep := fun i h h' st k => st.at fun o e => k it (by simp) o e
  item := by
    intro X hP hw hK hc i pins s σ H E I hf st hg
    subst hP hw hK
    obtain ⟨xs, x, hq, hx⟩ := hg
    obtain ⟨its, rv, p, hz⟩ := I.tuple hq
    obtain ⟨u, hu, ru⟩ := rv.get hx
    obtain ⟨f0, f1, f2, f3, f4, f5⟩ := hf it (by simp)
    refine wpAny_pyNext_tuple_item st (show s.heap.IsTuple a its.toArray from p) (x := u) (by simpa using hu) fun h' st' sb => ?_
    have I1 : Inv X pins σ H { s with heap := h' } := I.turned (t' := s.toks) (fun b o hb e => (sb.2 b hb).trans e) f0 f1 f3 f4 f5
    obtain ⟨o, e, c, d⟩ := id st'
    exact ⟨u, rfl, go_of (s := { s with heap := h' }) e c d (by decide) ⟨x, H, I1, ru, ⟨rfl, fun ys hy => by rw [I.tuple_inj hy hq]; exact hx⟩, st', fun b hb => (hf b hb).1⟩⟩
  done := by
    intro X hP hw hK hc i pins s σ H E I hf st hg
    subst hP hw hK
    obtain ⟨xs, hq, hx⟩ := hg
    obtain ⟨its, rv, p, hz⟩ := I.tuple hq
    obtain ⟨f0, f1, f2, f3, f4, f5⟩ := hf it (by simp)
    have hl := rv.length
    exact wpAny_pyNext_tuple_end (I.ok.hd hc) st (show s.heap.IsTuple a its.toArray from p) (by simp; omega) fun h' eb => ⟨rfl, I.turned (t' := s.toks) (fun b o hb e => eb b o hb e) f0 f1 f3 f4 f5⟩
  self := fun _ _ _ _ _ st h => wpAny_pyIter_tupleiter st h
theorem turn_range {P : Program} {w : World} {K : PySem.W.Frag} {tg : Expr} (it : Addr) (lo : Int) (n : Nat) : Turn P w K tg (Itr lo n) [it] it (fun i h => IsRangeIter h it (lo + (i : Nat) * 1) ((n : Int) - (i : Nat)) 1) where
  mem := by simp
  obj := fun i h st b hb => by
    have e : b = it := by simpa using hb
    subst e
    exact ⟨_, st, fun v z => by
      have z' : Data.fields _ = Data.cell v := z
      cases z'⟩
  keep := fun i h h' st k => k it (by simp) _ st
  item := by
    intro X hP hw hK hc i pins s σ H E I hf st hg
    subst hP hw hK
    obtain ⟨f0, f1, f2, f3, f4, f5⟩ := hf it (by simp)
    have W := Walks.range (prog := X.prog) (w := X.w) (I.ok.hd hc) it lo 1 n
    refine W.item i s _ _ hg st fun v h' tk hv st' kk => ?_
    obtain ⟨t, rfl⟩ := hv
    have I1 : Inv X pins σ H { s with heap := h', toks := tk } := I.turned (fun b o hb e => kk b o (by simpa using hb) e) f0 f1 f3 f4 f5
    refine ⟨_, rfl, go_of (s := { s with heap := h', toks := tk }) (n := "range_iterator") st' rfl rfl (by decide) ⟨.int (lo + i), H, I1, ⟨t, ?_⟩, ⟨rfl, rfl⟩, st', fun b hb => (hf b hb).1⟩⟩
    rw [Int.mul_one]
  done := by
    intro X hP hw hK hc i pins s σ H E I hf st hg
    subst hP hw hK
    obtain ⟨f0, f1, f2, f3, f4, f5⟩ := hf it (by simp)
    exact wpAny_pyNext_range_end (I.ok.hd hc) st (by have : n ≤ i := hg; omega) fun h' eb => ⟨rfl, I.turned (t' := s.toks) (fun b o hb e => eb b o hb e) f0 f1 f3 f4 f5⟩
  self := fun _ _ _ _ _ st h => wpAny_pyIter_rangeiter st h
end L2
namespace L2
open PySem PySem.Spec PyProof.Rows
section
variable {X : Cx} {tg : Expr}
def iList (K : PySem.W.Frag) (tl : TE) : TI := fun σ H R => tl σ H fun x H1 => ∃ a, x = .ref a ∧ (∃ xs, SqL K H1 a xs) ∧ R (Itl K a) H1
def iTup (K : PySem.W.Frag) (tl : TE) : TI := fun σ H R => tl σ H fun x H1 => ∃ a, x = .ref a ∧ (∃ xs, SqT K H1 a xs) ∧ R (Itt K a) H1
theorem pi_list {l : Expr} {tl : TE} (hl : PE X l tl) : PI X tg l (iList X.K tl) := by
  intro pins s σ H R I h
  refine thn (hl pins s σ H _ I h) fun v s1 ⟨x, H1, I1, r1, q1⟩ => ?_
  obtain ⟨a, e, ⟨xs, hq⟩, q⟩ := q1
  subst e
  cases r1
  obtain ⟨its, rv, p, hz⟩ := I1.list hq
  refine wpAny_pyIter_list p.isList ?_
  refine ⟨s1.heap.objs.size, [s1.heap.objs.size], _, _, H1, rfl, I1.kept (t' := s1.toks) fun b o e => Heap.get?_push_of_some _ e, turn_list a _, ⟨_, Heap.get?_push_size _ rfl, rfl, rfl⟩, fun b hb => ?_, q⟩
  have e : b = s1.heap.objs.size := by simpa using hb
  subst e
  exact I1.fpOk (Nat.le_refl _) (I1.hok.fresh (Nat.le_refl _))
theorem pi_tup {l : Expr} {tl : TE} (hl : PE X l tl) : PI X tg l (iTup X.K tl) := by
  intro pins s σ H R I h
  refine thn (hl pins s σ H _ I h) fun v s1 ⟨x, H1, I1, r1, q1⟩ => ?_
  obtain ⟨a, e, ⟨xs, hq⟩, q⟩ := q1
  subst e
  cases r1
  obtain ⟨its, rv, p, hz⟩ := I1.tuple hq
  refine wpAny_pyIter_tuple (show s1.heap.IsTuple a its.toArray from p) ?_
  refine ⟨s1.heap.objs.size, [s1.heap.objs.size], _, _, H1, rfl, I1.kept (t' := s1.toks) fun b o e => Heap.get?_push_of_some _ e, turn_tuple a _, ⟨_, Heap.get?_push_size _ rfl, rfl, rfl⟩, fun b hb => ?_, q⟩
  have e : b = s1.heap.objs.size := by simpa using hb
  subst e
  exact I1.fpOk (Nat.le_refl _) (I1.hok.fresh (Nat.le_refl _))
theorem range_it {pins : List (Addr × Obj)} {σ : St} {H : Hp} {s : Shared} {R : It → Hp → Prop} {E : Value → Shared → Prop} {lo hi : Int} {t u v : Tok} {tk : Nat} (I : Inv X pins σ H s) (h1 : -(2 ^ 62) ≤ lo) (h2 : lo < 2 ^ 62) (h3 : -(2 ^ 62) ≤ hi) (h4 : hi < 2 ^ 62)
    (q : R (Itr lo (hi - lo).toNat) H) : wpAny (model X.prog X.w) X.A (pyIter (.ref s.heap.objs.size)) (PIE X pins σ tg R) E { s with heap := s.heap.push { cls := .type "range", data := .fields #[.int lo t, .int hi u, .int 1 v] }, toks := tk } := by
  refine wpAny_pyIter_range (IsRange.new ..) (small_one h1 h2 h3 h4) ?_
  have I1 : Inv X pins σ H { s with heap := s.heap.push { cls := .type "range", data := .fields #[.int lo t, .int hi u, .int 1 v] }, toks := tk } := I.kept fun b o e => Heap.get?_push_of_some _ e
  refine ⟨(s.heap.push { cls := .type "range", data := .fields #[.int lo t, .int hi u, .int 1 v] }).objs.size, [(s.heap.push { cls := .type "range", data := .fields #[.int lo t, .int hi u, .int 1 v] }).objs.size], _, _, H, rfl,
    I1.kept (t' := tk) fun b o e => Heap.get?_push_of_some _ e, turn_range _ lo (hi - lo).toNat, ?_, fun b hb => ?_, q⟩
  · have e1 : lo + ((0 : Nat) : Int) * 1 = lo := by simp
    have e2 : (((hi - lo).toNat : Nat) : Int) - ((0 : Nat) : Int) = Builtin.Range.rangeSize lo hi 1 := by rw [rangeSize_one]; split <;> omega
    show IsRangeIter _ _ (lo + ((0 : Nat) : Int) * 1) ((((hi - lo).toNat : Nat) : Int) - ((0 : Nat) : Int)) 1
    rw [e1, e2]
    exact Heap.get?_push_size _ rfl
  · have e : b = (s.heap.push { cls := .type "range", data := .fields #[.int lo t, .int hi u, .int 1 v] }).objs.size := by simpa using hb
    subst e
    exact I1.fpOk (Nat.le_refl _) (I1.hok.fresh (Nat.le_refl _))
def iRng1 (ta : TA) : TI := fun σ H R => ta σ H fun vs H1 => ∃ j : Int, vs = [.int j] ∧ -(2 ^ 62) ≤ j ∧ j < 2 ^ 62 ∧ R (Itr 0 j.toNat) H1
def iRng2 (ta : TA) : TI := fun σ H R => ta σ H fun vs H1 => ∃ i j : Int, vs = [.int i, .int j] ∧ (-(2 ^ 62) ≤ i ∧ i < 2 ^ 62 ∧ -(2 ^ 62) ≤ j ∧ j < 2 ^ 62) ∧ R (Itr i (j - i).toNat) H1
theorem pi_range1 {a : Expr} {ta : TA} {p pos : Pos} (hg : Gl X "range") (hm : X.mg "range" = none) (ha : PA X [a] ta) (hs : starEach [a] X.env = [(false, eval a X.env)] := by rfl) : PI X tg (.Call (.Name "range" p) [a] [] pos) (iRng1 ta) := by
  intro pins s σ H R I h
  refine Call_ (ld_blt I hg hm boot_range (PyProof.Rows.callWith_type1 (thn (ha pos pins s σ H _ I h) fun us s1 ⟨vs, H1, I1, r1, q1⟩ => ?_) hs rfl))
  obtain ⟨j, e, q1, q2, q⟩ := q1
  subst e
  cases r1 with
  | cons r rr =>
    cases rr
    obtain ⟨t, rfl⟩ := r
    exact call_range_1 (range_it I1 (by omega) (by omega) q1 q2 (by simpa using q))
def tFor (wi : TI) (g : TG) (tb : TS) : TS := fun D σ H => wi σ H fun J H1 => ∃ W : Nat → Nat → St → Hp → Prop, (∃ m, W 0 m σ H1) ∧ ∀ i m σ H, W i m σ H →
  (J.stop i H ∧ D.nx σ H) ∨ (J.go i H ∧ ∃ N : St → Hp → Prop, (∀ σ' H', N σ' H' → ∃ m', m' < m ∧ W (i + 1) m' σ' H') ∧ ∀ x H', J.yld i H x H' → g x σ H' fun σ2 H2 => tb { D with nx := N, ct := N, bk := D.nx } σ2 H2)
def pinsAt (fp : List Addr) (h : Heap) : List (Addr × Obj) := fp.filterMap fun b => (h.get? b).map fun o => (b, o)
theorem mem_pinsAt {fp : List Addr} {h : Heap} {b : Addr} {o : Obj} (hb : b ∈ fp) (e : h.get? b = some o) : (b, o) ∈ pinsAt fp h := List.mem_filterMap.mpr ⟨b, hb, by rw [e]; rfl⟩
theorem of_pinsAt {fp : List Addr} {h : Heap} {p : Addr × Obj} (hp : p ∈ pinsAt fp h) : p.1 ∈ fp ∧ h.get? p.1 = some p.2 := by
  obtain ⟨b, hb, e⟩ := List.mem_filterMap.mp hp
  cases q : h.get? b with
  | none => rw [q] at e; cases e
  | some o =>
    rw [q] at e
    have e' : (b, o) = p := Option.some.inj e
    subst e'
    exact ⟨hb, q⟩
theorem Inv.pinned {pins : List (Addr × Obj)} {σ : St} {H : Hp} {s : Shared} {fp : List Addr} (I : Inv X pins σ H s) (hf : ∀ b ∈ fp, FpOk X pins H b) (ho : ∀ b ∈ fp, ∃ o, s.heap.get? b = some o ∧ ∀ v, o.data ≠ .cell v) : Inv X (pins ++ pinsAt fp s.heap) σ H s :=
  I.pins_of fun p hp => (List.mem_append.mp hp).elim (fun z => I.pin p (List.mem_append_right _ z)) fun z => by
    obtain ⟨hb, e⟩ := of_pinsAt z
    obtain ⟨f0, f1, f2, _⟩ := hf p.1 hb
    obtain ⟨o, e', d⟩ := ho p.1 hb
    rw [e] at e'; cases e'
    exact ⟨e, f0, f1, f2, d⟩
theorem Inv.unpinned {pins pl : List (Addr × Obj)} {σ : St} {H : Hp} {s : Shared} (I : Inv X (pins ++ pl) σ H s) : Inv X pins σ H s := I.pins_of fun p hp => I.pin p (List.mem_append_right _ (List.mem_append_left _ hp))
theorem ps_for {iter : Expr} {body : List Stmt} {wi : TI} {g : TG} {tb : TS} {pos : Pos} (hp : PassesOwn (model X.prog X.w) X.A X.env X.xe) (hc : X.calm = true) (hi : PI X tg iter wi) (hg : PG X tg g) (hb : PSs X body tb)
    (hs : ∀ x, foldedSetIterable iter X.env x = pure x := by intro _; rfl) : PS X (.For tg iter body [] pos) (tFor wi g tb) := by
  intro pins s σ H D I h
  refine wpAny_For (thn (hi pins s σ H _ I h) fun v s1 h1 => thn h1 fun itv s2 h2 => ?_) hs
  obtain ⟨it, fp, tn, J, H2, e, I2, T, st2, f2, W, ⟨m0, w0⟩, turn⟩ := h2
  subst e
  -- what stays true of the iterator's objects through the loop
  have stat : ∀ {H' : Hp}, (∀ b ∈ fp, H' b = none) → ∀ b ∈ fp, FpOk X pins H' b := fun hn b hb => ⟨hn b hb, (f2 b hb).2⟩
  refine codeAny_forLoop_any (fun n s' => ∃ i σ' H', Inv X pins σ' H' s' ∧ tn i s'.heap ∧ (∀ b ∈ fp, H' b = none) ∧ W i n σ' H') ?_ m0 ⟨0, σ, H2, I2, st2, fun b hb => (f2 b hb).1, w0⟩
  rintro n s3 ⟨i, σ3, H3, I3, st3, fr3, w3⟩
  rcases turn i n σ3 H3 w3 with ⟨stop, qn⟩ | ⟨go, N, hN, step⟩
  · refine wpAny_passesOwn hp (thn (T.done X rfl rfl rfl hc i pins s3 σ3 H3 X.xe I3 (stat fr3) st3 stop) fun r s4 ⟨hr, I4⟩ => ?_)
    subst hr
    exact wpAny_execs_nil ⟨σ3, H3, I4, qn⟩
  · refine wpAny_passesOwn hp (thn (T.item X rfl rfl rfl hc i pins s3 σ3 H3 X.xe I3 (stat fr3) st3 go) fun r s4 ⟨u, hr, h4⟩ => ?_)
    subst hr
    refine wpAny_passesOwn hp (thn h4 fun _ s5 ⟨x, H5, I5, r5, y5, st5, fr5⟩ => ?_)
    have I5' := I5.pinned (stat fr5) (T.obj _ _ st5)
    refine wpAny_passesOwn hp (thn (hg _ s5 σ3 H5 x u _ I5' r5 (step x H5 y5)) fun _ s6 ⟨σ6, H6, I6, q6⟩ => ?_)
    refine wpAny_passesOwn hp (thn (hb _ s6 σ6 H6 _ I6 q6) fun f s7 q7 => ?_)
    have again : ∀ {σ7 : St} {H7 : Hp}, Inv X (pins ++ pinsAt fp s5.heap) σ7 H7 s7 → N σ7 H7 → ∃ m, m < n ∧ ∃ i σ' H', Inv X pins σ' H' s7 ∧ tn i s7.heap ∧ (∀ b ∈ fp, H' b = none) ∧ W i m σ' H' := fun {σ7 H7} I7 n7 => by
      obtain ⟨m', hm, w7⟩ := hN σ7 H7 n7
      refine ⟨m', hm, i + 1, σ7, H7, I7.unpinned, T.keep _ _ _ st5 fun b hb o e => (I7.pin (b, o) (List.mem_append_right _ (List.mem_append_right _ (mem_pinsAt hb e)))).1, fun b hb => ?_, w7⟩
      obtain ⟨o, e, d⟩ := T.obj _ _ st5 b hb
      exact (I7.pin (b, o) (List.mem_append_right _ (List.mem_append_right _ (mem_pinsAt hb e)))).2.1
    cases f with
    | next => obtain ⟨σ7, H7, I7, n7⟩ := q7; exact again I7 n7
    | cont => obtain ⟨σ7, H7, I7, n7⟩ := q7; exact again I7 n7
    | brk => obtain ⟨σ7, H7, I7, q7⟩ := q7; exact ⟨σ7, H7, I7.unpinned, q7⟩
    | ret v => obtain ⟨x7, σ7, H7, I7, r7, q7⟩ := q7; exact ⟨x7, σ7, H7, I7.unpinned, r7, q7⟩
end
theorem for_list {K : PySem.W.Frag} {a : Addr} {xs : List V} {g : TG} {tb : TS} {D : Ends} {σ : St} {H : Hp} (Pv : Nat → St → Hp → Prop) (h0 : Pv 0 σ H) (hl : ∀ i σ H, i ≤ xs.length → Pv i σ H → SqL K H a xs)
    (hs : ∀ i x σ H, xs[i]? = some x → Pv i σ H → g x σ H fun σ2 H2 => tb { D with nx := Pv (i + 1), ct := Pv (i + 1), bk := D.nx } σ2 H2) (hd : ∀ σ H, Pv xs.length σ H → D.nx σ H) :
    ∃ W : Nat → Nat → St → Hp → Prop, (∃ m, W 0 m σ H) ∧ ∀ i m σ H, W i m σ H →
      ((Itl K a).stop i H ∧ D.nx σ H) ∨ ((Itl K a).go i H ∧ ∃ N : St → Hp → Prop, (∀ σ' H', N σ' H' → ∃ m', m' < m ∧ W (i + 1) m' σ' H') ∧ ∀ x H', (Itl K a).yld i H x H' → g x σ H' fun σ2 H2 => tb { D with nx := N, ct := N, bk := D.nx } σ2 H2) := by
  refine ⟨fun i m σ H => m = xs.length - i ∧ i ≤ xs.length ∧ Pv i σ H, ⟨xs.length, by simp, Nat.zero_le _, h0⟩, ?_⟩
  rintro i m σ H ⟨rfl, hi, p⟩
  have q := hl i σ H hi p
  by_cases hlt : i < xs.length
  · refine .inr ⟨⟨xs, xs[i], q, by simp [hlt]⟩, Pv (i + 1), fun σ' H' p' => ⟨xs.length - (i + 1), by omega, rfl, hlt, p'⟩, fun x H' y => ?_⟩
    obtain ⟨e, y⟩ := y
    subst e
    exact hs i x σ _ (y xs q) p
  · have e : i = xs.length := by omega
    subst e
    exact .inl ⟨⟨xs, q, Nat.le_refl _⟩, hd σ H p⟩
theorem for_range {lo : Int} {n : Nat} {g : TG} {tb : TS} {D : Ends} {σ : St} {H : Hp} (Pv : Nat → St → Hp → Prop) (h0 : Pv 0 σ H)
    (hs : ∀ i σ H, i < n → Pv i σ H → g (.int (lo + i)) σ H fun σ2 H2 => tb { D with nx := Pv (i + 1), ct := Pv (i + 1), bk := D.nx } σ2 H2) (hd : ∀ σ H, Pv n σ H → D.nx σ H) :
    ∃ W : Nat → Nat → St → Hp → Prop, (∃ m, W 0 m σ H) ∧ ∀ i m σ H, W i m σ H →
      ((Itr lo n).stop i H ∧ D.nx σ H) ∨ ((Itr lo n).go i H ∧ ∃ N : St → Hp → Prop, (∀ σ' H', N σ' H' → ∃ m', m' < m ∧ W (i + 1) m' σ' H') ∧ ∀ x H', (Itr lo n).yld i H x H' → g x σ H' fun σ2 H2 => tb { D with nx := N, ct := N, bk := D.nx } σ2 H2) := by
  refine ⟨fun i m σ H => m = n - i ∧ i ≤ n ∧ Pv i σ H, ⟨n, by simp, Nat.zero_le _, h0⟩, ?_⟩
  rintro i m σ H ⟨rfl, hi, p⟩
  by_cases hlt : i < n
  · refine .inr ⟨hlt, Pv (i + 1), fun σ' H' p' => ⟨n - (i + 1), by omega, rfl, hlt, p'⟩, fun x H' y => ?_⟩
    obtain ⟨e, y⟩ := y
    subst e y
    exact hs i σ _ hlt p
  · have e : i = n := by omega
    subst e
    exact .inl ⟨Nat.le_refl _, hd σ H p⟩
end L2
namespace L2
open PySem PySem.Spec PyProof.Rows
abbrev R2 := V → V → Hp → VK → Prop
def OpR (X : Cx) (f : Value → Value → Sem Value) (r : R2) : Prop :=
  ∀ (pins : List (Addr × Obj)) (s : Shared) (σ : St) (H : Hp) (x y : V) (v u : Value) (Q : VK), Inv X pins σ H s → RelV x v → RelV y u → r x y H Q →
    wpAny (model X.prog X.w) X.A (f v u) (EP X pins σ Q) X.xe s
def UnR (X : Cx) (f : Value → Sem Value) (r : V → Hp → VK → Prop) : Prop :=
  ∀ (pins : List (Addr × Obj)) (s : Shared) (σ : St) (H : Hp) (x : V) (v : Value) (Q : VK), Inv X pins σ H s → RelV x v → r x H Q →
    wpAny (model X.prog X.w) X.A (f v) (EP X pins σ Q) X.xe s
def CallR (X : Cx) (f : Value) (r : List V → Hp → VK → Prop) : Prop :=
  ∀ (pins : List (Addr × Obj)) (s : Shared) (σ : St) (H : Hp) (xs : List V) (us : List Value) (Q : VK), Inv X pins σ H s → Vals xs us → r xs H Q →
    wpAny (model X.prog X.w) X.A (call f us) (EP X pins σ Q) X.xe s
def TruR (X : Cx) (r : V → Hp → (Bool → Hp → Prop) → Prop) : Prop :=
  ∀ (pins : List (Addr × Obj)) (s : Shared) (σ : St) (H : Hp) (x : V) (v : Value) (Q : Bool → Hp → Prop), Inv X pins σ H s → RelV x v → r x H Q →
    wpAny (model X.prog X.w) X.A (truthy v) (TP X pins σ Q) X.xe s
def tOp (r : R2) (ta tb : TE) : TE := fun σ H Q => ta σ H fun x H1 => tb σ H1 fun y H2 => r x y H2 Q
def tUn (r : V → Hp → VK → Prop) (ta : TE) : TE := fun σ H Q => ta σ H fun x H1 => r x H1 Q
def rI (C : Int → Int → Prop) (g : Int → Int → V) : R2 := fun x y H Q => ∃ i j, x = .int i ∧ y = .int j ∧ C i j ∧ Q (g i j) H
def rI0 (g : Int → Int → V) : R2 := fun x y H Q => ∃ i j, x = .int i ∧ y = .int j ∧ Q (g i j) H
def rU (g : Int → V) : V → Hp → VK → Prop := fun x H Q => ∃ i, x = .int i ∧ Q (g i) H
section
variable {X : Cx} {a b c : Expr} {ta tb tc : TE} {pos : Pos}
theorem binT (ha : PE X a ta) (hb : PE X b tb) {pins : List (Addr × Obj)} {s : Shared} {σ : St} {H : Hp} {R : V → V → Hp → Prop} (I : Inv X pins σ H s)
    (h : ta σ H fun x H1 => tb σ H1 fun y H2 => R x y H2) {Q : Value → Shared → Prop} {f : Value → Value → Sem Value}
    (hf : ∀ v u s2 x y H2, Inv X pins σ H2 s2 → RelV x v → RelV y u → R x y H2 → wpAny (model X.prog X.w) X.A (f v u) Q X.xe s2) :
    wpAny (model X.prog X.w) X.A (eval a X.env) (fun v s₁ => wpAny (model X.prog X.w) X.A (eval b X.env) (fun u s₂ => wpAny (model X.prog X.w) X.A (f v u) Q X.xe s₂) X.xe s₁) X.xe s := by
  refine thn (ha pins s σ H _ I h) fun v s1 ⟨x, H1, I1, r1, q1⟩ => ?_
  refine thn (hb pins s1 σ H1 _ I1 q1) fun u s2 ⟨y, H2, I2, r2, q2⟩ => ?_
  exact hf v u s2 x y H2 I2 r1 r2 q2
theorem pe_op {op : Operator} {r : R2} (ho : OpR X (binaryOp op) r) (ha : PE X a ta) (hb : PE X b tb) : PE X (.BinOp a op b pos) (tOp r ta tb) := by
  intro pins s σ H Q I h
  exact wpAny_BinOp (binT ha hb I h fun v u s2 x y H2 I2 rx ry q => ho pins s2 σ H2 x y v u Q I2 rx ry q)
theorem pe_un {op : UnaryOp} {r : V → Hp → VK → Prop} (ho : UnR X (unaryOp op) r) (ha : PE X a ta) : PE X (.UnaryOp op a pos) (tUn r ta) := by
  intro pins s σ H Q I h
  exact UnaryOp_ (thn (ha pins s σ H _ I h) fun v s1 ⟨x, H1, I1, r1, q1⟩ => ho pins s1 σ H1 x v Q I1 r1 q1)
theorem opI {f : Value → Value → Sem Value} {C : Int → Int → Prop} {g : Int → Int → Int}
    (rule : ∀ (i j : Int) (t u : Tok) (s : Shared) (Q : Value → Shared → Prop) (E : Value → Shared → Prop), C i j → Q (.int (g i j) s.toks) { s with toks := s.toks + 1 } → wpAny (model X.prog X.w) X.A (f (.int i t) (.int j u)) Q E s) :
    OpR X f (rI C fun i j => .int (g i j)) := by
  intro pins s σ H x y v u Q I rx ry h
  obtain ⟨i, j, rfl, rfl, hc, q⟩ := h
  obtain ⟨t, rfl⟩ := rx
  obtain ⟨t', rfl⟩ := ry
  exact rule i j t t' s _ _ hc ⟨.int (g i j), H, I.tok _, ⟨_, rfl⟩, q⟩
theorem opI0 {f : Value → Value → Sem Value} {g : Int → Int → Int}
    (rule : ∀ (i j : Int) (t u : Tok) (s : Shared) (Q : Value → Shared → Prop) (E : Value → Shared → Prop), Q (.int (g i j) s.toks) { s with toks := s.toks + 1 } → wpAny (model X.prog X.w) X.A (f (.int i t) (.int j u)) Q E s) :
    OpR X f (rI0 fun i j => .int (g i j)) := by
  intro pins s σ H x y v u Q I rx ry h
  obtain ⟨i, j, rfl, rfl, q⟩ := h
  obtain ⟨t, rfl⟩ := rx
  obtain ⟨t', rfl⟩ := ry
  exact rule i j t t' s _ _ ⟨.int (g i j), H, I.tok _, ⟨_, rfl⟩, q⟩
theorem opB0 {f : Value → Value → Sem Value} {g : Int → Int → Bool}
    (rule : ∀ (i j : Int) (t u : Tok) (s : Shared) (Q : Value → Shared → Prop) (E : Value → Shared → Prop), Q (.bool (g i j)) s → wpAny (model X.prog X.w) X.A (f (.int i t) (.int j u)) Q E s) :
    OpR X f (rI0 fun i j => .bl (g i j)) := by
  intro pins s σ H x y v u Q I rx ry h
  obtain ⟨i, j, rfl, rfl, q⟩ := h
  obtain ⟨t, rfl⟩ := rx
  obtain ⟨t', rfl⟩ := ry
  exact rule i j t t' s _ _ ⟨.bl (g i j), H, I, rfl, q⟩
def CDiv (i j : Int) : Prop := 0 < j ∧ j < 1073741824
def CDivN (i j : Int) : Prop := j ≠ 0 ∧ j.natAbs < 1073741824
def CPow (i j : Int) : Prop := 0 ≤ j ∧ j ≤ 1000000 ∧ i.natAbs < 2 ^ 64
def CMul (i j : Int) : Prop := (-(2 ^ 64) < i ∧ i < 2 ^ 64) ∨ (-(2 ^ 64) < j ∧ j < 2 ^ 64)
theorem CMul.ok {i j : Int} (h : CMul i j) : IntMulOk i j := by
  rcases h with ⟨h1, h2⟩ | ⟨h1, h2⟩
  · exact .of_left (intBits_le_64 h1 h2)
  · exact .of_right (intBits_le_64 h1 h2)
theorem two_pow_nn (k : Nat) : (0 : Int) ≤ 2 ^ k := by
  rw [two_pow_cast]
  exact Int.natCast_nonneg _
theorem op_add : OpR X (binaryOp .Add) (rI0 fun i j => .int (i + j)) := opI0 fun _ _ _ _ _ _ _ q => add_int q
theorem op_sub : OpR X (binaryOp .Sub) (rI0 fun i j => .int (i - j)) := opI0 fun _ _ _ _ _ _ _ q => sub_int q
theorem op_mod : OpR X (binaryOp .Mod) (rI (fun _ j => 0 < j) fun i j => .int (i % j)) := opI fun i j _ _ _ _ _ hc q => by
  have h1 : (0 : Int) < j := hc
  exact mod_int' (by omega) (by rw [Int.fmod_eq_emod_of_nonneg i (by omega)]; exact q)
theorem op_pow : OpR X (binaryOp .Pow) (rI CPow fun i j => .int (i ^ j.toNat)) := opI fun _ _ _ _ _ _ _ hc q => pow_int_small hc.1 hc.2.1 hc.2.2 q
theorem op_shl : OpR X (binaryOp .LShift) (rI CPow fun i j => .int (i * 2 ^ j.toNat)) := opI fun _ _ _ _ _ _ _ hc q => lshift_int_small hc.1 hc.2.1 hc.2.2 q
theorem op_shr : OpR X (binaryOp .RShift) (rI (fun _ j => 0 ≤ j) fun i j => .int (i / 2 ^ j.toNat)) := opI fun i j _ _ _ _ _ hc q =>
  rshift_int hc (by rw [Int.fdiv_eq_ediv_of_nonneg i (two_pow_nn _)]; exact q)
theorem unI {f : Value → Sem Value} {g : Int → Int}
    (rule : ∀ (i : Int) (t : Tok) (s : Shared) (Q : Value → Shared → Prop) (E : Value → Shared → Prop), Q (.int (g i) s.toks) { s with toks := s.toks + 1 } → wpAny (model X.prog X.w) X.A (f (.int i t)) Q E s) :
    UnR X f (rU fun i => .int (g i)) := by
  intro pins s σ H x v Q I rx h
  obtain ⟨i, rfl, q⟩ := h
  obtain ⟨t, rfl⟩ := rx
  exact rule i t s _ _ ⟨.int (g i), H, I.tok _, ⟨_, rfl⟩, q⟩
theorem un_neg : UnR X (unaryOp .USub) (rU fun i => .int (-i)) := unI fun _ _ _ _ _ q => neg_int q
end
def scal : V → V → Bool
  | .non, .non => true | .non, .int _ => true | .int _, .non => true | .non, .bl _ => true | .bl _, .non => true | .non, .str _ => true | .str _, .non => true
  | .int _, .int _ => true | .bl _, .bl _ => true | .str _, .str _ => true | .byt _, .byt _ => true
  | .int _, .str _ => true | .str _, .int _ => true | .bl _, .str _ => true | .str _, .bl _ => true
  | _, _ => false
def rEq : R2 := fun x y H Q => scal x y = true ∧ Q (.bl (decide (x = y))) H
def rNe : R2 := fun x y H Q => scal x y = true ∧ Q (.bl (!decide (x = y))) H
theorem dec_int {i j : Int} : decide (V.int i = V.int j) = (i == j) := by
  rw [Bool.eq_iff_iff]
  simp
theorem dec_bl {i j : Bool} : decide (V.bl i = V.bl j) = (i == j) := by
  rw [Bool.eq_iff_iff]
  simp
theorem dec_str {i j : Str} : decide (V.str i = V.str j) = (i == j) := by
  rw [Bool.eq_iff_iff]
  simp
theorem dec_byt {i j : Array UInt8} : decide (V.byt i = V.byt j) = (i.toList == j.toList) := by
  rw [Bool.eq_iff_iff]
  cases i
  cases j
  simp
section
variable {X : Cx} {a b c : Expr} {ta tb tc : TE} {pos : Pos}
theorem fin_bl {pins : List (Addr × Obj)} {σ : St} {H : Hp} {s : Shared} {Q : VK} {k k' : Bool} (I : Inv X pins σ H s) (q : Q (.bl k) H) (e : k = k') : EP X pins σ Q (.bool k') s := by
  subst e
  exact ⟨.bl k, H, I, rfl, q⟩
theorem op_eq : OpR X (compareOp .Eq) rEq := by
  intro pins s σ H x y v u Q I rx ry h
  obtain ⟨hs, q⟩ := h
  cases x with
  | non =>
    cases rx
    cases y with
    | non => cases ry; exact PySem.EqNone.eq_none_none (fin_bl I q (by simp))
    | bl j => cases ry; exact PySem.EqNone.eq_none_bool (fin_bl I q (by simp))
    | int j => obtain ⟨t', rfl⟩ := ry; exact PySem.EqNone.eq_none_int (fin_bl I q (by simp))
    | str j => obtain ⟨t', rfl⟩ := ry; exact PySem.EqNone.eq_none_str (fin_bl I q (by simp))
    | _ => exact absurd (show false = true from hs) Bool.false_ne_true
  | bl i =>
    cases rx
    cases y with
    | non => cases ry; exact PySem.EqNone.eq_bool_none (fin_bl I q (by simp))
    | bl j => cases ry; exact eq_bool (fin_bl I q dec_bl)
    | str j => obtain ⟨t', rfl⟩ := ry; exact PySem.EqMixed.eq_bool_str (fin_bl I q (by simp))
    | _ => exact absurd (show false = true from hs) Bool.false_ne_true
  | int i =>
    obtain ⟨t, rfl⟩ := rx
    cases y with
    | non => cases ry; exact PySem.EqNone.eq_int_none (fin_bl I q (by simp))
    | int j => obtain ⟨t', rfl⟩ := ry; exact eq_int (fin_bl I q dec_int)
    | str j => obtain ⟨t', rfl⟩ := ry; exact PySem.EqMixed.eq_int_str (fin_bl I q (by simp))
    | _ => exact absurd (show false = true from hs) Bool.false_ne_true
  | str i =>
    obtain ⟨t, rfl⟩ := rx
    cases y with
    | non => cases ry; exact PySem.EqNone.eq_str_none (fin_bl I q (by simp))
    | bl j => cases ry; exact PySem.EqMixed.eq_str_bool (fin_bl I q (by simp))
    | int j => obtain ⟨t', rfl⟩ := ry; exact PySem.EqMixed.eq_str_int (fin_bl I q (by simp))
    | str j => obtain ⟨t', rfl⟩ := ry; exact eq_str (fin_bl I q dec_str)
    | _ => exact absurd (show false = true from hs) Bool.false_ne_true
  | byt i =>
    obtain ⟨t, rfl⟩ := rx
    cases y with
    | byt j => obtain ⟨t', rfl⟩ := ry; exact PySem.W.eq_bytes (fin_bl I q dec_byt)
    | _ => exact absurd (show false = true from hs) Bool.false_ne_true
  | _ => cases y <;> exact absurd (show false = true from hs) Bool.false_ne_true
theorem op_ne : OpR X (compareOp .NotEq) rNe := by
  intro pins s σ H x y v u Q I rx ry h
  obtain ⟨hs, q⟩ := h
  cases x with
  | non =>
    cases rx
    cases y with
    | non => cases ry; exact PySem.EqNone.ne_none_none (fin_bl I q (by simp))
    | bl j => cases ry; exact PySem.EqNone.ne_none_bool (fin_bl I q (by simp))
    | int j => obtain ⟨t', rfl⟩ := ry; exact PySem.EqNone.ne_none_int (fin_bl I q (by simp))
    | str j => obtain ⟨t', rfl⟩ := ry; exact PySem.EqNone.ne_none_str (fin_bl I q (by simp))
    | _ => exact absurd (show false = true from hs) Bool.false_ne_true
  | bl i =>
    cases rx
    cases y with
    | non => cases ry; exact PySem.EqNone.ne_bool_none (fin_bl I q (by simp))
    | bl j => cases ry; exact ne_bool (fin_bl I q (congrArg not dec_bl))
    | str j => obtain ⟨t', rfl⟩ := ry; exact PySem.EqMixed.ne_bool_str (fin_bl I q (by simp))
    | _ => exact absurd (show false = true from hs) Bool.false_ne_true
  | int i =>
    obtain ⟨t, rfl⟩ := rx
    cases y with
    | non => cases ry; exact PySem.EqNone.ne_int_none (fin_bl I q (by simp))
    | int j => obtain ⟨t', rfl⟩ := ry; exact ne_int (fin_bl I q (congrArg not dec_int))
    | str j => obtain ⟨t', rfl⟩ := ry; exact PySem.EqMixed.ne_int_str (fin_bl I q (by simp))
    | _ => exact absurd (show false = true from hs) Bool.false_ne_true
  | str i =>
    obtain ⟨t, rfl⟩ := rx
    cases y with
    | non => cases ry; exact PySem.EqNone.ne_str_none (fin_bl I q (by simp))
    | bl j => cases ry; exact PySem.EqMixed.ne_str_bool (fin_bl I q (by simp))
    | int j => obtain ⟨t', rfl⟩ := ry; exact PySem.EqMixed.ne_str_int (fin_bl I q (by simp))
    | str j => obtain ⟨t', rfl⟩ := ry; exact ne_str (fin_bl I q (congrArg not dec_str))
    | _ => exact absurd (show false = true from hs) Bool.false_ne_true
  | byt i =>
    obtain ⟨t, rfl⟩ := rx
    cases y with
    | byt j => obtain ⟨t', rfl⟩ := ry; exact PySem.W.ne_bytes (fin_bl I q (congrArg not dec_byt))
    | _ => exact absurd (show false = true from hs) Bool.false_ne_true
  | _ => cases y <;> exact absurd (show false = true from hs) Bool.false_ne_true
theorem op_le : OpR X (compareOp .LtE) (rI0 fun i j => .bl (decide (i ≤ j))) := opB0 fun _ _ _ _ _ _ _ q => le_int q
theorem op_gt : OpR X (compareOp .Gt) (rI0 fun i j => .bl (decide (j < i))) := opB0 fun _ _ _ _ _ _ _ q => gt_int q
def isObj : HO → Bool
  | .lst _ => true
  | .ins _ _ _ => true
  | _ => false
theorem nomark (b : Expr) {op : CmpOp} (h : op ≠ .In := by decide) (h2 : op ≠ .NotIn := by decide) : behindInMarks op b = false := by
  have e1 : (op == CmpOp.In) = false := by cases op <;> first | rfl | exact absurd rfl h
  have e2 : (op == CmpOp.NotIn) = false := by cases op <;> first | rfl | exact absurd rfl h2
  cases b <;> simp [behindInMarks, e1, e2]
def tTest (t : TE) : TT := fun σ H Q => t σ H fun x H' => ∃ k, x = .bl k ∧ Q k H'
theorem pt_cmpR {op : CmpOp} {r : R2} (ho : OpR X (compareOp op) r) (ha : PE X a ta) (hb : PE X b tb) (hm : behindInMarks op b = false) : PT X (.Compare a [op] [b] pos) (tTest (tOp r ta tb)) := by
  intro pins s σ H Q I h
  refine wpAny_isTrue_Compare1 (thn (ha pins s σ H _ I h) fun v s1 ⟨x, H1, I1, r1, q1⟩ => thn (hb pins s1 σ H1 _ I1 q1) fun u s2 ⟨y, H2, I2, r2, q2⟩ =>
    thn (ho pins s2 σ H2 x y v u _ I2 r1 r2 q2) fun c s3 ⟨z, H3, I3, r3, k, e, q3⟩ => ?_) hm
  subst e
  cases r3
  exact wpAny_truthy_bool ⟨H3, I3, q3⟩
def tChain (r r' : R2) (ta tb tc : TE) : TE := fun σ H Q => ta σ H fun x H1 => tb σ H1 fun y H2 => r x y H2 fun z H3 => ∃ k, z = .bl k ∧
  (if k = true then tc σ H3 fun w' H4 => r' y w' H4 Q else Q (.bl false) H3)
def TruV (K : PySem.W.Frag) (x : V) (H : Hp) (k : Bool) : Prop :=
  match x with
  | .non => k = false
  | .bl b => k = b
  | .int i => k = (i != 0)
  | .str y => y.length ≤ sizeLine ∧ k = ((y.length : Int) != 0)
  | .byt y => y.size ≤ sizeLine ∧ k = ((y.size : Int) != 0)
  | .ref p => (∃ xs, SqL K H p xs ∧ k = !xs.isEmpty) ∨ (∃ xs, SqT K H p xs ∧ k = !xs.isEmpty) ∨ ∃ kvs, H p = some (.dK kvs) ∧ k = !kvs.isEmpty
  | _ => False
theorem line63 : (sizeLine : Nat) < 2 ^ 63 := by rw [sizeLine_eq]; decide
def PlainIxT (b : Expr) : Prop := ∀ o i, subscripted b false o i = operate [o, i] (getItem o i)
theorem vals1 {x : V} {us : List Value} (r : Vals [x] us) : ∃ u, us = [u] ∧ RelV x u := by
  cases r with
  | cons r1 r2 => cases r2; exact ⟨_, rfl, r1⟩
theorem vals2 {x y : V} {us : List Value} (r : Vals [x, y] us) : ∃ u w', us = [u, w'] ∧ RelV x u ∧ RelV y w' := by
  cases r with
  | cons r1 r2 =>
    cases r2 with
    | cons r3 r4 => cases r4; exact ⟨_, _, rfl, r1, r3⟩
theorem call_max2 (hc : X.calm = true) : CallR X (.builtin "max") (fun xs H Q => ∃ i j, xs = [.int i, .int j] ∧ Q (.int (if j > i then j else i)) H) := by
  intro pins s σ H xs us Q I r h
  obtain ⟨i, j, rfl, q⟩ := h
  obtain ⟨u, w', rfl, ⟨t, rfl⟩, ⟨t', rfl⟩⟩ := vals2 r
  refine max_two_ints (I.ok.hd hc) fun h' tk k => ⟨_, H, I.kept k, ?_, q⟩
  by_cases hj : j > i
  · rw [if_pos hj, if_pos hj]; exact ⟨_, rfl⟩
  · rw [if_neg hj, if_neg hj]; exact ⟨_, rfl⟩
theorem call_min2 (hc : X.calm = true) : CallR X (.builtin "min") (fun xs H Q => ∃ i j, xs = [.int i, .int j] ∧ Q (.int (if j < i then j else i)) H) := by
  intro pins s σ H xs us Q I r h
  obtain ⟨i, j, rfl, q⟩ := h
  obtain ⟨u, w', rfl, ⟨t, rfl⟩, ⟨t', rfl⟩⟩ := vals2 r
  refine min_two_ints (I.ok.hd hc) fun h' tk k => ⟨_, H, I.kept k, ?_, q⟩
  by_cases hj : j < i
  · rw [if_pos hj, if_pos hj]; exact ⟨_, rfl⟩
  · rw [if_neg hj, if_neg hj]; exact ⟨_, rfl⟩
def LenV (K : PySem.W.Frag) (x : V) (H : Hp) (n : Nat) : Prop :=
  match x with
  | .str y => y.length ≤ sizeLine ∧ n = y.length
  | .byt y => y.size ≤ sizeLine ∧ n = y.size
  | .ref p => (∃ xs, SqL K H p xs ∧ n = xs.length) ∨ ∃ xs, SqT K H p xs ∧ n = xs.length
  | _ => False
end
end L2
namespace L2
open PySem PySem.Spec PyProof.Rows
structure ObjM (h : Heap) (x dx C : Addr) (mA : Str → Option Value) : Prop where
  obj : h.get? x = some (PySem.W.instObj C dx)
  ns : h.Ns1 dx mA
  ne : dx ≠ x
theorem lookIn_ns {h : Heap} {dx : Addr} {mA : Str → Option Value} (n : h.Ns1 dx mA) : ∃ od, h.get? dx = some od ∧ ∀ name, PySem.W.lookIn name od = some (mA name) := by
  obtain ⟨o, es, ep, ho, hd, hk, _, hm⟩ := n
  refine ⟨o, ho, fun name => ?_⟩
  have e := hm name
  unfold nsFind findBy at e
  rw [← Array.find?_toList] at e
  unfold PySem.W.lookIn
  rw [hd]
  dsimp only
  split
  · rename_i y q
    rw [q] at e
    exact congrArg some e
  · rename_i q
    rw [q] at e
    have a : es.toList.any (·.refKey) = false := by
      rw [List.any_eq_false]
      intro y hy
      obtain ⟨z, t, hkey⟩ := hk y (Array.mem_toList_iff.mp hy)
      simp [DictEntry.refKey, hkey]
    have a' : ¬ es.toList.any (·.refKey) = true := by rw [a]; exact Bool.false_ne_true
    rw [if_neg a']
    exact congrArg some e
theorem ObjM.look {h : Heap} {x dx C : Addr} {mA : Str → Option Value} (I : ObjM h x dx C mA) : ∃ od, PySem.W.InstAt h x (PySem.W.instObj C dx) C (some od) ∧ ∀ name, PySem.W.lookIn name od = some (mA name) :=
  let ⟨od, ho, hl⟩ := lookIn_ns I.ns
  ⟨od, ⟨I.obj, rfl, rfl, ho⟩, hl⟩
section
variable {prog : Program} {w : World} {A : Around} {E : Value → Shared → Prop} {s : Shared} {K : PySem.W.Frag} {x dx C f : Addr} {mA : Str → Option Value} {name : Str} {v : Value}
theorem get_map {expr : Bool} {Q : Value → Shared → Prop} (X : K.In s.heap) (I : ObjM s.heap x dx C mA) (hg : PySem.W.plainGet K C name = true) (hh : PySem.W.hasDictIn K C = true)
    (ha : PySem.W.findIn K (.ref C) name = some none) (hv : mA name = some v) (hv' : PySem.W.handedIn v = true) (h : Q v { s with toks := s.toks + 1 }) :
    wpAny (model prog w) A (getAttr (.ref x) name expr) Q E s := by
  obtain ⟨od, J, hl⟩ := I.look
  exact PySem.W.get_value X J (PySem.W.plainGet_of hg).1 (PySem.W.findObj_own hh ha rfl (by rw [hl, hv])) hv' h
theorem get_meth {pl : Sem Bool} {Q : Value × List Value → Shared → Prop} (X : K.In s.heap) (I : ObjM s.heap x dx C mA) (hg : PySem.W.plainGet K C name = true)
    (hf : PySem.W.findIn K (.ref C) name = some (some (.ref f))) (ht : PySem.W.isFn K (.ref f) = true) (hv : mA name = none) (h : Q (.ref f, [.ref x]) s) :
    wpAny (model prog w) A (getMethod (.ref x) name pl) Q E s := by
  obtain ⟨od, J, hl⟩ := I.look
  exact PySem.W.method_fn X J (PySem.W.plainGet_of hg).1 (PySem.W.plainGet_of hg).2 hf (beq_iff_eq.mp ht) (by show (PySem.W.lookIn name od).map (·.isSome) = some false; rw [hl, hv]; rfl) h
theorem set_map {ns : List Str} {Q : Unit → Shared → Prop} (X : K.In s.heap) (I : ObjM s.heap x dx C mA)
    (hs : PySem.W.findIn K (.ref C) "__setattr__" = some (some (.builtin "object.__setattr__"))) (hp : PySem.W.plainOver K C = true) (ht : PySem.W.takerIn K C name = some none) (hh : PySem.W.hasDictIn K C = true)
    (hw : PySem.Within mA ns) (hsz : ns.length ≤ sizeLine)
    (h : ∀ h', ObjM h' x dx C (fun y => if y = name then some v else mA y) → Heap.SameBut dx s.heap h' → Q () { s with heap := h', toks := s.toks + 2 }) :
    wpAny (model prog w) A (setAttr (.ref x) name v) Q E s := by
  obtain ⟨od, J, hl⟩ := I.look
  refine PySem.W.set_plain X J hs (PySem.W.osa_open (s := { s with toks := s.toks + 1 }) (r := none) X J hp ht fun b => ?_)
  obtain ⟨cd, hc, hd'⟩ := PySem.W.any_some hh
  have hx : s.heap.get? x = some ⟨.ref C, some dx, .plain, #[]⟩ := I.obj
  refine wpAny_bind (wpAny_pure (wpAny_bind (wpAny_bind (wpAny_loadPart hx (wpAny_bind (PySem.W.Looks.here (s := { s with toks := s.toks + 1 }) (PySem.W.looks_clsIn X hc) ?_))))))
  rw [hd']
  refine wpAny_pure (a := some dx) (wpAny_bind (wpAny_pure (wpAny_bind ?_)))
  refine wpAny_nsSet1 (s := { s with toks := s.toks + 1 }) I.ns fun h' hn2 hs2 => ?_
  obtain ⟨oD, esD, epD, hoD, hdD, hcD⟩ := hn2.count (PySem.Within.cons name v hw)
  refine wpAny_bind (wpAny_lookBehind hoD (by rw [hdD]; exact pastItsLine_dict (Nat.le_trans hcD (by rw [List.length_cons]; omega))) ?_)
  exact wpAny_pure (h _ ⟨(hs2.2 _ (Ne.symm I.ne)).trans I.obj, hn2, I.ne⟩ hs2)
theorem make_map {R : Result → Shared → Prop} {vs : List Value} {kw : List (Str × Value)} (X : K.In s.heap) (hm : PySem.W.makesIn K C = true)
    (hi : PySem.W.findIn K (.ref C) "__init__" = some (some (.ref f))) (hf : PySem.W.typeIn K (.ref f) = some (.type "function"))
    (h : codeAny (model prog w) (A.under (.builtin "type.__call__" ⟨.ref C :: vs, kw⟩)) (.call (.ref f) ⟨.ref (s.heap.objs.size + 1) :: vs, kw⟩) (PySem.W.InitBack (s.heap.objs.size + 1) R)
      { s with heap := (s.heap.push PySem.W.emptyDict).push (PySem.W.instObj C s.heap.objs.size) }) :
    codeAny (model prog w) A (.call (.ref C) ⟨vs, kw⟩) R s := by
  obtain ⟨hh, g, d, t, os⟩ := s
  exact PySem.W.make_core (PySem.W.makes_of X hm) (PySem.W.looks_findIn X hi) (fun self => PySem.W.bind_fn X self hf) (.inl rfl) h
end
def putF (f : Str) (v : V) : List (Str × V) → List (Str × V)
  | [] => [(f, v)]
  | (g, x) :: r => if g = f then (g, v) :: r else (g, x) :: putF f v r
theorem lookup_putF (f g : Str) (v : V) : ∀ fs : List (Str × V), (putF f v fs).lookup g = if g = f then some v else fs.lookup g
  | [] => by
    show List.lookup g [(f, v)] = _
    by_cases h : g = f
    · have hb : (g == f) = true := beq_iff_eq.mpr h
      simp only [List.lookup, hb, if_pos h]
    · have hb : (g == f) = false := beq_eq_false_iff_ne.mpr h
      simp only [List.lookup, hb, if_neg h]
  | (k, x) :: r => by
    have ih := lookup_putF f g v r
    rw [show putF f v ((k, x) :: r) = (if k = f then (k, v) :: r else (k, x) :: putF f v r) from rfl]
    by_cases hk : k = f
    · rw [if_pos hk]
      by_cases h : g = k
      · have hb : (g == k) = true := beq_iff_eq.mpr h
        simp only [List.lookup, hb, if_pos (h.trans hk)]
      · have hb : (g == k) = false := beq_eq_false_iff_ne.mpr h
        simp only [List.lookup, hb, if_neg (fun e : g = f => h (e.trans hk.symm))]
    · rw [if_neg hk]
      by_cases h : g = k
      · have hb : (g == k) = true := beq_iff_eq.mpr h
        simp only [List.lookup, hb, if_neg (fun e : g = f => hk (h.symm.trans e))]
      · have hb : (g == k) = false := beq_eq_false_iff_ne.mpr h
        simp only [List.lookup, hb]
        exact ih
theorem keys_putF (f : Str) (v : V) : ∀ fs : List (Str × V), f ∈ (putF f v fs).map (·.1) ∧ ∀ g, g ∈ fs.map (·.1) → g ∈ (putF f v fs).map (·.1)
  | [] => ⟨by simp [putF], fun g h => by simp at h⟩
  | (k, x) :: r => by
    obtain ⟨i1, i2⟩ := keys_putF f v r
    rw [show putF f v ((k, x) :: r) = (if k = f then (k, v) :: r else (k, x) :: putF f v r) from rfl]
    by_cases hk : k = f
    · rw [if_pos hk]
      subst hk
      exact ⟨by simp, fun g h => by simpa using h⟩
    · rw [if_neg hk]
      refine ⟨?_, fun g h => ?_⟩
      · rw [List.map_cons]
        exact List.mem_cons_of_mem _ i1
      · rw [List.map_cons] at h ⊢
        rcases List.mem_cons.mp h with e | e
        · exact List.mem_cons.mpr (.inl e)
        · exact List.mem_cons_of_mem _ (i2 g e)
theorem length_putF (f : Str) (v : V) : ∀ fs : List (Str × V), (putF f v fs).length ≤ fs.length + 1
  | [] => by simp [putF]
  | (k, x) :: r => by
    have ih := length_putF f v r
    rw [show putF f v ((k, x) :: r) = (if k = f then (k, v) :: r else (k, x) :: putF f v r) from rfl]
    by_cases hk : k = f
    · rw [if_pos hk, List.length_cons, List.length_cons]; omega
    · rw [if_neg hk, List.length_cons, List.length_cons]; omega
theorem RelO.some_of {v : V} {o : Option Value} (r : RelO (some v) o) : ∃ u, o = some u ∧ RelV v u := by
  cases o with
  | none => exact (show False from r).elim
  | some u => exact ⟨u, rfl, r⟩
theorem RelO.none_of {o : Option Value} (r : RelO none o) : o = none := by
  cases o with
  | none => rfl
  | some u => exact (show False from r).elim
theorem handed_of {v : V} {u : Value} (r : RelV v u) : PySem.W.handedIn u = true := by
  cases v with
  | non => cases (show u = Value.none from r); rfl
  | bl b => cases (show u = Value.bool b from r); rfl
  | int i => obtain ⟨t, e⟩ := (show ∃ t, u = Value.int i t from r); cases e; rfl
  | str x => obtain ⟨t, e⟩ := (show ∃ t, u = Value.str x t from r); cases e; rfl
  | byt b => obtain ⟨t, e⟩ := (show ∃ t, u = Value.bytes b t from r); cases e; rfl
  | flt b => obtain ⟨t, e⟩ := (show ∃ t, u = Value.float b t from r); cases e; rfl
  | ref a => cases (show u = Value.ref a from r); rfl
  | ty n => cases (show u = Value.type n from r); rfl
section
variable {P : Program} {w : World} {H H' : Hp} {h h' : Heap} {a C dx : Addr} {fs fs' : List (Str × V)}
theorem ins_get (hok : HOk P w H h) (e : H a = some (.ins C dx fs)) : ∃ mA, ObjM h a dx C mA ∧ (∀ f, RelO (fs.lookup f) (mA f)) ∧ PySem.Within mA (fs.map (·.1)) ∧ fs.length ≤ 1000 ∧ H dx = some (.own a) := by
  obtain ⟨d, z, ne, ob, mA, n, r, q⟩ := (show ObjOk P w H h a (.ins C dx fs) from hok a _ e)
  exact ⟨mA, ⟨ob, n, ne⟩, r, q, z, d⟩
end
structure Cls (K : PySem.W.Frag) (C : Addr) : Prop where
  pg : PySem.W.plainGet K C Str.empty = true
  hd : PySem.W.hasDictIn K C = true
  po : PySem.W.plainOver K C = true
  sa : PySem.W.findIn K (.ref C) "__setattr__" = some (some (.builtin "object.__setattr__"))
theorem Cls.get {K : PySem.W.Frag} {C : Addr} (c : Cls K C) (f : Str) : PySem.W.plainGet K C f = true := c.pg
def NoAttr (K : PySem.W.Frag) (C : Addr) (f : Str) : Prop := PySem.W.findIn K (.ref C) f = some none
theorem NoAttr.taker {K : PySem.W.Frag} {C : Addr} {f : Str} (n : NoAttr K C f) : PySem.W.takerIn K C f = some none := by
  unfold PySem.W.takerIn
  rw [show PySem.W.findIn K (.ref C) f = some none from n]
  rfl
structure Con (K : PySem.W.Frag) (C : Addr) (f : Str) (v : V) (u : Value) : Prop where
  at_ : PySem.W.findIn K (.ref C) f = some (some u)
  rel : RelV v u
  get : PySem.W.specialIn K u "__get__" = some none
  cp : PySem.W.copiedNames.contains f = false
structure Meth (K : PySem.W.Frag) (C : Addr) (m : Str) (f : Addr) : Prop where
  at_ : PySem.W.findIn K (.ref C) m = some (some (.ref f))
  fn : PySem.W.isFn K (.ref f) = true
  kp : PySem.W.keepIn K (.ref f) = true
section
variable {X : Cx} {pins : List (Addr × Obj)} {σ : St} {H : Hp} {s : Shared} {a C dx : Addr} {fs : List (Str × V)} {f : Str} {v : V} {A : Around} {E : Value → Shared → Prop}
theorem getattr_ok {b : Bool} {Q : Value → Shared → Prop} (I : Inv X pins σ H s) (e : H a = some (.ins C dx fs)) (c : Cls X.K C) (n : NoAttr X.K C f) (l : fs.lookup f = some v)
    (h : ∀ u s', Inv X pins σ H s' → RelV v u → Q u s') : wpAny (model X.prog X.w) A (getAttr (.ref a) f b) Q E s := by
  obtain ⟨mA, O, r, _, _, _⟩ := ins_get I.hok e
  obtain ⟨u, hu, ru⟩ := RelO.some_of (v := v) (o := mA f) (by rw [← l]; exact r f)
  exact get_map I.kIn O (c.get f) c.hd n hu (handed_of ru) (h u _ (I.tok _) ru)
theorem getmeth_ok {m : Str} {g : Addr} {pl : Sem Bool} {Q : Value × List Value → Shared → Prop} (I : Inv X pins σ H s) (e : H a = some (.ins C dx fs)) (c : Cls X.K C) (k : Meth X.K C m g) (l : fs.lookup m = none)
    (h : Q (.ref g, [.ref a]) s) : wpAny (model X.prog X.w) A (getMethod (.ref a) m pl) Q E s := by
  obtain ⟨mA, O, r, _, _, _⟩ := ins_get I.hok e
  have hn : mA m = none := RelO.none_of (by rw [← l]; exact r m)
  exact get_meth I.kIn O (c.get m) k.at_ k.fn hn h
theorem setattr_ok {y : V} {u : Value} {Q : Unit → Shared → Prop} (I : Inv X pins σ H s) (e : H a = some (.ins C dx fs)) (c : Cls X.K C) (n : NoAttr X.K C f) (hl : fs.length < 1000) (ry : RelV y u)
    (h : ∀ s', Inv X pins σ (upd H a (.ins C dx (putF f y fs))) s' → Q () s') : wpAny (model X.prog X.w) A (setAttr (.ref a) f u) Q E s := by
  obtain ⟨mA, O, r, wi, _, ho⟩ := ins_get I.hok e
  have hz : (fs.map (·.1)).length ≤ sizeLine := by rw [List.length_map, sizeLine_eq]; omega
  refine set_map I.kIn O c.sa c.po n.taker c.hd wi hz fun h' O' sb => h _ ?_
  have hd : ∃ o, h'.get? dx = some o := let ⟨o, _, _, e', _⟩ := O'.ns; ⟨o, e'⟩
  refine I.write (x := a) (e := dx) (by rw [e]; exact True.intro) (.inr ho) (fun b q hb z => (sb.2 b hb).trans z) hd ?_
  refine ⟨by rw [upd_ne O.ne]; exact ho, ?_, O.ne, O'.obj, _, O'.ns, fun g => ?_, fun g hg => ?_⟩
  · have := length_putF f y fs; omega
  · show RelO ((putF f y fs).lookup g) (if g = f then some u else mA g)
    rw [lookup_putF]
    by_cases q : g = f
    · rw [if_pos q, if_pos q]; exact ry
    · rw [if_neg q, if_neg q]; exact r g
  · by_cases q : g = f
    · rw [q]; exact (keys_putF f y fs).1
    · refine (keys_putF f y fs).2 g (wi g fun z => hg ?_)
      show (if g = f then some u else mA g) = none
      rw [if_neg q]; exact z
theorem Inv.made (I : Inv X pins σ H s) : Inv X pins σ (upd (upd H s.heap.objs.size (.own (s.heap.objs.size + 1))) (s.heap.objs.size + 1) (.ins C s.heap.objs.size []))
    { s with heap := (s.heap.push PySem.W.emptyDict).push (PySem.W.instObj C s.heap.objs.size) } := by
  have e1 : (s.heap.push PySem.W.emptyDict).get? s.heap.objs.size = some PySem.W.emptyDict := Heap.get?_push_size s.heap rfl
  have e2 : ((s.heap.push PySem.W.emptyDict).push (PySem.W.instObj C s.heap.objs.size)).get? (s.heap.objs.size + 1) = some (PySem.W.instObj C s.heap.objs.size) := by
    have := Heap.get?_push_size (s.heap.push PySem.W.emptyDict) (o := PySem.W.instObj C s.heap.objs.size) rfl
    rwa [Heap.size_push] at this
  have e3 : (s.heap.push PySem.W.emptyDict).Ns s.heap.objs.size (fun _ => none) := ⟨PySem.W.emptyDict, #[], _, e1, rfl, (fun e he => absurd he (by simp)), fun _ => rfl⟩
  have I1 := I.laid (a := s.heap.objs.size) (o := .own (s.heap.objs.size + 1)) (h' := s.heap.push PySem.W.emptyDict) (t' := s.toks) (fun b u q => Heap.get?_push_of_some _ q) (Nat.le_refl _) ⟨_, e1⟩
  refine I1.laid (a := s.heap.objs.size + 1) (o := .ins C s.heap.objs.size []) (t' := s.toks) (fun b u q => Heap.get?_push_of_some _ q) (Nat.le_of_eq (Heap.size_push _ _)) ?_
  have ne : s.heap.objs.size ≠ s.heap.objs.size + 1 := Nat.ne_of_lt (Nat.lt_succ_self _)
  refine ⟨by rw [upd_ne ne, upd_same], Nat.zero_le _, ne, e2, fun _ => none, (Heap.Ns1.of_empty e3).at fun o q => Heap.get?_push_of_some _ q, fun _ => True.intro, fun y hy => absurd rfl hy⟩
theorem attr_of {prog : Program} {w : World} {env : Env} {e : Expr} {f : Str} {pos : Pos} {s : Shared} {Q : Value → Shared → Prop} (hb : attributeBase e f env (eval e env) = eval e env)
    (h : wpAny (model prog w) A (eval e env) (fun o s₁ => wpAny (model prog w) A (getAttr o f true) Q E s₁) E s) : wpAny (model prog w) A (eval (.Attribute e f pos) env) Q E s :=
  Attribute_any_ h (by rw [arm_eval_Attribute, hb])
end
def tFld (K : PySem.W.Frag) (ta : TE) (f : Str) : TE := fun σ H Q => ta σ H fun x H1 => ∃ a C dx fs v, x = .ref a ∧ H1 a = some (.ins C dx fs) ∧ Cls K C ∧ NoAttr K C f ∧ fs.lookup f = some v ∧ Q v H1
def tCon (K : PySem.W.Frag) (ta : TE) (f : Str) : TE := fun σ H Q => ta σ H fun x H1 => ∃ a C dx fs v u, x = .ref a ∧ H1 a = some (.ins C dx fs) ∧ Cls K C ∧ Con K C f v u ∧ fs.lookup f = none ∧ Q v H1
def sFld (K : PySem.W.Frag) (ta tv : TE) (f : Str) : TS := fun D σ H => tv σ H fun y H1 => ta σ H1 fun x H2 => ∃ a C dx fs, x = .ref a ∧ H2 a = some (.ins C dx fs) ∧ Cls K C ∧ NoAttr K C f ∧ fs.length < 1000 ∧
  D.nx σ (upd H2 a (.ins C dx (putF f y fs)))
def InOp (X : Cx) (op : Operator) (rd : V → V → Hp → VK → Prop) : Prop :=
  ∀ (pins : List (Addr × Obj)) (s : Shared) (σ : St) (H : Hp) (x y : V) (u v : Value) (Q : VK), Inv X pins σ H s → RelV x u → RelV y v → rd x y H Q → wpAny (model X.prog X.w) X.A (inplaceOp op u v) (EP X pins σ Q) X.xe s
def sFldAug (K : PySem.W.Frag) (ta tv : TE) (rd : V → V → Hp → VK → Prop) (f : Str) : TS := fun D σ H => ta σ H fun x H1 => ∃ a C dx fs v, x = .ref a ∧ H1 a = some (.ins C dx fs) ∧ Cls K C ∧ NoAttr K C f ∧ fs.lookup f = some v ∧
  tv σ H1 fun y H2 => rd v y H2 fun z H3 => ∃ dx' fs', H3 a = some (.ins C dx' fs') ∧ fs'.length < 1000 ∧ D.nx σ (upd H3 a (.ins C dx' (putF f z fs')))
section
variable {X : Cx} {o e value : Expr} {f : Str} {pos pos' tpos : Pos} {ta tv : TE}
theorem pe_fld (he : PE X e ta) (hb : attributeBase e f X.env (eval e X.env) = eval e X.env) : PE X (.Attribute e f pos) (tFld X.K ta f) := by
  intro pins s σ H Q I h
  refine attr_of hb (thn (he pins s σ H _ I h) fun u s1 ⟨x, H1, I1, rx, a, C, dx, fs, v, ex, ea, c, n, l, q⟩ => ?_)
  subst ex
  obtain rfl : u = Value.ref a := rx
  exact getattr_ok I1 ea c n l fun u' s2 I2 ru => ⟨v, H1, I2, ru, q⟩
theorem ps_fld (ha : PE X o ta) (hv : PE X value tv) (hs : swapsWith value (some (.Attribute o f pos')) pos.line X.env = pure false) : PS X (.Assign [.Attribute o f pos'] value pos) (sFld X.K ta tv f) := by
  intro pins s σ H D I h
  refine plainObj_wpAny_Assign_Attribute (thn (hv pins s σ H _ I h) fun u s1 ⟨y, H1, I1, ry, q⟩ => thn (ha pins s1 σ H1 _ I1 q) fun ov s2 ⟨x, H2, I2, rx, a, C, dx, fs, ex, ea, c, n, l, q2⟩ => ?_) hs
  subst ex
  obtain rfl : ov = Value.ref a := rx
  exact setattr_ok I2 ea c n l ry fun s3 I3 => ⟨σ, _, I3, q2⟩
def rAdd : V → V → Hp → VK → Prop := fun x y H Q => ∃ i j, x = .int i ∧ y = .int j ∧ Q (.int (i + j)) H
def rSub : V → V → Hp → VK → Prop := fun x y H Q => ∃ i j, x = .int i ∧ y = .int j ∧ Q (.int (i - j)) H
end
section
variable {X : Cx} {pins : List (Addr × Obj)} {σ : St} {H : Hp} {s : Shared} {A : Around} {E : Value → Shared → Prop} {Q : Value → Shared → Prop} {c : Value} {b : Bool}
inductive TyOf (K : PySem.W.Frag) (H : Hp) : V → Value → Prop where
  | non : TyOf K H .non (.type "NoneType")
  | bl (x : Bool) : TyOf K H (.bl x) (.type "bool")
  | int (i : Int) : TyOf K H (.int i) (.type "int")
  | str (x : Str) : TyOf K H (.str x) (.type "str")
  | flt (x : UInt64) : TyOf K H (.flt x) (.type "float")
  | lst {a : Addr} {xs : List V} (e : H a = some (.lst xs)) : TyOf K H (.ref a) (.type "list")
  | frz {a : Addr} {o : Obj} {xs : List V} (e : H a = some (.frz o (.lst xs))) : TyOf K H (.ref a) (.type "list")
  | tup {a : Addr} {xs : List V} (e : H a = some (.tup xs)) : TyOf K H (.ref a) (.type "tuple")
  | dK {a : Addr} {kvs : List (Key × V)} (e : H a = some (.dK kvs)) : TyOf K H (.ref a) (.type "dict")
  | dT {a : Addr} {kvs : List (List Key × V)} (e : H a = some (.dT kvs)) : TyOf K H (.ref a) (.type "dict")
  | ins {a C dx : Addr} {fs : List (Str × V)} (e : H a = some (.ins C dx fs)) (cl : Cls K C) (ha : PySem.W.findIn K (.ref C) "__class__" = some (some (.builtin "object.__class__")))
      (hn : PySem.W.specialIn K (.builtin "object.__class__") "__get__" = some (some (.builtin "getset_descriptor.__get__"))) (htk : PySem.W.takesIn K (.builtin "object.__class__") = some true)
      (hm : PySem.W.mroIn K C (.type "object") = some true) : TyOf K H (.ref a) (.ref C)
theorem isinst_ok {x : V} {u t : Value} (I : Inv X pins σ H s) (rx : RelV x u) (ty : TyOf X.K H x t) (e : PySem.W.kitOne X.K t c = some b) (h : ∀ tk, Q (.bool b) { s with toks := tk }) :
    wpAny (model X.prog X.w) A (call (.builtin "isinstance") [u, c]) Q E s := by
  cases ty with
  | non => cases (show u = Value.none from rx); exact PySem.W.kia_one PySem.W.kitx_none I.kIn True.intro e (fun z => nomatch z) h
  | bl y => cases (show u = Value.bool y from rx); exact PySem.W.kia_one PySem.W.kitx_bool I.kIn True.intro e (fun z => nomatch z) h
  | int i => obtain ⟨t, q⟩ := (show ∃ t, u = Value.int i t from rx); cases q; exact PySem.W.kia_one PySem.W.kitx_int I.kIn True.intro e (fun z => nomatch z) h
  | str y => obtain ⟨t, q⟩ := (show ∃ t, u = Value.str y t from rx); cases q; exact PySem.W.kia_one PySem.W.kitx_str I.kIn True.intro e (fun z => nomatch z) h
  | flt y => obtain ⟨t, q⟩ := (show ∃ t, u = Value.float y t from rx); cases q; exact PySem.W.kia_one PySem.W.kitx_float I.kIn True.intro e (fun z => nomatch z) h
  | @lst a xs ea =>
    cases (show u = Value.ref a from rx)
    obtain ⟨_, _, n, _, h1⟩ := (show ObjOk X.prog X.w H s.heap a (.lst xs) from I.hok a _ ea)
    exact PySem.W.kia_one PySem.W.kitx_list I.kIn ⟨_, h1, rfl⟩ e (fun z => nomatch z) h
  | @frz a ob xs ea =>
    cases (show u = Value.ref a from rx)
    obtain ⟨_, _, _, n, _, h1⟩ := (show ObjOk X.prog X.w H s.heap a (.frz ob (.lst xs)) from I.hok a _ ea)
    exact PySem.W.kia_one PySem.W.kitx_list I.kIn ⟨_, h1, rfl⟩ e (fun z => nomatch z) h
  | @tup a xs ea =>
    cases (show u = Value.ref a from rx)
    obtain ⟨_, _, _, p⟩ := (show ObjOk X.prog X.w H s.heap a (.tup xs) from I.hok a _ ea)
    obtain ⟨o, h1, h2, _⟩ := p
    exact PySem.W.kia_one PySem.W.kitx_tuple I.kIn ⟨o, h1, h2⟩ e (fun z => nomatch z) h
  | @dK a kvs ea =>
    cases (show u = Value.ref a from rx)
    obtain ⟨_, _, vs, _, p⟩ := (show ObjOk X.prog X.w H s.heap a (.dK kvs) from I.hok a _ ea)
    obtain ⟨o, es, ep, h1, h2, _⟩ := p
    exact PySem.W.kia_one PySem.W.kitx_dict I.kIn ⟨o, h1, h2.1⟩ e (fun z => nomatch z) h
  | @dT a kvs ea =>
    cases (show u = Value.ref a from rx)
    obtain ⟨_, _, xs, _, o, es, ep, h1, h2, _⟩ := (show ObjOk X.prog X.w H s.heap a (.dT kvs) from I.hok a _ ea)
    exact PySem.W.kia_one PySem.W.kitx_dict I.kIn ⟨o, h1, h2.1⟩ e (fun z => nomatch z) h
  | @ins a C dx fs ea cl ha hn htk hm =>
    cases (show u = Value.ref a from rx)
    obtain ⟨mA, O, _⟩ := ins_get I.hok ea
    obtain ⟨od, J, _⟩ := O.look
    exact PySem.W.kia_one (PySem.W.kitx_own (cl.get _) cl.hd ha hn htk hm) I.kIn J e (fun z => nomatch z) h
end
end L2
namespace L2
open PySem PySem.Spec PyProof.Rows
structure Room (k : Nat) (A : Around) : Prop where
  hd : A.handled = none
  dp : A.depth + 3 * k + 5 < recursionLimit
  un : A.units + 16 * k + 200 < cLine
theorem Room.mono {j k : Nat} {A : Around} (r : Room k A) (h : j ≤ k) : Room j A := ⟨r.hd, by have := r.dp; omega, by have := r.un; omega⟩
theorem Room.deeper {k : Nat} {A : Around} (r : Room (k + 1) A) (env : Env) : Room k (A.deeper env) :=
  ⟨r.hd, by have := r.dp; show A.depth + 1 + 3 * k + 5 < _; omega, by have := r.un; show A.units + 3 + 16 * k + 200 < _; omega⟩
theorem make_depth {A : Around} {C : Addr} {us : List Value} {kw : List (Str × Value)} : (A.under (.builtin "type.__call__" ⟨.ref C :: us, kw⟩)).depth = A.depth + 1 := by
  first | rfl | simp [Around.under, Code.weight, Code.isCreation, Code.isGuard, Code.isCaller, Code.frames, Code.isFrame, guardIds]
theorem make_units {A : Around} {C : Addr} {us : List Value} {kw : List (Str × Value)} : (A.under (.builtin "type.__call__" ⟨.ref C :: us, kw⟩)).units = A.units + 1 := by
  first | rfl | simp [Around.under, Code.cUnits, Code.frames, Code.isFrame]
theorem Room.make {k : Nat} {A : Around} (r : Room (k + 1) A) (C : Addr) (us : List Value) (kw : List (Str × Value)) : Room k (A.under (.builtin "type.__call__" ⟨.ref C :: us, kw⟩)) :=
  ⟨r.hd, by have := r.dp; rw [make_depth]; omega, by have := r.un; rw [make_units]; omega⟩
theorem Room.depth {k : Nat} {A : Around} (r : Room k A) : A.depth < recursionLimit := by have := r.dp; omega
theorem Room.units {k : Nat} {A : Around} (r : Room k A) : A.units + 64 < cLine := by have := r.un; omega
def tNil : TA := fun _ H Q => Q [] H
def tCons (ta : TE) (tr : TA) : TA := fun σ H Q => ta σ H fun x H1 => tr σ H1 fun xs H2 => Q (x :: xs) H2
section
variable {X : Cx} {e : Expr} {es : List Expr} {te : TE} {t : TA} {pos : Pos}
theorem pa_nil : PA X [] tNil := fun _ _ _ _ H Q I h => Calls.spliced_nil ⟨[], H, I, .nil, h⟩
theorem pa_cons (ha : PE X e te) (hr : PA X es t) (hs : starEach (e :: es) X.env = (false, eval e X.env) :: starEach es X.env := by rfl) : PA X (e :: es) (tCons te t) := by
  intro pos pins s σ H Q I h
  rw [hs]
  show wpAny _ _ (spliced ((false, eval e X.env) :: backTo pos (starEach es X.env))) _ _ s
  refine Calls.spliced_cons (thn (ha pins s σ H _ I h) fun u s1 ⟨x, H1, I1, r1, q1⟩ => ?_)
  exact thn (hr pos pins s1 σ H1 _ I1 q1) fun us s2 ⟨xs, H2, I2, r2, q2⟩ => ⟨x :: xs, H2, I2, .cons r1 r2, q2⟩
def tTup (t : TA) : TE := fun σ H Q => t σ H fun xs H1 => xs.length ≤ sizeLine ∧ ∀ p, H1 p = none → Q (.ref p) (upd H1 p (.tup xs))
def tLst (t : TA) : TE := fun σ H Q => t σ H fun xs H1 => xs.length ≤ sizeLine ∧ ∀ p, H1 p = none → Q (.ref p) (upd H1 p (.lst xs))
theorem pe_tup {x1} (h : PA X es t) : PE X (.Tuple es x1 pos) (tTup t) := by
  intro pins s σ H Q I hq
  refine wpAny_Tuple_spliced (thn (h pos pins s σ H _ I hq) fun us s1 ⟨xs, H1, I1, r, z, q⟩ => ⟨by rw [← r.length]; exact z, ?_⟩)
  have hf : H1 s1.heap.objs.size = none := I1.hok.fresh (Nat.le_refl _)
  refine ⟨.ref s1.heap.objs.size, upd H1 s1.heap.objs.size (.tup xs), I1.laid (t' := s1.toks) (fun b u e => Heap.get?_push_of_some _ e) (Nat.le_refl _) ?_, rfl, q _ hf⟩
  exact ⟨z, us, r, ⟨_, Heap.get?_push_size _ rfl, rfl, _, rfl⟩⟩
theorem pe_lst (h : PA X es t) : PE X (.List es pos) (tLst t) := by
  intro pins s σ H Q I hq
  refine wpAny_List_spliced (thn (h pos pins s σ H _ I hq) fun us s1 ⟨xs, H1, I1, r, z, q⟩ => ⟨by rw [← r.length]; exact z, ?_⟩)
  have hf : H1 s1.heap.objs.size = none := I1.hok.fresh (Nat.le_refl _)
  refine ⟨.ref s1.heap.objs.size, upd H1 s1.heap.objs.size (.lst xs), I1.laid (t' := s1.toks) (fun b u e => Heap.get?_push_of_some _ e) (Nat.le_refl _) ?_, rfl, q _ hf⟩
  exact ⟨z, us, 0, r, Heap.get?_push_size _ rfl⟩
end
abbrev Sp := List V → Hp → VK → XK → Prop
abbrev CXT := List Env → Hp → Shared → XK → Value → Shared → Prop
structure Env0 (P : Program) (w : World) (K : PySem.W.Frag) (mg : Str → Option Value) (base : Heap) (A : Around) (outer : List Env) (s : Shared) (H : Hp) : Prop where
  frames : A.frames = some outer
  mod : Mod K mg base
  bs : ∀ b o, base.get? b = some o → s.heap.get? b = some o ∧ H b = none
  bsz : base.objs.size ≤ s.heap.objs.size
  funs : s.heap.FunFrames base outer
  frf : ∀ b ∈ frs outer, H b = none
  hok : HOk P w H s.heap
  bare : AllBare s.gens
def CE (outer : List Env) (P : Program) (w : World) (H : Hp) (s : Shared) (Q : VK) (u : Value) (s' : Shared) : Prop :=
  ∃ v H', s'.os = s.os ∧ AllBare s'.gens ∧ Un (frs outer) [] H H' s.heap s'.heap ∧ HOk P w H' s'.heap ∧ RelV v u ∧ Q v H'
def CR (CX : CXT) (outer : List Env) (P : Program) (w : World) (H : Hp) (s : Shared) (Q : VK) (E : XK) (r : Result) (s' : Shared) : Prop :=
  match r with
  | .ok (.ret u) => CE outer P w H s Q u s'
  | .ok _ => False
  | .error e => CX outer H s E e s'
structure FnOk (P : Program) (w : World) (K : PySem.W.Frag) (mg : Str → Option Value) (base : Heap) (CX : CXT) (k : Nat) (f : Addr) (fd : FuncData) (ps : List Str) (sp : Sp) : Prop where
  len : ∀ vs H Q E, sp vs H Q E → vs.length = ps.length
  run : ∀ (A : Around) (outer : List Env) (s : Shared) (H : Hp) (args : Args) (us : List Value) (vs : List V) (Q : VK) (E : XK), Room k A → Env0 P w K mg base A outer s H → BindsTo s fd args (ps.zip us) → Vals vs us → sp vs H Q E →
    codeAny (model P w) A (.call (.ref f) args) (CR CX outer P w H s Q E) s
theorem FnOk.mono {P : Program} {w : World} {K : PySem.W.Frag} {mg : Str → Option Value} {base : Heap} {CX : CXT} {j k : Nat} {f : Addr} {fd : FuncData} {ps : List Str} {sp : Sp} (F : FnOk P w K mg base CX j f fd ps sp) (h : j ≤ k) :
    FnOk P w K mg base CX k f fd ps sp := ⟨F.len, fun A outer s H args us vs Q E hr => F.run A outer s H args us vs Q E (hr.mono h)⟩
theorem Env0.make {P : Program} {w : World} {K : PySem.W.Frag} {mg : Str → Option Value} {base : Heap} {A : Around} {outer : List Env} {s : Shared} {H : Hp} (e : Env0 P w K mg base A outer s H) (C : Addr) (us : List Value) (kw : List (Str × Value)) :
    Env0 P w K mg base (A.under (.builtin "type.__call__" ⟨.ref C :: us, kw⟩)) outer s H := ⟨by first | exact e.frames | (simpa [Around.under, Code.envs, Code.isFrame, pushEnvs] using e.frames), e.mod, e.bs, e.bsz, e.funs, e.frf, e.hok, e.bare⟩
section
variable {X : Cx} {pins : List (Addr × Obj)} {σ : St} {H : Hp} {s s' : Shared}
theorem Inv.env0 (I : Inv X pins σ H s) : Env0 X.prog X.w X.K X.mg X.base X.A X.stack s H :=
  ⟨I.ok.frames, I.ok.mod, I.bs, Nat.le_trans I.ok.bsz I.sz, I.stack, I.stkFree, I.hok, I.bare⟩
theorem Inv.after {Q : VK} {u : Value} (I : Inv X pins σ H s) (h : CE X.stack X.prog X.w H s Q u s') : EP X pins σ Q u s' := by
  obtain ⟨v, H', os, bare, un, hok, r, q⟩ := h
  obtain ⟨hh, g, d, t, os'⟩ := s'
  obtain rfl : os' = s.os := os
  exact ⟨v, H', I.call (h' := hh) (g' := g) (d' := d) (t' := t) (ch := []) un hok bare (fun b z => absurd z (by simp)), r, q⟩
end
def tCall (sp : Sp) (dvs : List V) (E : XK) (t : TA) : TE := fun σ H Q => t σ H fun vs H1 => sp (vs ++ dvs) H1 Q E
def tMeth (C : Addr) (m : Str) (sp : Sp) (dvs : List V) (E : XK) (ta : TE) (t : TA) : TE := fun σ H Q => ta σ H fun x H1 => ∃ a dx fs, x = .ref a ∧ H1 a = some (.ins C dx fs) ∧ fs.lookup m = none ∧
  t σ H1 fun vs H2 => sp (x :: (vs ++ dvs)) H2 Q E
def tMake (C : Addr) (sp : Sp) (dvs : List V) (E : XK) (t : TA) : TE := fun σ H Q => t σ H fun vs H1 => ∀ x dx, H1 x = none → H1 dx = none → dx ≠ x →
  sp (.ref x :: (vs ++ dvs)) (upd (upd H1 dx (.own x)) x (.ins C dx [])) (fun v H2 => v = .non ∧ Q (.ref x) H2) E
def Binds (K : PySem.W.Frag) (fd : FuncData) (ps : List Str) (ds : List Value) : Prop :=
  ∀ (s : Shared) (us : List Value), K.In s.heap → (us ++ ds).length = ps.length → BindsTo s fd ⟨us, []⟩ (ps.zip (us ++ ds))
theorem Binds.all {K : PySem.W.Frag} {fd : FuncData} {ps : List Str} (h : ∀ us : List Value, us.length = ps.length → bindArgs fd ⟨us, []⟩ = pure (ps.zip us)) : Binds K fd ps [] := fun s us _ hl => by
  rw [List.append_nil] at hl ⊢
  exact .of_eq (h us hl)
def Passes (CX : CXT) (X : Cx) (E : XK) : Prop := ∀ (pins : List (Addr × Obj)) (σ : St) (H : Hp) (s : Shared) (e : Value) (s' : Shared), Inv X pins σ H s → CX X.stack H s E e s' → X.xe e s'
section
variable {X : Cx} {CX : CXT} {k : Nat} {f C : Addr} {fd : FuncData} {ps : List Str} {sp : Sp} {dvs : List V} {ds : List Value} {E : XK} {x m : Str} {p pos apos : Pos} {e o : Expr} {es : List Expr} {ta : TE} {t : TA}
theorem run_fn {pins : List (Addr × Obj)} {σ : St} {H : Hp} {s : Shared} {Q : VK} {us : List Value} {vs : List V} (F : FnOk X.prog X.w X.K X.mg X.base CX k f fd ps sp) (hr : Room k X.A) (hb : Binds X.K fd ps ds) (hd : Vals dvs ds) (hx : Passes CX X E)
    (I : Inv X pins σ H s) (r : Vals vs us) (h : sp (vs ++ dvs) H Q E) : wpAny (model X.prog X.w) X.A (call (.ref f) us) (EP X pins σ Q) X.xe s := by
  have r2 : Vals (vs ++ dvs) (us ++ ds) := r.append hd
  have hl : (us ++ ds).length = ps.length := by rw [← r2.length]; exact F.len _ _ _ _ h
  refine wpAny_call (codeAny_mono (F.run X.A X.stack s H ⟨us, []⟩ (us ++ ds) (vs ++ dvs) Q E hr I.env0 (hb s us I.kIn hl) r2 h) fun r s' hq => ?_)
  cases r with
  | error e => exact hx pins σ H s e s' I hq
  | ok fl =>
    cases fl with
    | ret u => exact I.after hq
    | next => exact False.elim hq
    | brk => exact False.elim hq
    | cont => exact False.elim hq
theorem pe_call (F : FnOk X.prog X.w X.K X.mg X.base CX k f fd ps sp) (hr : Room k X.A) (hg : Gl X x) (hm : X.mg x = some (.ref f)) (hk : PySem.W.keepIn X.K (.ref f) = true) (hb : Binds X.K fd ps ds) (hd : Vals dvs ds) (hx : Passes CX X E)
    (ha : PA X (e :: es) t) (hdb : (x == ("__debug__" : Str)) = false := by decide) (he : starEach (e :: es) X.env = (false, eval e X.env) :: starEach es X.env := by rfl) (hpl : (backTo pos (starEach es X.env)).any (·.1) = false := by rfl) :
    PE X (.Call (.Name x p) (e :: es) [] pos) (tCall sp dvs E t) := by
  intro pins s σ H Q I h
  refine wpAny_Call_Name_kw (ld_glob I hg hm ?_ hdb)
  refine PySem.W.callWith_K (h₀ := X.base) I.ok.mod.kin hk (thn (ha pos pins s σ H _ I h) fun us s1 ⟨vs, H1, I1, r, q⟩ => ⟨I1.kIn, ?_⟩) he hpl
  exact run_fn F hr hb hd hx I1 r q
theorem pe_meth {pl : Sem Bool} (he : PE X o ta) (c : Cls X.K C) (hm : Meth X.K C m f) (F : FnOk X.prog X.w X.K X.mg X.base CX k f fd ps sp) (hr : Room k X.A) (hb : Binds X.K fd ps ds) (hd : Vals dvs ds) (hx : Passes CX X E) (ha : PA X (e :: es) t)
    (hst : starEach (e :: es) X.env = (false, eval e X.env) :: starEach es X.env := by rfl) (hpl : (backTo pos (starEach es X.env)).any (·.1) = false := by rfl)
    (ht : eval (.Call (.Attribute o m apos) (e :: es) [] pos) X.env = (do
      let ov ← eval o X.env
      standAt apos.atName
      let (f, first) ← holding [ov] (getMethod ov m pl)
      callWith pos f first (backTo pos (starEach (e :: es) X.env)) (backToKw pos (keywordEach [] X.env))) := by rfl) :
    PE X (.Call (.Attribute o m apos) (e :: es) [] pos) (tMeth C m sp dvs E ta t) := by
  intro pins s σ H Q I h
  refine PySem.W.methodCall_KW (pl := pl) (thn (he pins s σ H _ I h) fun u s1 ⟨x, H1, I1, rx, a, dx, fs, ex, ea, l, q⟩ => ?_) ht
  subst ex
  obtain rfl : u = Value.ref a := rx
  refine getmeth_ok I1 ea c hm l ?_
  refine PySem.W.callWith_K (first := [.ref a]) (h₀ := X.base) I.ok.mod.kin hm.kp (thn (ha pos pins s1 σ H1 _ I1 q) fun us s2 ⟨vs, H2, I2, r, q2⟩ => ⟨I2.kIn, ?_⟩) hst hpl
  exact run_fn (us := .ref a :: us) (vs := .ref a :: vs) F hr hb hd hx I2 (.cons rfl r) q2
structure Mk (K : PySem.W.Frag) (C f : Addr) : Prop where
  makes : PySem.W.makesIn K C = true
  init : PySem.W.findIn K (.ref C) "__init__" = some (some (.ref f))
  fn : PySem.W.isFn K (.ref f) = true
  kp : PySem.W.keepIn K (.ref C) = true
theorem run_make {pins : List (Addr × Obj)} {σ : St} {H : Hp} {s : Shared} {Q : VK} {us : List Value} {vs : List V} (M : Mk X.K C f) (F : FnOk X.prog X.w X.K X.mg X.base CX k f fd ps sp) (hr : Room (k + 1) X.A) (hb : Binds X.K fd ps ds) (hd : Vals dvs ds)
    (hx : Passes CX X E) (I : Inv X pins σ H s) (r : Vals vs us)
    (h : ∀ x dx, H x = none → H dx = none → dx ≠ x → sp (.ref x :: (vs ++ dvs)) (upd (upd H dx (.own x)) x (.ins C dx [])) (fun v H2 => v = .non ∧ Q (.ref x) H2) E) :
    wpAny (model X.prog X.w) X.A (call (.ref C) us) (EP X pins σ Q) X.xe s := by
  have hq := h (s.heap.objs.size + 1) s.heap.objs.size (I.hok.fresh (Nat.le_succ _)) (I.hok.fresh (Nat.le_refl _)) (Nat.ne_of_lt (Nat.lt_succ_self _))
  have I2 := Inv.made (C := C) I
  have r2 : Vals (V.ref (s.heap.objs.size + 1) :: (vs ++ dvs)) (Value.ref (s.heap.objs.size + 1) :: (us ++ ds)) := .cons rfl (r.append hd)
  have hl : (Value.ref (s.heap.objs.size + 1) :: us ++ ds).length = ps.length := by
    have e := r2.length
    rw [F.len _ _ _ _ hq] at e
    exact e.symm
  refine wpAny_call (make_map (f := f) I.kIn M.makes M.init (beq_iff_eq.mp M.fn) (codeAny_mono (F.run _ X.stack _ _ ⟨Value.ref (s.heap.objs.size + 1) :: us, []⟩ (Value.ref (s.heap.objs.size + 1) :: (us ++ ds)) _ _ E (hr.make C us [])
    (I2.env0.make C us []) (hb _ (Value.ref (s.heap.objs.size + 1) :: us) I2.kIn hl) r2 hq) fun r s' hq' => ?_))
  cases r with
  | error e => exact hx pins σ _ _ e s' I2 hq'
  | ok fl =>
    cases fl with
    | ret u =>
      obtain ⟨v, H', I3, rv, ev, q3⟩ := I2.after hq'
      subst ev
      exact ⟨rv, ⟨V.ref (s.heap.objs.size + 1), H', I3, rfl, q3⟩⟩
    | next => exact False.elim hq'
    | brk => exact False.elim hq'
    | cont => exact False.elim hq'
theorem pe_make (M : Mk X.K C f) (F : FnOk X.prog X.w X.K X.mg X.base CX k f fd ps sp) (hr : Room (k + 1) X.A) (hg : Gl X x) (hm : X.mg x = some (.ref C)) (hb : Binds X.K fd ps ds) (hd : Vals dvs ds) (hx : Passes CX X E)
    (ha : PA X (e :: es) t) (hdb : (x == ("__debug__" : Str)) = false := by decide) (he : starEach (e :: es) X.env = (false, eval e X.env) :: starEach es X.env := by rfl) (hpl : (backTo pos (starEach es X.env)).any (·.1) = false := by rfl) :
    PE X (.Call (.Name x p) (e :: es) [] pos) (tMake C sp dvs E t) := by
  intro pins s σ H Q I h
  refine wpAny_Call_Name_kw (ld_glob I hg hm ?_ hdb)
  refine PySem.W.callWith_K (h₀ := X.base) I.ok.mod.kin M.kp (thn (ha pos pins s σ H _ I h) fun us s1 ⟨vs, H1, I1, r, q⟩ => ⟨I1.kIn, ?_⟩) he hpl
  exact run_make M F hr hb hd hx I1 r q
theorem pe_make0 (M : Mk X.K C f) (F : FnOk X.prog X.w X.K X.mg X.base CX k f fd ps sp) (hr : Room (k + 1) X.A) (hg : Gl X x) (hm : X.mg x = some (.ref C)) (hb : Binds X.K fd ps ds) (hd : Vals dvs ds) (hx : Passes CX X E)
    (hdb : (x == ("__debug__" : Str)) = false := by decide) : PE X (.Call (.Name x p) [] [] pos) (tMake C sp dvs E tNil) := by
  intro pins s σ H Q I h
  refine wpAny_Call_Name_kw (ld_glob I hg hm ?_ hdb)
  exact PySem.W.callWith_K0 I.kIn M.kp (run_make (us := []) M F hr hb hd hx I .nil h)
end
def PK (X : Cx) (kws : List Keyword) (t : TA) : Prop :=
  ∀ (pos : Pos) (pins : List (Addr × Obj)) (s : Shared) (σ : St) (H : Hp) (Q : List V → Hp → Prop), Inv X pins σ H s → t σ H Q → wpAny (model X.prog X.w) X.A (evalAll ((backToKw pos (keywordEach kws X.env)).map (·.2))) (AP X pins σ Q) X.xe s
section
variable {X : Cx} {CX : CXT} {k : Nat} {f C : Addr} {fd : FuncData} {ps ks : List Str} {sp : Sp} {E : XK} {x m : Str} {p pos apos kpos : Pos} {e o : Expr} {es : List Expr} {kws : List Keyword} {te ta : TE} {t tk : TA} {nm : Option Str}
structure KBinds (K : PySem.W.Frag) (fd : FuncData) (ps ks : List Str) (g : List Value → List Value → List Value) (gV : List V → List V → List V) : Prop where
  to : ∀ (s : Shared) (us ws : List Value), K.In s.heap → (g us ws).length = ps.length → BindsTo s fd ⟨us, ks.zip ws⟩ (ps.zip (g us ws))
  rel : ∀ {vs : List V} {us : List Value} {zs : List V} {ws : List Value}, Vals vs us → Vals zs ws → Vals (gV vs zs) (g us ws)
def tCallK (sp : Sp) (gV : List V → List V → List V) (E : XK) (t tk : TA) : TE := fun σ H Q => t σ H fun vs H1 => tk σ H1 fun zs H2 => sp (gV vs zs) H2 Q E
variable {g : List Value → List Value → List Value} {gV : List V → List V → List V}
end
structure FnScope (N P : List Str) (sc : Scope) : Prop where
  kind : sc.kind = .function
  co : sc.isCoroutine = false
  gen : sc.isGenerator = false
  nd : N.Nodup
  pre : N.take P.length = P
  par : ∀ x ∈ P, sc.names.lookup x = some .local ∨ sc.names.lookup x = some .cell
  nofree : ∀ y ∈ sc.names, y.2 ≠ .free
theorem bindL_out {kindOf : Str → Option NameKind} {x : Str} : ∀ {binds : List (Str × Value)} {m : Str → Option Value}, (∀ v, (x, v) ∉ binds) → bindL kindOf binds m x = m x
  | [], _, _ => rfl
  | (n, v) :: r, m, h => by
    unfold bindL
    rw [bindL_out fun w hw => h w (List.mem_cons_of_mem _ hw)]
    split
    · have : x ≠ n := by rintro rfl; exact h v List.mem_cons_self
      simp [this]
    · rfl
theorem bindC_out {kindOf : Str → Option NameKind} {x : Str} : ∀ {binds : List (Str × Value)} {m : Str → Option Value}, (∀ v, (x, v) ∉ binds) → bindC kindOf binds m x = m x
  | [], _, _ => rfl
  | (n, v) :: r, m, h => by
    unfold bindC
    rw [bindC_out fun w hw => h w (List.mem_cons_of_mem _ hw)]
    split
    · rfl
    · have : x ≠ n := by rintro rfl; exact h v List.mem_cons_self
      simp [this]
theorem bindL_get {kindOf : Str → Option NameKind} {x : Str} {v : Value} : ∀ {P : List Str} {vs : List Value} {i : Nat} {m : Str → Option Value}, P.Nodup → P[i]? = some x → vs[i]? = some v → kindOf x = some .local →
    bindL kindOf (P.zip vs) m x = some v
  | [], _, _, _, _, h, _, _ => by simp at h
  | _ :: _, [], _, _, _, _, h, _ => by simp at h
  | p :: P, w :: vs, 0, m, nd, h1, h2, hk => by
    simp at h1 h2; subst h1; subst h2
    show bindL kindOf ((p, w) :: P.zip vs) m p = _
    unfold bindL
    rw [bindL_out fun v hv => (List.nodup_cons.mp nd).1 (List.of_mem_zip hv).1, if_pos hk]
    simp
  | p :: P, w :: vs, i + 1, m, nd, h1, h2, hk => by
    show bindL kindOf ((p, w) :: P.zip vs) m x = _
    unfold bindL
    exact bindL_get (i := i) (List.nodup_cons.mp nd).2 (by simpa using h1) (by simpa using h2) hk
theorem bindC_get {kindOf : Str → Option NameKind} {x : Str} {v : Value} : ∀ {P : List Str} {vs : List Value} {i : Nat} {m : Str → Option Value}, P.Nodup → P[i]? = some x → vs[i]? = some v → kindOf x ≠ some .local →
    bindC kindOf (P.zip vs) m x = some v
  | [], _, _, _, _, h, _, _ => by simp at h
  | _ :: _, [], _, _, _, _, h, _ => by simp at h
  | p :: P, w :: vs, 0, m, nd, h1, h2, hk => by
    simp at h1 h2; subst h1; subst h2
    show bindC kindOf ((p, w) :: P.zip vs) m p = _
    unfold bindC
    rw [bindC_out fun v hv => (List.nodup_cons.mp nd).1 (List.of_mem_zip hv).1, if_neg hk]
    simp
  | p :: P, w :: vs, i + 1, m, nd, h1, h2, hk => by
    show bindC kindOf ((p, w) :: P.zip vs) m x = _
    unfold bindC
    exact bindC_get (i := i) (List.nodup_cons.mp nd).2 (by simpa using h1) (by simpa using h2) hk
def start (N : List Str) (vs : List V) : St := vs.map some ++ List.replicate (N.length - vs.length) none
def cxOf (CX : CXT) (P : Program) (w : World) (K : PySem.W.Frag) (mg : Str → Option Value) (base : Heap) (N : List Str) (qual : Str) (scope : Scope) (f : Addr) (cd : Value) (A : Around) (outer : List Env) (s : Shared) (H : Hp) (E : XK) : Cx where
  prog := P
  w := w
  K := K
  mg := mg
  base := base
  A := A.deeper (envOfC qual scope s.heap.objs.size f cd)
  N := N
  s₀ := s
  H₀ := H
  env := envOfC qual scope s.heap.objs.size f cd
  outer := outer
  stack := envOfC qual scope s.heap.objs.size f cd :: outer
  ex := []
  calm := true
  fn := fun _ => true
  pn := []
  xe := fun e s' => wpAny (model P w) (A.deeper (envOfC qual scope s.heap.objs.size f cd)) (leaving (envOfC qual scope s.heap.objs.size f cd) e) (fun _ s'' => CX outer H s E e s'') (fun e' s'' => CX outer H s E e' s'') s'
theorem cell_has {sc : Scope} {n : Nat} {x : Str} (h : sc.names.lookup x = some .cell) : ∃ c, (cellsFrom n sc.names []).lookup x = some c := by
  have q := PySem.W.cellsFrom_some sc.names n [] (.inl h)
  exact Option.isSome_iff_exists.mp q
theorem inv_start {CX : CXT} {P : Program} {w : World} {K : PySem.W.Frag} {mg : Str → Option Value} {base : Heap} {N ps : List Str} {qual : Str} {scope : Scope} {f : Addr} {cd : Value} {A : Around} {outer : List Env} {s s1 : Shared} {H : Hp} {E : XK} {us : List Value} {vs : List V}
    (S : FnScope N ps scope) (hd : A.handled = none) (e0 : Env0 P w K mg base A outer s H) (hl : vs.length = ps.length) (r : Vals vs us)
    (x : InCallC s s.heap.objs.size (bindL (envOfC qual scope s.heap.objs.size f cd).kindOf (ps.zip us) fun _ => none) (cellsFrom (s.heap.objs.size + 1) scope.names []) (bindC (envOfC qual scope s.heap.objs.size f cd).kindOf (ps.zip us) fun _ => none) s1) :
    Inv (cxOf CX P w K mg base N qual scope f cd A outer s H E) [] (start N vs) H s1 := by
  have hpl : ps.length ≤ N.length := by have := congrArg List.length S.pre; rw [List.length_take] at this; omega
  obtain ⟨h1, tk, rfl, hk⟩ := x.done
  have noA : ∀ b : Addr, b ∉ (cxOf CX P w K mg base N qual scope f cd A outer s H E).ex := fun b z => absurd (show b ∈ ([] : List Addr) from z) (by simp)
  refine ⟨⟨e0.mod, S.kind, rfl, rfl, Nat.le_refl _, fun y z c h1 h2 => ?_, fun y hy => ?_, fun y c _ h => ?_, fun _ => hd, Around.frames_deeper e0.frames, .inr ⟨rfl, rfl⟩, fun b z => absurd z (noA b), e0.bs, e0.bsz, fun b _ _ => noA b, fun b z => absurd z (noA b), e0.funs, e0.frf⟩,
    rfl, e0.bare, Un.kept hk, ⟨_, x.toInCall.ns, fun i y v h1 h2 h3 => ?_⟩, fun y c h => ⟨_, x.cell y c h⟩, e0.hok.fresh (Nat.le_refl _), fun y c h => ?_, fun p hp => absurd (show p ∈ ([] : List (Addr × Obj)) from hp) (by simp), e0.hok.kept hk, ?_⟩
  · exact name_of_addr x.apart (PySem.mem_of_lookup h1) (PySem.mem_of_lookup h2)
  · have hy : scope.names.lookup y = some .cell ∨ scope.names.lookup y = some .free := hy
    rcases hy with hy | hy
    · exact cell_has hy
    · exact absurd rfl (S.nofree _ (PySem.mem_of_lookup hy))
  · exact Nat.le_of_lt (x.above y c (PySem.mem_of_lookup h))
  · have hi : i < vs.length := by
      unfold start at h2
      by_cases hi : i < vs.length
      · exact hi
      · rw [List.getElem?_append_right (by simpa using hi)] at h2
        rw [List.getElem?_replicate] at h2
        split at h2 <;> cases h2
    have ha : vs[i]? = some v := by
      unfold start at h2
      rw [List.getElem?_append_left (by simpa using hi), List.getElem?_map] at h2
      cases e : vs[i]? with
      | none => rw [e] at h2; cases h2
      | some a => rw [e] at h2; cases h2; rfl
    obtain ⟨u, hu, rv⟩ := r.get ha
    have hp : ps[i]? = some y := by
      rw [← S.pre, List.getElem?_take_of_lt (by omega)]; exact h1
    have ndP : ps.Nodup := by rw [← S.pre]; exact S.nd.sublist (List.take_sublist _ _)
    refine ⟨u, rv, ?_⟩
    rcases S.par y (List.mem_of_getElem? hp) with k | k
    · exact .inl ⟨k, bindL_get ndP hp hu k⟩
    · obtain ⟨c, e⟩ := cell_has (n := s.heap.objs.size + 1) k
      refine .inr ⟨.inl k, c, e, ?_⟩
      have q := x.cell y c e
      rw [bindC_get ndP hp hu (by show scope.names.lookup y ≠ _; rw [k]; decide)] at q
      exact q
  · exact e0.hok.fresh (Nat.le_of_lt (x.above y c (PySem.mem_of_lookup h)))
  · unfold start
    show _ = N.length
    rw [List.length_append, List.length_map, List.length_replicate]
    omega
theorem fn_of {CX : CXT} {P : Program} {w : World} {K : PySem.W.Frag} {mg : Str → Option Value} {base : Heap} {k : Nat} {f : Addr} {name qual : Str} {params : Arguments} {body : List Stmt} {scope : Scope} {dV kV doc pm cdv ct oc : Value} {an od : Option Addr}
    {osl : Array (Option Value)} {N ps : List Str} {sp : Sp} (lk : K.lookup f = some ⟨oc, od, .func (PySem.W.fnOf name qual params body scope dV kV doc pm an cdv ct), osl⟩) (hcd : PySem.W.codeIn K cdv qual = true) (S : FnScope N ps scope)
    (len : ∀ vs H Q E, sp vs H Q E → vs.length = ps.length)
    (hbody : ∀ (A : Around) (outer : List Env) (s : Shared) (H : Hp) (vs : List V) (Q : VK) (E : XK), Room k (A.deeper (envOfC qual scope s.heap.objs.size f cdv)) → sp vs H Q E →
      ∃ t, PSs (cxOf CX P w K mg base N qual scope f cdv A outer s H E) body t ∧ t { nx := fun _ H' => Q .non H', rt := Q } (start N vs) H) :
    FnOk P w K mg base CX (k + 1) f (PySem.W.fnOf name qual params body scope dV kV doc pm an cdv ct) ps sp := by
  refine ⟨len, fun A outer s H args us vs Q E hr e0 hb r hsp => ?_⟩
  have hl := len _ _ _ _ hsp
  have KX : K.In s.heap := e0.mod.kin.keeps fun b o e => (e0.bs b o e).1
  have lim : s.heap.NoLimit := e0.mod.nolimit.keeps fun b o e => (e0.bs b o e).1
  have hkind : ∀ y ∈ ps.zip us, scope.names.lookup y.1 = some .local ∨ (scope.names.lookup y.1 = some .cell ∧ ((cellsFrom (s.heap.objs.size + 1) scope.names []).lookup y.1).isSome = true) := fun ⟨n, v⟩ hy => by
    rcases S.par n (List.of_mem_zip hy).1 with q | q
    · exact .inl q
    · exact .inr ⟨q, PySem.W.cellsFrom_some _ _ _ (.inl q)⟩
  refine codeAny_call_function hr.depth (KX _ _ lk) rfl S.co S.gen rfl (PySem.W.codeRec_of KX hcd) (hb _ _ _ _ ?_)
  refine wpAny_newFunctionEnv_cells S.kind hkind fun env he s1 x => ?_
  subst he
  refine ⟨lim.keeps x.toInCall.keep, codeAny_func ?_⟩
  obtain ⟨t, ht, hq⟩ := hbody A outer s H vs Q E (hr.deeper _) hsp
  have I : Inv (cxOf CX P w K mg base N qual scope f cdv A outer s H E) [] (start N vs) H s1 := inv_start S hr.hd e0 hl r x
  refine wpAny_mono (ht [] s1 (start N vs) H _ I hq) (fun fl s' hs => ?_) fun e s' hs => hs
  have fin : ∀ {σ' : St} {H' : Hp} {v : V} {u : Value}, Inv (cxOf CX P w K mg base N qual scope f cdv A outer s H E) [] σ' H' s' → RelV v u → Q v H' → CE outer P w H s Q u s' :=
    fun {σ' H' v u} J rv q => ⟨v, H', J.os, J.bare, J.base, J.hok, rv, q⟩
  cases fl with
  | ret u =>
    obtain ⟨v, σ', H', J, rv, q⟩ := hs
    exact fin J rv q
  | next =>
    obtain ⟨σ', H', J, q⟩ := hs
    exact fin (v := V.non) (u := Value.none) J rfl q
  | brk =>
    obtain ⟨_, _, _, q⟩ := hs
    exact False.elim q
  | cont =>
    obtain ⟨_, _, _, q⟩ := hs
    exact False.elim q
end L2
namespace L2
open PySem PySem.Spec PyProof.Rows
section
variable {X : Cx} {x : Str} {p pos : Pos} {e : Expr} {es : List Expr} {t : TA} {id T : String} {r : List V → Hp → VK → Prop}
def tCB (r : List V → Hp → VK → Prop) (t : TA) : TE := fun σ H Q => t σ H fun vs H1 => r vs H1 Q
theorem pe_callB (hc : CallR X (.builtin id) r) (hg : Gl X x) (hm : X.mg x = none) (hv : bootBuiltins x = some (.builtin id)) (ha : PA X (e :: es) t) (hn : x ≠ "__name__" := by decide) (hdb : (x == ("__debug__" : Str)) = false := by decide)
    (he : starEach (e :: es) X.env = (false, eval e X.env) :: starEach es X.env := by rfl) (hpl : (backTo pos (starEach es X.env)).any (·.1) = false := by rfl) : PE X (.Call (.Name x p) (e :: es) [] pos) (tCB r t) := by
  intro pins s σ H Q I h
  refine wpAny_Call_Name_kw (ld_blt I hg hm hv ?_ hn hdb)
  exact PyProof.Rows.callWith_builtin1 (thn (ha pos pins s σ H _ I h) fun us s1 ⟨vs, H1, I1, r1, q1⟩ => hc pins s1 σ H1 vs us Q I1 r1 q1) he hpl
theorem pe_callTy (hc : CallR X (.type T) r) (hg : Gl X x) (hm : X.mg x = none) (hv : bootBuiltins x = some (.type T)) (ha : PA X (e :: es) t) (hn : x ≠ "__name__" := by decide) (hdb : (x == ("__debug__" : Str)) = false := by decide)
    (he : starEach (e :: es) X.env = (false, eval e X.env) :: starEach es X.env := by rfl) (hpl : (backTo pos (starEach es X.env)).any (·.1) = false := by rfl) : PE X (.Call (.Name x p) (e :: es) [] pos) (tCB r t) := by
  intro pins s σ H Q I h
  refine wpAny_Call_Name_kw (ld_blt I hg hm hv ?_ hn hdb)
  exact PyProof.Rows.callWith_type1 (thn (ha pos pins s σ H _ I h) fun us s1 ⟨vs, H1, I1, r1, q1⟩ => hc pins s1 σ H1 vs us Q I1 r1 q1) he hpl
end
end L2
namespace HT
open PySem PyProof.Rows
def lexLt : List Int → List Int → Bool
  | [], [] => false
  | [], _ :: _ => true
  | _ :: _, [] => false
  | x :: xs, y :: ys => if x = y then lexLt xs ys else decide (x < y)
section
open PySem.SeqAt
open PySem.AutoSeq1 (wpAny_loadPart')
open PySem.MeetsSeq PySem.MeetsSeq2 PySem.MeetsSeq3
end
section
variable {prog : Program} {w : World} {A : Around} {E : Value → Shared → Prop} {s : Shared}
def sIx (n d : Nat) : Option Int → Nat
  | none => d
  | some v => if v < 0 then (v + (n : Int)).toNat else min v.toNat n
theorem sIx_none (n d : Nat) : sIx n d none = d := rfl
end
end HT
namespace L2
open PySem PySem.Spec PyProof.Rows
abbrev TO := St → Hp → (Option Int → Hp → Prop) → Prop
def PO (X : Cx) (e : Option Expr) (t : TO) : Prop :=
  ∀ (pins : List (Addr × Obj)) (s : Shared) (σ : St) (H : Hp) (Q : Option Int → Hp → Prop), Inv X pins σ H s → t σ H Q →
    wpAny (model X.prog X.w) X.A (evalPart e X.env) (fun u s' => ∃ o H', Inv X pins σ H' s' ∧ IsPart u o ∧ Q o H') X.xe s
def tNoPart : TO := fun _ H Q => Q none H
def tPart (t : TE) : TO := fun σ H Q => t σ H fun x H1 => ∃ i, x = .int i ∧ Q (some i) H1
theorem intsAre_of {ns : List Int} : ∀ {us : List Value}, Vals (ns.map V.int) us → IntsAre us ns := by
  induction ns with
  | nil => intro us r; rw [List.map_nil] at r; cases r; exact .nil
  | cons n ns ih =>
    intro us r
    rw [List.map_cons] at r
    cases r with
    | cons r1 r2 =>
      obtain ⟨t, e⟩ := r1
      subst e
      exact .cons n t (ih r2)
section
variable {X : Cx} {e : Expr} {te : TE} {lo hi : Option Expr} {tl th : TO} {pos p2 : Pos}
theorem po_none : PO X none tNoPart := by
  intro pins s σ H Q I h
  rw [evalPart_none]
  exact wpAny_pure ⟨none, H, I, .none, h⟩
theorem po_some (h : PE X e te) : PO X (some e) (tPart te) := by
  intro pins s σ H Q I hw
  rw [evalPart_some]
  refine thn (h pins s σ H _ I hw) fun u s1 ⟨x, H1, I1, r1, q1⟩ => ?_
  obtain ⟨i, rfl, q⟩ := q1
  obtain ⟨t, rfl⟩ := r1
  exact ⟨some i, H1, I1, .int i t, q⟩
def SlR (X : Cx) (r : V → Option Int → Option Int → Hp → VK → Prop) : Prop :=
  ∀ (pins : List (Addr × Obj)) (s : Shared) (σ : St) (H : Hp) (x : V) (v vl vu : Value) (lo hi : Option Int) (sl : Addr) (Q : VK), Inv X pins σ H s → RelV x v → s.heap.IsSliceOf sl vl vu .none → IsPart vl lo → IsPart vu hi → r x lo hi H Q →
    ∃ T id, typeLookup (.type T) "__getitem__" = pure (some (.builtin id)) ∧ s.TypeIs v T ∧ wpAny (model X.prog X.w) X.A (getItem v (.ref sl)) (EP X pins σ Q) X.xe s
def tSl (r : V → Option Int → Option Int → Hp → VK → Prop) (te : TE) (tl th : TO) : TE := fun σ H Q => te σ H fun x H1 => tl σ H1 fun l H2 => th σ H2 fun u H3 => r x l u H3 Q
theorem pe_slice {r : V → Option Int → Option Int → Hp → VK → Prop} (hr : SlR X r) (he : PE X e te) (hl : PO X lo tl) (hu : PO X hi th) : PE X (.Subscript e (.Slice lo hi none p2) pos) (tSl r te tl th) := by
  intro pins s σ H Q I h
  refine Subscript_ (thn (he pins s σ H _ I h) fun v s1 ⟨x, H1, I1, r1, q1⟩ => ?_)
  refine wpAny_Slice (thn (hl pins s1 σ H1 _ I1 q1) fun vl s2 ⟨l, H2, I2, pl, q2⟩ => thn (hu pins s2 σ H2 _ I2 q2) fun vu s3 ⟨u, H3, I3, pu, q3⟩ => ?_)
  rw [evalPart_none]
  refine wpAny_pure ?_
  have I4 : Inv X pins σ H3 { s3 with heap := s3.heap.push { cls := .type "slice", data := .fields #[vl, vu, .none] } } := I3.kept (t' := s3.toks) fun b ob q => Heap.get?_push_of_some _ q
  obtain ⟨T, id, hT, ht, hg⟩ := hr pins { s3 with heap := s3.heap.push { cls := .type "slice", data := .fields #[vl, vu, .none] } } σ H3 x v vl vu l u s3.heap.objs.size Q I4 r1 (Heap.IsSliceOf.new ..) pl pu q3
  show wpAny (model X.prog X.w) X.A (subscriptTail e (.Slice lo hi none p2) v (.ref s3.heap.objs.size)) (EP X pins σ Q) X.xe { s3 with heap := s3.heap.push { cls := .type "slice", data := .fields #[vl, vu, .none] } }
  exact tail_any (ops := [.ref s3.heap.objs.size, v]) ht hT hg (by with_unfolding_all rfl)
def cutV (xs : List V) (lo hi : Option Int) : List V := (xs.drop (HT.sIx xs.length 0 lo)).take (HT.sIx xs.length xs.length hi - HT.sIx xs.length 0 lo)
theorem cutV_length (xs : List V) (lo hi : Option Int) : (cutV xs lo hi).length ≤ xs.length := by
  unfold cutV
  rw [List.length_take, List.length_drop]
  omega
def rSlT (K : PySem.W.Frag) : V → Option Int → Option Int → Hp → VK → Prop := fun x lo hi H Q => ∃ a xs, x = .ref a ∧ SqT K H a xs ∧
  ¬ (HT.sIx xs.length 0 lo = 0 ∧ HT.sIx xs.length xs.length hi = xs.length) ∧ ∀ p, H p = none → Q (.ref p) (upd H p (.tup (cutV xs lo hi)))
def rLtT (K : PySem.W.Frag) : R2 := fun x y H Q => ∃ a b ns ms, x = .ref a ∧ y = .ref b ∧ SqT K H a (ns.map V.int) ∧ SqT K H b (ms.map V.int) ∧ Q (.bl (HT.lexLt ns ms)) H
def rCatT (K : PySem.W.Frag) : R2 := fun x y H Q => ∃ a b xs ys, x = .ref a ∧ y = .ref b ∧ SqT K H a xs ∧ SqT K H b ys ∧ xs ≠ [] ∧ xs.length + ys.length ≤ sizeLine ∧
  (ys = [] → Q (.ref a) H) ∧ (ys ≠ [] → ∀ p, H p = none → Q (.ref p) (upd H p (.tup (xs ++ ys))))
end
end L2
namespace L2
open PySem PySem.Spec PyProof.Rows
def ixN (n : Nat) (i : Int) : Option Nat := if 0 ≤ i then (if i < n then some i.toNat else none) else if -(n : Int) ≤ i then some (i + n).toNat else none
def atI {α : Type} (xs : List α) (i : Int) : Option α := (ixN xs.length i).bind fun j => xs[j]?
theorem ixN_seq {n : Nat} {i : Int} {j : Nat} (h : ixN n i = some j) : seqIndex? i n = some j ∧ j < n ∧ -(n : Int) ≤ i ∧ i < n := by
  unfold ixN at h
  by_cases h0 : 0 ≤ i
  · rw [if_pos h0] at h
    by_cases h1 : i < n
    · rw [if_pos h1] at h
      have e : i.toNat = j := Option.some.inj h
      exact ⟨by rw [seqIndex_of h0 h1, e], by omega, by omega, h1⟩
    · rw [if_neg h1] at h; cases h
  · rw [if_neg h0] at h
    by_cases h1 : -(n : Int) ≤ i
    · rw [if_pos h1] at h
      have e : (i + n).toNat = j := Option.some.inj h
      exact ⟨by rw [seqIndex_neg (by omega) h1, e], by omega, h1, by omega⟩
    · rw [if_neg h1] at h; cases h
theorem atI_get {α : Type} {xs : List α} {i : Int} {v : α} (h : atI xs i = some v) : ∃ j, seqIndex? i xs.length = some j ∧ xs[j]? = some v ∧ j < xs.length ∧ -(xs.length : Int) ≤ i ∧ i < xs.length := by
  unfold atI at h
  cases e : ixN xs.length i with
  | none => rw [e] at h; cases h
  | some j =>
    rw [e] at h
    obtain ⟨h1, h2, h3, h4⟩ := ixN_seq e
    exact ⟨j, h1, h, h2, h3, h4⟩
theorem atI_nat {α : Type} {xs : List α} {j : Nat} {v : α} (h : xs[j]? = some v) : atI xs (j : Int) = some v := by
  have hj : j < xs.length := (List.getElem?_eq_some_iff.mp h).1
  have e : ixN xs.length (j : Int) = some j := by
    unfold ixN
    rw [if_pos (by omega), if_pos (by omega)]; simp
  unfold atI; rw [e]; exact h
theorem atI_last {α : Type} (xs : List α) (v : α) : atI (xs ++ [v]) (-1) = some v := by
  have hl : (xs ++ [v]).length = xs.length + 1 := by simp
  have e : ixN (xs ++ [v]).length (-1) = some xs.length := by
    unfold ixN
    rw [hl, if_neg (by decide), if_pos (by omega)]
    congr 1
    omega
  unfold atI
  rw [e]
  show (xs ++ [v])[xs.length]? = some v
  simp
def PlainIx (b : Expr) : Prop := ∀ o i, subscripted b false o i = operate [o, i] (getItem o i)
def IxR (X : Cx) (r : R2) : Prop :=
  ∀ (value slice : Expr) (pins : List (Addr × Obj)) (s : Shared) (σ : St) (H : Hp) (x y : V) (v u : Value) (Q : VK), Inv X pins σ H s → RelV x v → RelV y u → r x y H Q →
    subscripted slice false v u = operate [v, u] (getItem v u) → wpAny (model X.prog X.w) X.A (subscriptTail value slice v u) (EP X pins σ Q) X.xe s
def MtR (X : Cx) (id : String) (r : V → List V → Hp → VK → Prop) : Prop :=
  ∀ (pins : List (Addr × Obj)) (s : Shared) (σ : St) (H : Hp) (x : V) (xs : List V) (v : Value) (us : List Value) (Q : VK), Inv X pins σ H s → RelV x v → Vals xs us → r x xs H Q →
    wpAny (model X.prog X.w) X.A (call (.builtin id) (v :: us)) (EP X pins σ Q) X.xe s
section
variable {X : Cx} {a b : Expr} {ta tb : TE} {pos : Pos}
theorem pe_ix {r : R2} (hr : IxR X r) (ha : PE X a ta) (hb : PE X b tb) (hs : PlainIx b) : PE X (.Subscript a b pos) (tOp r ta tb) := by
  intro pins s σ H Q I h
  exact Subscript_ (binT ha hb I h fun v u s2 x y H2 I2 rx ry q => hr a b pins s2 σ H2 x y v u Q I2 rx ry q (hs _ _))
def rIxL (K : PySem.W.Frag) : R2 := fun x y H Q => ∃ p xs i v, x = .ref p ∧ y = .int i ∧ SqL K H p xs ∧ atI xs i = some v ∧ Q v H
def rIxT (K : PySem.W.Frag) : R2 := fun x y H Q => ∃ p xs i v, x = .ref p ∧ y = .int i ∧ SqT K H p xs ∧ atI xs i = some v ∧ Q v H
def rIxS : R2 := fun x y H Q => ∃ z i c, x = .str z ∧ y = .int i ∧ z.length ≤ sizeLine ∧ atI z.cps.toList i = some c ∧ Q (.str ⟨#[c]⟩) H
theorem ix_list : IxR X (rIxL X.K) := by
  intro value slice pins s σ H x y v u Q I rx ry h hs
  obtain ⟨p, xs, i, z, rfl, rfl, hq, he, q⟩ := h
  cases rx
  obtain ⟨t, rfl⟩ := ry
  obtain ⟨its, r, pl, hz⟩ := I.list hq
  obtain ⟨j, h1, h2, h3, h4, h5⟩ := atI_get he
  obtain ⟨w, ew, rw'⟩ := r.get h2
  have hl := r.length
  have hn := line63
  have fin : EP X pins σ Q w s := ⟨z, H, I, rw', q⟩
  by_cases h0 : 0 ≤ i
  · have hj : i.toNat = j := by
      rw [seqIndex_of h0 h5] at h1
      exact Option.some.inj h1
    exact item_listR pl.isList h0 (by omega) (by rw [hj]; simpa using ew) fin hs
  · have hj : (i + (its.toArray.size : Int)).toNat = j := by
      rw [seqIndex_neg (by omega) h4] at h1
      rw [List.size_toArray, ← hl]
      exact Option.some.inj h1
    exact subscriptTail_builtinR (x := w) pl.isList.typeIs slot_list_getitem.lookup
      (wpAny_getItem_list_neg (Q := fun r s' => r = w ∧ EP X pins σ Q r s') pl.isList (by omega) (by rw [List.size_toArray] <;> omega) (by omega) (by rw [hj]; simpa using ew) ⟨rfl, fin⟩) hs
theorem ix_tup : IxR X (rIxT X.K) := by
  intro value slice pins s σ H x y v u Q I rx ry h hs
  obtain ⟨p, xs, i, z, rfl, rfl, hq, he, q⟩ := h
  cases rx
  obtain ⟨t, rfl⟩ := ry
  obtain ⟨its, r, pl, hz⟩ := I.tuple hq
  obtain ⟨j, h1, h2, h3, h4, h5⟩ := atI_get he
  obtain ⟨w, ew, rw'⟩ := r.get h2
  have hl := r.length
  have hn := line63
  have fin : EP X pins σ Q w s := ⟨z, H, I, rw', q⟩
  exact subscriptTail_builtinR (x := w) pl.typeIs slot_tuple_getitem.lookup
    (getItem_tuple (j := j) (Q := fun r s' => r = w ∧ EP X pins σ Q r s') pl (by omega) (by omega) (by rw [List.size_toArray, ← hl]; exact h1) (by simpa using ew) ⟨rfl, fin⟩) hs
theorem ix_str : IxR X rIxS := by
  intro value slice pins s σ H x y v u Q I rx ry h hs
  obtain ⟨z, i, c, rfl, rfl, hz, he, q⟩ := h
  obtain ⟨t, rfl⟩ := rx
  obtain ⟨t', rfl⟩ := ry
  obtain ⟨j, h1, h2, h3, h4, h5⟩ := atI_get he
  have hl : z.cps.toList.length = z.length := by simp [Str.length]
  rw [hl] at h1 h4 h5
  have hn := line63
  exact tail_any (typeIs_str s z t) slot_str_getitem.lookup (getItem_str (c := c) (by
    have e1 : decide (i < -(2 ^ 63 : Int)) = false := decide_eq_false (by omega)
    have e2 : decide (i ≥ 2 ^ 63) = false := decide_eq_false (by omega)
    rw [e1, e2, Bool.or_false]) (by rw [h1]; simpa using h2) ⟨.str ⟨#[c]⟩, H, I.tok _, ⟨_, rfl⟩, q⟩) hs
def rIx (K : PySem.W.Frag) : R2 := fun x y H Q => rIxL K x y H Q ∨ rIxT K x y H Q ∨ rIxS x y H Q
def rSetL : V → V → V → Hp → (Hp → Prop) → Prop := fun o i v H Q => ∃ p xs k j, o = .ref p ∧ i = .int k ∧ H p = some (.lst xs) ∧ ixN xs.length k = some j ∧ Q (upd H p (.lst (xs.set j v)))
theorem slice_bounds (lo hi : Option Int) (n : Nat) : (sliceBounds lo hi none n).1 = ((HT.sIx n 0 lo : Nat) : Int) ∧ (sliceBounds lo hi none n).2.1 = ((HT.sIx n n hi : Nat) : Int) ∧ (sliceBounds lo hi none n).2.2 = 1 := by
  refine ⟨?_, ?_, rfl⟩
  · cases lo with
    | none => simp [sliceBounds, HT.sIx]
    | some i =>
      simp only [sliceBounds, HT.sIx, Option.getD_none, show (1 : Int) > 0 by decide, if_true]
      by_cases h : i < 0
      · simp only [h, if_true] <;> omega
      · simp only [h, if_false] <;> omega
  · cases hi with
    | none => simp [sliceBounds, HT.sIx]
    | some i =>
      simp only [sliceBounds, HT.sIx, Option.getD_none, show (1 : Int) > 0 by decide, if_true]
      by_cases h : i < 0
      · simp only [h, if_true] <;> omega
      · simp only [h, if_false] <;> omega
theorem slicePick_cut (its : List Value) (lo hi : Option Int) : slicePick its.toArray lo hi none = ((its.drop (HT.sIx its.length 0 lo)).take (HT.sIx its.length its.length hi - HT.sIx its.length 0 lo)).toArray := by
  obtain ⟨h1, h2, h3⟩ := slice_bounds lo hi its.toArray.size
  unfold slicePick
  rw [h1, h2, h3]
  simp only [sliceRange_one, pick_run, List.size_toArray] <;> rfl
def rSlL (K : PySem.W.Frag) : V → Option Int → Option Int → Hp → VK → Prop := fun x lo hi H Q => ∃ a xs, x = .ref a ∧ SqL K H a xs ∧ ∀ p, H p = none → Q (.ref p) (upd H p (.lst (cutV xs lo hi)))
theorem sl_list : SlR X (rSlL X.K) := by
  intro pins s σ H x v vl vu lo hi sl Q I rx hs pl pu h
  obtain ⟨a, xs, rfl, hx, q⟩ := h
  cases rx
  obtain ⟨its, r, ht, hz⟩ := I.list hx
  have hlen := r.length
  refine ⟨"list", _, slot_list_getitem.lookup, ht.isList.typeIs, ?_⟩
  refine wpAny_getItem_list_slice ht.isList hs pl pu .none (by simp) ?_ (by rw [List.size_toArray] <;> omega)
  rw [slicePick_cut, ← hlen]
  refine ⟨.ref s.heap.objs.size, _, I.laid (t' := s.toks) (o := .lst (cutV xs lo hi)) (fun b ob q => Heap.get?_push_of_some _ q) (Nat.le_refl _) ?_, rfl, q _ (I.hok.fresh (Nat.le_refl _))⟩
  exact ⟨Nat.le_trans (cutV_length xs lo hi) hz, _, 0, (r.drop (HT.sIx xs.length 0 lo)).take (HT.sIx xs.length xs.length hi - HT.sIx xs.length 0 lo), Heap.get?_push_size _ rfl⟩
def flatV : V → Bool
  | .non => true
  | .bl _ => true
  | .int _ => true
  | .str _ => true
  | _ => false
def eqV : V → V → Bool
  | .non, .non => true
  | .bl a, .bl b => a == b
  | .bl a, .int b => (if a then 1 else 0) == b
  | .int a, .bl b => a == (if b then 1 else 0)
  | .int a, .int b => a == b
  | .str a, .str b => a == b
  | _, _ => false
theorem eqAt_V {A : Around} {s : Shared} {y x : V} {u v : Value} (ry : RelV y u) (rx : RelV x v) (fy : flatV y = true) (fx : flatV x = true) : SeqAt.EqAt A s u v (eqV y x) := by
  cases y with
  | non =>
    cases ry
    cases x with
    | non => cases rx; exact SeqAt.EqAt.same _
    | bl b => cases rx; exact SeqAt.EqAt.none_bool b
    | int b => obtain ⟨t, rfl⟩ := rx; exact SeqAt.EqAt.none_int b t
    | str b => obtain ⟨t, rfl⟩ := rx; exact SeqAt.EqAt.none_str b t
    | _ => exact absurd (show false = true from fx) Bool.false_ne_true
  | bl a =>
    cases ry
    cases x with
    | non => cases rx; exact SeqAt.EqAt.bool_none a
    | bl b => cases rx; exact SeqAt.EqAt.bool_bool a b
    | int b => obtain ⟨t, rfl⟩ := rx; exact SeqAt.EqAt.bool_int a b t
    | str b => obtain ⟨t, rfl⟩ := rx; exact SeqAt.EqAt.bool_str a b t
    | _ => exact absurd (show false = true from fx) Bool.false_ne_true
  | int a =>
    obtain ⟨t', rfl⟩ := ry
    cases x with
    | non => cases rx; exact SeqAt.EqAt.int_none a t'
    | bl b => cases rx; exact SeqAt.EqAt.int_bool a t' b
    | int b => obtain ⟨t, rfl⟩ := rx; exact SeqAt.EqAt.int_int a t' b t
    | str b => obtain ⟨t, rfl⟩ := rx; exact SeqAt.EqAt.int_str a t' b t
    | _ => exact absurd (show false = true from fx) Bool.false_ne_true
  | str a =>
    obtain ⟨t', rfl⟩ := ry
    cases x with
    | non => cases rx; exact SeqAt.EqAt.str_none a t'
    | bl b => cases rx; exact SeqAt.EqAt.str_bool a t' b
    | int b => obtain ⟨t, rfl⟩ := rx; exact SeqAt.EqAt.str_int a t' b t
    | str b => obtain ⟨t, rfl⟩ := rx; exact SeqAt.EqAt.str_str a t' b t
    | _ => exact absurd (show false = true from fx) Bool.false_ne_true
  | _ => exact absurd (show false = true from fy) Bool.false_ne_true
def eqU (x : V) (u : Value) : Bool := match u with
  | .none => eqV .non x
  | .bool b => eqV (.bl b) x
  | .int i _ => eqV (.int i) x
  | .str z _ => eqV (.str z) x
  | _ => false
theorem eqU_of {x y : V} {u : Value} (r : RelV y u) (f : flatV y = true) : eqU x u = eqV y x := by
  cases y with
  | non => cases r; rfl
  | bl b => cases r; rfl
  | int i => obtain ⟨t, rfl⟩ := r; rfl
  | str z => obtain ⟨t, rfl⟩ := r; rfl
  | _ => exact absurd (show false = true from f) Bool.false_ne_true
theorem any_eqU {x : V} : ∀ {xs : List V} {us : List Value}, Vals xs us → xs.all flatV = true → us.any (eqU x) = xs.any fun y => eqV y x
  | _, _, .nil, _ => rfl
  | y :: xs, u :: us, .cons r t, f => by
    rw [List.all_cons, Bool.and_eq_true] at f
    rw [List.any_cons, List.any_cons, eqU_of r f.1, any_eqU t f.2]
theorem mem_eqAt {A : Around} {s : Shared} {x : V} {v : Value} (rx : RelV x v) (fx : flatV x = true) : ∀ {xs : List V} {us : List Value}, Vals xs us → xs.all flatV = true → ∀ u ∈ us, SeqAt.EqAt A s u v (eqU x u)
  | _, _, .nil, _ => fun u hu => by cases hu
  | y :: xs, u :: us, .cons r t, f => fun u' hu => by
    rw [List.all_cons, Bool.and_eq_true] at f
    rcases List.mem_cons.mp hu with rfl | hu
    · rw [eqU_of r f.1]; exact eqAt_V r rx f.1 fx
    · exact mem_eqAt rx fx t f.2 u' hu
def inV (x : V) (xs : List V) : Bool := xs.any fun y => eqV y x
def rIn (K : PySem.W.Frag) (neg : Bool) : R2 := fun x y H Q => ∃ p xs, y = .ref p ∧ (SqL K H p xs ∨ SqT K H p xs) ∧ flatV x = true ∧ xs.all flatV = true ∧ Q (.bl (if neg then !inV x xs else inV x xs)) H
theorem op_in_seq : OpR X (compareOp .In) (rIn X.K false) := by
  intro pins s σ H x y v u Q I rx ry h
  obtain ⟨p, xs, rfl, hq, fx, fs, q⟩ := h
  cases ry
  rcases hq with hq | hq
  · obtain ⟨its, r, pl, hz⟩ := I.list hq
    refine SeqAt.in_listAt (eqU x) pl.isList (fun w hw => mem_eqAt rx fx r fs w (by simpa using hw)) ⟨.bl _, H, I, rfl, ?_⟩
    rw [show its.toArray.any (eqU x) = its.any (eqU x) by simp, any_eqU r fs]
    exact q
  · obtain ⟨its, r, pl, hz⟩ := I.tuple hq
    refine SeqAt.in_tupleAt (eqU x) pl (fun w hw => mem_eqAt rx fx r fs w (by simpa using hw)) ⟨.bl _, H, I, rfl, ?_⟩
    rw [show its.toArray.any (eqU x) = its.any (eqU x) by simp, any_eqU r fs]
    exact q
theorem call_len_seq : CallR X (.builtin "len") (fun xs H Q => ∃ p ys, xs = [.ref p] ∧ (SqL X.K H p ys ∨ SqT X.K H p ys) ∧ Q (.int ys.length) H) := by
  intro pins s σ H xs us Q I r h
  obtain ⟨p, ys, rfl, hq, q⟩ := h
  obtain ⟨u, rfl, rx⟩ := vals1 r
  cases rx
  have hn := line63
  rcases hq with hq | hq
  · obtain ⟨its, r', pl, hz⟩ := I.list hq
    have hlen := r'.length
    exact Calls.call_len_list pl.isList (by simp only [List.size_toArray] <;> omega) ⟨.int ys.length, H, I.tok _, ⟨s.toks + 1, by rw [List.size_toArray, hlen]⟩, q⟩
  · obtain ⟨its, r', pl, hz⟩ := I.tuple hq
    have hlen := r'.length
    exact len_tuple pl (by simp only [List.size_toArray] <;> omega) ⟨.int ys.length, H, I.tok _, ⟨s.toks + 1, by rw [List.size_toArray, hlen]⟩, q⟩
theorem call_len_str : CallR X (.builtin "len") (fun xs H Q => ∃ z, xs = [.str z] ∧ z.length ≤ sizeLine ∧ Q (.int z.length) H) := by
  intro pins s σ H xs us Q I r h
  obtain ⟨z, rfl, hz, q⟩ := h
  obtain ⟨u, rfl, t, rfl⟩ := vals1 r
  have hn := line63
  exact len_str (by omega) ⟨.int z.length, H, I.tok _, ⟨_, rfl⟩, q⟩
theorem call_list_of : CallR X (.type "list") (fun xs H Q => ∃ p ys, xs = [.ref p] ∧ (SqL X.K H p ys ∨ SqT X.K H p ys) ∧ ∀ l, H l = none → Q (.ref l) (upd H l (.lst ys))) := by
  intro pins s σ H xs us Q I r h
  obtain ⟨p, ys, rfl, hq, q⟩ := h
  obtain ⟨u, rfl, rx⟩ := vals1 r
  cases rx
  have fin : ∀ (its : List Value), Vals ys its → ys.length ≤ sizeLine → ∀ (h' : Heap) (c' : Nat), (∀ b o', s.heap.get? b = some o' → h'.get? b = some o') →
      h'.get? s.heap.objs.size = some { cls := .type "list", dict := none, data := .seq its.toArray c', slots := #[] } → EP X pins σ Q (.ref s.heap.objs.size) { s with heap := h' } := fun its r' hz h' c' kp e =>
    ⟨.ref s.heap.objs.size, _, I.laid (t' := s.toks) kp (Nat.le_refl _) (show ObjOk X.prog X.w _ h' _ (.lst ys) from ⟨hz, its, c', r', e⟩), rfl, q _ (I.hok.fresh (Nat.le_refl _))⟩
  rcases hq with hq | hq
  · obtain ⟨its, r', pl, hz⟩ := I.list hq
    have hlen := r'.length
    obtain ⟨o, ho, hc, n, hd⟩ := pl.isList
    exact call_list_seq p (.inl rfl) ho hc hd (fun h' c' kp e => fin its r' hz h' c' kp e) (by simp only [List.size_toArray] <;> omega)
  · obtain ⟨its, r', pl, hz⟩ := I.tuple hq
    have hlen := r'.length
    obtain ⟨o, ho, hc, n, hd⟩ := pl
    exact call_list_seq p (.inr rfl) ho hc hd (fun h' c' kp e => fin its r' hz h' c' kp e) (by simp only [List.size_toArray] <;> omega)
theorem call_tuple_of : CallR X (.type "tuple") (fun xs H Q => ∃ p ys, xs = [.ref p] ∧ ((SqL X.K H p ys ∧ ∀ l, H l = none → Q (.ref l) (upd H l (.tup ys))) ∨ (SqT X.K H p ys ∧ Q (.ref p) H))) := by
  intro pins s σ H xs us Q I r h
  obtain ⟨p, ys, rfl, h⟩ := h
  obtain ⟨u, rfl, rx⟩ := vals1 r
  cases rx
  rcases h with ⟨hq, q⟩ | ⟨hq, q⟩
  · obtain ⟨its, r', pl, hz⟩ := I.list hq
    have hlen := r'.length
    refine call_tuple_list pl.isList (fun h' kp => ?_) (by simp only [List.size_toArray] <;> omega)
    have I1 : Inv X pins σ H { s with heap := h' } := I.kept (t' := s.toks) kp
    have I2 : Inv X pins σ (upd H h'.objs.size (.tup ys)) { s with heap := h'.push { cls := .type "tuple", data := .seq its.toArray } } :=
      I1.laid (t' := s.toks) (fun b o e => Heap.get?_push_of_some _ e) (Nat.le_refl _) (show ObjOk X.prog X.w _ _ _ (.tup ys) from ⟨hz, its, r', IsTup.new _ _⟩)
    exact ⟨.ref h'.objs.size, _, I2, rfl, q _ (I1.hok.fresh (Nat.le_refl _))⟩
  · obtain ⟨its, r', pl, hz⟩ := I.tuple hq
    exact call_tuple_same pl ⟨.ref p, H, I, rfl, q⟩
def tyV (K : PySem.W.Frag) (T : String) (x : V) (H : Hp) : Prop := match x with
  | .str _ => T = "str"
  | .int _ => T = "int"
  | .ref p => (T = "list" ∧ ∃ xs, SqL K H p xs) ∨ (T = "tuple" ∧ ∃ o, K.lookup p = some o ∧ o.cls = .type "tuple" ∧ o.dict = none) ∨
      (T = "dict" ∧ ((∃ kvs, H p = some (.dK kvs)) ∨ ∃ kvs, H p = some (.dT kvs))) ∨ (T = "set" ∧ ∃ S n, H p = some (.set S n))
  | _ => False
theorem tyV_is {pins : List (Addr × Obj)} {σ : St} {H : Hp} {s : Shared} {T : String} {x : V} {v : Value} (I : Inv X pins σ H s) (r : RelV x v) (ty : tyV X.K T x H) :
    s.TypeIs v T ∧ ∀ a, v = .ref a → ∃ ob, s.heap.get? a = some ob ∧ ob.dict = none := by
  cases x with
  | str z =>
    obtain ⟨t, rfl⟩ := r
    cases (show T = "str" from ty)
    exact ⟨typeIs_str s z t, fun _ e => nomatch e⟩
  | int i =>
    obtain ⟨t, rfl⟩ := r
    cases (show T = "int" from ty)
    exact ⟨typeIs_int s i t, fun _ e => nomatch e⟩
  | ref p =>
    cases r
    rcases ty with ⟨rfl, xs, hq⟩ | ⟨rfl, o, hk, hc, hd⟩ | ⟨rfl, hk⟩ | ⟨rfl, S, n, hk⟩
    · obtain ⟨its, _, pl, _⟩ := I.list hq
      refine ⟨pl.isList.typeIs, fun a e => ?_⟩
      cases e
      obtain ⟨o, n, e, c, hd, _⟩ := pl
      exact ⟨o, e, hd⟩
    · refine ⟨⟨o, I.kIn p o hk, hc⟩, fun a e => ?_⟩
      cases e
      exact ⟨o, I.kIn _ o hk, hd⟩
    · have z : ∃ o, s.heap.get? p = some o ∧ o.ExactDict := by
        rcases hk with ⟨kvs, hk⟩ | ⟨kvs, hk⟩
        · obtain ⟨_, _, _, _, o, _, _, e, ex, _⟩ := I.hok p _ hk
          exact ⟨o, e, ex⟩
        · obtain ⟨_, _, _, _, o, _, _, e, ex, _⟩ := I.hok p _ hk
          exact ⟨o, e, ex⟩
      obtain ⟨o, e, ex⟩ := z
      refine ⟨⟨o, e, ex.1⟩, fun a e2 => ?_⟩
      cases e2
      exact ⟨o, e, ex.2.1⟩
    · obtain ⟨o, _, _, _, e, ex, _⟩ := I.hok p _ hk
      refine ⟨⟨o, e, ex.1⟩, fun a e2 => ?_⟩
      cases e2
      exact ⟨o, e, ex.2.1⟩
  | _ => exact False.elim ty
def tBM0 (K : PySem.W.Frag) (T : String) (r : V → List V → Hp → VK → Prop) (to : TE) : TE := fun σ H Q => to σ H fun x H1 => tyV K T x H1 ∧ r x [] H1 Q
def tBM (K : PySem.W.Frag) (T : String) (r : V → List V → Hp → VK → Prop) (to : TE) (t : TA) : TE := fun σ H Q => to σ H fun x H1 => tyV K T x H1 ∧ t σ H1 fun xs H2 => r x xs H2 Q
variable {o e : Expr} {es : List Expr} {to : TE} {t : TA} {name : Str} {apos cpos : Pos} {T id : String} {r : V → List V → Hp → VK → Prop}
theorem pe_bm0 (pa : PlainAttrs T) (slot : Slot T name id) (hty : typeOf (.builtin id) = pure (.type "method_descriptor")) (hm : MtR X id r) (ho : PE X o to)
    (hbase : attributeBase o name X.env (eval o X.env) = eval o X.env := by rfl) (hline : (apos.endLine == cpos.line) = true := by rfl) : PE X (.Call (.Attribute o name apos) [] [] cpos) (tBM0 X.K T r to) := by
  intro pins s σ H Q I h
  refine wpAny_Call_method0_late hbase hline (thn (ho pins s σ H _ I h) fun v s1 ⟨x, H1, I1, r1, ty, q1⟩ => ?_)
  obtain ⟨h1, h2⟩ := tyV_is I1 r1 ty
  exact ⟨T, id, pa, slot, hty, h1, h2, Calls.callWith_builtin rfl (PySem.evalArgs_none (hm pins s1 σ H1 x [] v [] Q I1 r1 .nil q1))⟩
theorem pe_bm (pa : PlainAttrs T) (slot : Slot T name id) (hty : typeOf (.builtin id) = pure (.type "method_descriptor")) (hm : MtR X id r) (ho : PE X o to) (ha : PA X (e :: es) t)
    (hbase : attributeBase o name X.env (eval o X.env) = eval o X.env := by rfl)
    (hfew : ((backTo cpos (starEach (e :: es) X.env)).all (fun x => !x.1) && (backToKw cpos (keywordEach [] X.env)).all (fun x => x.1.isSome)
      && decide ((e :: es).length + ([] : List Keyword).length + (if ([] : List Keyword).isEmpty then 0 else 1) < 30)) = true := by rfl)
    (hline : (apos.endLine == cpos.line) = true := by rfl) (hs : starEach (e :: es) X.env = (false, eval e X.env) :: starEach es X.env := by rfl) (hplain : (backTo cpos (starEach es X.env)).any (·.1) = false := by rfl) :
    PE X (.Call (.Attribute o name apos) (e :: es) [] cpos) (tBM X.K T r to t) := by
  intro pins s σ H Q I h
  refine wpAny_Call_method_late hbase hfew hline rfl (thn (ho pins s σ H _ I h) fun v s1 ⟨x, H1, I1, r1, ty, q1⟩ => ?_)
  obtain ⟨h1, h2⟩ := tyV_is I1 r1 ty
  refine ⟨T, id, pa, slot, hty, h1, h2, ?_⟩
  have hA := ha cpos pins s1 σ H1 _ I1 q1
  rw [hs] at hA ⊢
  refine Calls.callWith_builtin (by show (false || (backTo cpos (starEach es X.env)).any (·.1)) = false; rw [hplain] <;> rfl) (Calls.evalArgs_plain ?_)
  exact thn hA fun us s2 ⟨vs, H2, I2, r2, q2⟩ => hm pins s2 σ H2 x vs v us Q I2 r1 r2 q2
/- xs.append(e), list.index on a module's tuple .. are MtR facts of 06m -/
end
end L2
namespace L2
open PySem PySem.Spec PyProof.Rows
def MtM (X : Cx) (id : String) (r : V → List V → Hp → VK → Prop) : Prop :=
  ∀ (pins : List (Addr × Obj)) (s : Shared) (σ : St) (H : Hp) (x : V) (xs : List V) (v : Value) (us : List Value) (Q : VK), Inv X pins σ H s → RelV x v → Vals xs us → r x xs H Q →
    wpAny (model X.prog X.w) X.A (call (.builtin id) (v :: us)) (EP X pins σ Q) X.xe s
theorem Vals.one : ∀ {x : V} {us : List Value}, Vals [x] us → ∃ u, us = [u] ∧ RelV x u
  | _, _, .cons r .nil => ⟨_, rfl, r⟩
theorem Vals.two : ∀ {x y : V} {us : List Value}, Vals [x, y] us → ∃ u v, us = [u, v] ∧ RelV x u ∧ RelV y v
  | _, _, _, .cons r (.cons q .nil) => ⟨_, _, rfl, r, q⟩
theorem Vals.zero : ∀ {us : List Value}, Vals [] us → us = []
  | _, .nil => rfl
theorem Vals.dropLast {xs : List V} {us : List Value} (h : Vals xs us) : Vals xs.dropLast us.dropLast := by
  induction h with
  | nil => exact .nil
  | cons r t ih =>
    cases t with
    | nil => exact .nil
    | cons q t' => exact .cons r ih
theorem Vals.rep {xs : List V} {us : List Value} (h : Vals xs us) : ∀ k : Nat, Vals (List.replicate k xs).flatten (List.replicate k us).flatten
  | 0 => .nil
  | k + 1 => by
    rw [List.replicate_succ, List.replicate_succ, List.flatten_cons, List.flatten_cons]
    exact Vals.append h (Vals.rep h k)
theorem erase_last {α : Type} (l : List α) : l.eraseIdx (l.length - 1) = l.dropLast := by
  induction l with
  | nil => rfl
  | cons a r ih =>
    cases r with
    | nil => rfl
    | cons b r =>
      have e : (a :: b :: r).length - 1 = ((b :: r).length - 1) + 1 := by
        have h1 : (a :: b :: r).length = r.length + 2 := rfl
        have h2 : (b :: r).length = r.length + 1 := rfl
        omega
      rw [e, List.eraseIdx_cons_succ, ih]
      all_goals rfl
theorem foldl_rep (its : List Value) : ∀ (k : Nat) (acc : List Value),
    List.foldl (fun x1 x2 => x1 ++ x2) acc.toArray (List.replicate k its.toArray) = (acc ++ (List.replicate k its).flatten).toArray
  | 0, acc => by simp
  | k + 1, acc => by
    have e : acc.toArray ++ its.toArray = (acc ++ its).toArray := by simp
    have e2 : (acc ++ its) ++ (List.replicate k its).flatten = acc ++ (List.replicate (k + 1) its).flatten := by
      rw [List.replicate_succ, List.flatten_cons, List.append_assoc]
    rw [← e2, ← foldl_rep its k (acc ++ its), ← e, List.replicate_succ, List.foldl_cons]
section
variable {X : Cx} {pins : List (Addr × Obj)} {σ : St} {H : Hp} {s : Shared} {l b : Addr} {xs ys zs : List V}
theorem Inv.lset {its its' : List Value} {n : Nat} {f : Array Value → Array Value} {t' : Nat} (I : Inv X pins σ H s) (hH : H l = some (.lst xs))
    (e : s.heap.get? l = some { cls := .type "list", data := .seq its.toArray n }) (hf : f its.toArray = its'.toArray) (hv : Vals ys its') (hz : ys.length ≤ sizeLine) :
    Inv X pins σ (upd H l (.lst ys)) { s with heap := s.heap.update l (Obj.mapSeq f), toks := t' } := by
  have q := PySem.IsL.update e f
  rw [hf] at q
  refine I.write (x := l) (e := l) (by rw [hH]; exact trivial) (.inl rfl) (fun b' u hb hu => (Heap.get?_update_other s.heap (Obj.mapSeq f) (Ne.symm hb)).trans hu) ⟨_, q⟩ ?_
  exact ⟨hz, its', _, hv, q⟩
theorem Inv.lnew {its : List Value} {t' : Nat} (I : Inv X pins σ H s) (hv : Vals ys its) (hz : ys.length ≤ sizeLine) :
    Inv X pins σ (upd H s.heap.objs.size (.lst ys)) { s with heap := s.heap.push { cls := .type "list", data := .seq its.toArray }, toks := t' } :=
  I.laid (fun _ _ q => Heap.get?_push_of_some _ q) (Nat.le_refl _) ⟨hz, its, 0, hv, Heap.get?_push_size _ rfl⟩
theorem Inv.fresh (I : Inv X pins σ H s) : H s.heap.objs.size = none := I.hok.fresh (Nat.le_refl _)
theorem Inv.lstM (I : Inv X pins σ H s) (hH : H l = some (.lst xs)) : xs.length ≤ sizeLine ∧ ∃ (its : List Value) (n : Nat), Vals xs its ∧ xs.length = its.length ∧ s.heap.get? l = some { cls := .type "list", data := .seq its.toArray n } := by
  obtain ⟨z, its, n, r, e⟩ := I.hok l _ hH
  exact ⟨z, its, n, r, r.length, e⟩
theorem notLongL {n : Nat} (h : n ≤ sizeLine) : Builtin.List.listTooLong n = false := by
  unfold Builtin.List.listTooLong
  exact decide_eq_false (by omega)
end
section
variable {X : Cx}
def rAppend : V → List V → Hp → VK → Prop := fun x vs H Q => ∃ l xs y, x = .ref l ∧ vs = [y] ∧ H l = some (.lst xs) ∧ xs.length < sizeLine ∧ Q .non (upd H l (.lst (xs ++ [y])))
theorem mt_append : MtM X "list.append" rAppend := by
  intro pins s σ H x vs v us Q I rx rv h
  obtain ⟨l, xs, y, rfl, rfl, hH, hz, q⟩ := h
  cases rx
  obtain ⟨u, rfl, ru⟩ := rv.one
  obtain ⟨z, its, n, r, hl, e⟩ := I.lstM hH
  refine call_meets F.slot_list_append ⟨_, e, rfl⟩ F.entry_list_append (F.args_list_append_2 _ _) (PySem.list_append l its.toArray n u (by rw [List.size_toArray]; omega)) ⟨e, ?_⟩
  refine ⟨.non, _, I.lset (its' := its ++ [u]) hH e (by simp) (r.append (.cons ru .nil)) ?_, rfl, q⟩
  rw [List.length_append, List.length_singleton]
  omega
def rExtend : V → List V → Hp → VK → Prop := fun x vs H Q => ∃ l b xs zs, x = .ref l ∧ vs = [.ref b] ∧ H l = some (.lst xs) ∧ H b = some (.lst zs) ∧ xs.length + zs.length ≤ sizeLine ∧ Q .non (upd H l (.lst (xs ++ zs)))
def rPop : V → List V → Hp → VK → Prop := fun x vs H Q => ∃ l xs y, x = .ref l ∧ vs = [] ∧ H l = some (.lst xs) ∧ xs[xs.length - 1]? = some y ∧ Q y (upd H l (.lst xs.dropLast))
theorem mt_pop : MtM X "list.pop" rPop := by
  intro pins s σ H x vs v us Q I rx rv h
  obtain ⟨l, xs, y, rfl, rfl, hH, hy, q⟩ := h
  cases rx
  have hus := rv.zero
  subst hus
  obtain ⟨z, its, n, r, hl, e⟩ := I.lstM hH
  obtain ⟨u, hu, ru⟩ := r.get hy
  have hy' : its.toArray[its.toArray.size - 1]? = some u := by
    show its.toArray[its.length - 1]? = some u
    rw [← Array.getElem?_toList, ← hl]
    exact hu
  refine call_meets F.slot_list_pop ⟨_, e, rfl⟩ F.entry_list_pop (F.args_list_pop_1 _) (MeetsSeq.list_pop_last l its.toArray n u hy' (by rw [List.size_toArray]; omega)) ⟨e, ?_⟩
  refine ⟨y, _, I.lset (its' := its.dropLast) hH e ?_ r.dropLast ?_, ru, q⟩
  · show its.toArray.eraseIdxIfInBounds (its.toArray.size - 1) = its.dropLast.toArray
    rw [List.size_toArray, List.eraseIdxIfInBounds_toArray, erase_last]
  · rw [List.length_dropLast]
    omega
def rPopAt : V → List V → Hp → VK → Prop := fun x vs H Q => ∃ l xs i k y, x = .ref l ∧ vs = [.int i] ∧ H l = some (.lst xs) ∧ -(2 ^ 63) ≤ i ∧ i < 2 ^ 63 ∧ seqIndex? i xs.length = some k ∧ xs[k]? = some y ∧ Q y (upd H l (.lst (xs.eraseIdx k)))
def rReverse : V → List V → Hp → VK → Prop := fun x vs H Q => ∃ l xs, x = .ref l ∧ vs = [] ∧ H l = some (.lst xs) ∧ Q .non (upd H l (.lst xs.reverse))
def rClear : V → List V → Hp → VK → Prop := fun x vs H Q => ∃ l xs, x = .ref l ∧ vs = [] ∧ H l = some (.lst xs) ∧ Q .non (upd H l (.lst []))
def rCat : R2 := fun x y H Q => ∃ l b xs zs, x = .ref l ∧ y = .ref b ∧ H l = some (.lst xs) ∧ H b = some (.lst zs) ∧ xs.length + zs.length ≤ sizeLine ∧ ∀ p, H p = none → Q (.ref p) (upd H p (.lst (xs ++ zs)))
theorem op_cat : OpR X (binaryOp .Add) rCat := by
  intro pins s σ H x y v u Q I rx ry h
  obtain ⟨l, b, xs, zs, rfl, rfl, hH, hB, hz, q⟩ := h
  cases rx
  cases ry
  obtain ⟨z, its, n, r, hl, e⟩ := I.lstM hH
  obtain ⟨z2, its2, n2, r2, hl2, e2⟩ := I.lstM hB
  refine PySem.P.add_list e e2 ?_ (by rw [List.size_toArray, List.size_toArray]; omega)
  have ea : its.toArray ++ its2.toArray = (its ++ its2).toArray := by simp
  rw [ea]
  exact ⟨.ref _, _, I.lnew (t' := s.toks) (r.append r2) (by rw [List.length_append]; omega), rfl, q _ I.fresh⟩
def rRep : R2 := fun x y H Q => ∃ l k xs, x = .ref l ∧ y = .int k ∧ H l = some (.lst xs) ∧ -(2 ^ 63) ≤ k ∧ k < 2 ^ 63 ∧ xs.length * k.toNat ≤ sizeLine ∧
  ∀ p, H p = none → Q (.ref p) (upd H p (.lst (List.replicate k.toNat xs).flatten))
theorem len_rep {α : Type} (xs : List α) (k : Nat) : (List.replicate k xs).flatten.length = k * xs.length := by
  induction k with
  | zero => simp
  | succ k ih => rw [List.replicate_succ, List.flatten_cons, List.length_append, ih, Nat.succ_mul, Nat.add_comm]
theorem op_rep : OpR X (binaryOp .Mult) rRep := by
  intro pins s σ H x y v u Q I rx ry h
  obtain ⟨l, k, xs, rfl, rfl, hH, h1, h2, hz, q⟩ := h
  cases rx
  obtain ⟨t, rfl⟩ := ry
  obtain ⟨z, its, n, r, hl, e⟩ := I.lstM hH
  have hlen : its.toArray.size * k.toNat ≤ sizeLine := by rw [List.size_toArray, ← hl]; exact hz
  have hcap : ¬ its.toArray.size * k.toNat > (2 ^ 63 - 1) / 8 := by
    have : (sizeLine : Nat) ≤ (2 ^ 63 - 1) / 8 := by decide
    omega
  have hfit : ¬ (!Builtin.List.listFitsIndex k) = true := by
    rw [fitsIndex_both h1 h2]
    exact Bool.false_ne_true
  have hlong : ¬ Builtin.List.listTooLong (its.toArray.size * k.toNat) = true := by
    rw [notLongL hlen]
    exact Bool.false_ne_true
  have hnew : List.foldl (fun x1 x2 => x1 ++ x2) #[] (List.replicate (if its.toArray.isEmpty = true then 0 else k.toNat) its.toArray) = (List.replicate k.toNat its).flatten.toArray := by
    have f0 : ∀ m : Nat, List.foldl (fun x1 x2 => x1 ++ x2) #[] (List.replicate m its.toArray) = (List.replicate m its).flatten.toArray := fun m => by
      have := foldl_rep its m []
      rw [List.nil_append] at this
      exact this
    rw [f0]
    cases its with
    | nil => simp
    | cons a r' => rw [if_neg (by simp)]
  refine wpAny_binaryOp_repeat_ref (T := "list") (U := "int") (by decide) ⟨_, e, rfl⟩ (fun s' => typeIs_int s' k t) noFill_list_mul F.fills_int_mul F.slot_int_rmul repeat_list F.slot_int_index.lookup
    (call_meets F.slot_int_rmul (typeIs_int s k t) F.entry_int_rmul (F.args_int_rmul_2 _ _) (int___rmul___int_list k t l its.toArray n)
      ⟨e, rfl, ⟨_, e, rfl⟩, call_meets F.slot_list_mul ⟨_, e, rfl⟩ F.entry_list_mul (F.args_list_mul_2 _ _) (AutoListH.list___mul___list_int_3 l its.toArray n k t hfit hcap hlong) ⟨e, ?_⟩⟩)
  rw [hnew]
  exact ⟨.ref _, _, I.lnew (t' := s.toks) (r.rep k.toNat) (by rw [len_rep, Nat.mul_comm]; exact hz), rfl, q _ I.fresh⟩
end
section
variable {prog : Program} {w : World} {A : Around} {E : Value → Shared → Prop} {s : Shared}
end
section
variable {X : Cx}
end
end L2
namespace Att
open PySem PySem.W PySem.Calls PyProof.Rows
theorem ints_of_wellAll {P : Params} {h : Heap} : ∀ (ns : List Int) (vs : List Value), WellAll P h vs (ns.map WData.int) → IntsAre vs ns := by
  intro ns
  induction ns with
  | nil =>
    intro vs w
    rw [List.map_nil] at w
    cases w
    exact .nil
  | cons n ns ih =>
    intro vs w
    rw [List.map_cons] at w
    cases w with
    | cons a b =>
      cases a
      exact .cons _ _ (ih _ b)
theorem script_of {l : OpenLaw} {n : Nat} (hn : l.most = some n) {P : Params} {h : Heap} {args : List WData} {vals : List Value}
    (hpre : l.row.toRowW.claim.pre args = true) (hwl : WellAll P h vals args) :
    ∃ a vs ns, vals = [Value.ref a] ∧ args = [WData.list (ns.map WData.int)] ∧ h.get? a = some { cls := .type "list", data := .seq vs.toArray } ∧ IntsAre vs ns ∧ ns.length ≤ n := by
  have hsh : WShape.hasAll [] args [.list .int] = true := (pre_splitW hpre).1
  have hc : l.pre.holds [] { args := args } = true := (pre_splitW hpre).2
  obtain ⟨d, r, rfl, h1, h2⟩ := hasAllW_cons hsh
  obtain rfl := hasAllW_nil h2
  obtain ⟨xs, rfl, h3⟩ := hasW_list h1
  obtain ⟨ns, rfl⟩ := items_int h3
  have hlen : ns.length ≤ n := by
    unfold OpenLaw.pre at hc
    have h4 : (WTm.not (.lt (.lit (.int (n : Int))) (.len (.arg 0)))).holds [] { args := [.list (ns.map .int)] } = true := by
      have h4 := (holds_andW hc).1
      rw [hn] at h4
      exact h4
    have h5 := condW_of h4 (w_not (w_lt w_lit (w_len_list (w_arg rfl))))
    rw [List.length_map] at h5
    refine Nat.le_of_not_lt fun q => ?_
    have q' : (n : Int) < ((ns.length : Nat) : Int) := by omega
    first
      | (rw [decide_eq_true q'] at h5; exact absurd h5 (by decide))
      | (simp at h5; omega)
  cases hwl with
  | cons w1 w2 =>
    cases w2
    cases w1 with
    | list ho hall => exact ⟨_, _, ns, rfl, rfl, ho, ints_of_wellAll ns _ hall, hlen⟩
theorem post_true (l : OpenLaw) (args : List WData) : l.row.toRowW.claim.post args (.bool true) args = true :=
  postW_of (r := l.row.toRowW) (X := (true == true))
    (show WShape.has [] (.bool true) .bool = true by first | rfl | decide | simp [WShape.has, WShape.arms, WShape.armsAll])
    (show (WTm.eq .res (.lit (.bool true))).value [] { args := args, res := some (.bool true), after := args } = some (.bool (true == true)) from w_eq_bool (w_res rfl) w_lit) rfl
theorem attach_call {l : OpenLaw} {n : Nat} {q : Program} {loose : List Str} {XP : (Str → Option Value) → Heap → Prop} {YP : World → Heap → Prop} {d : DefRec}
    (hn : l.most = some n) (hdf : d.params.defaults = [])
    (call : ∀ (w : World) (s₀ s₁ : Shared) (mg mb : Str → Option Value) (fa : Addr) (o : Obj) (pm cd doc : Value) (a : Addr) (vs : List Value) (ns : List Int),
      Ground q loose [] XP w s₀ mg mb s₁.heap → YP w s₁.heap →
      s₁.heap.get? fa = some o → o.data = .func (docDef d.name d.params d.body d.scope pm cd doc) → s₁.heap.CodeRec cd d.name → mg d.name = some (.ref fa) →
      s₁.heap.get? a = some { cls := .type "list", data := .seq vs.toArray } → IntsAre vs ns → ns.length ≤ n → s₁.gens = #[] →
      codeAny (model l.prog w) callerA (.call (.ref fa) ⟨[.ref a], []⟩) (fun r s' => r = .ok (.ret (.bool true)) ∧ OldK s₁.heap s'.heap ∧ s'.os = s₁.os ∧ AllBare s'.gens) s₁) :
    WalkO q loose XP YP l.row.toRowW d [] (fun f vs => PySem.call f vs) := by
  intro w s₀ s₁ mg mb G Y fa o pm cd doc dV kV ho hd hcd hD hmg hg args vals as hpre hlay hrd hwl hlo
  obtain rfl : dV = .none := Dflts.none hD hdf
  obtain rfl : kV = .none := Dflts.noKw hD
  obtain ⟨a, vs, ns, rfl, rfl, hobj, hints, hlen⟩ := script_of hn hpre hwl
  refine enter_call (codeAny_mono (call w s₀ s₁ mg mb fa o pm cd doc a vs ns G Y ho (fd_plain hd) hcd hmg hobj hints hlen hg) fun r s' hq => ?_)
  obtain ⟨rfl, h2, h3, h4⟩ := hq
  exact ⟨.inl ⟨.bool true, .bool true, [], rfl, fun _ => rfl, .bool true, post_true l _, fun _ => ⟨List.Pairwise.nil, fun _ hm => (nomatch hm)⟩⟩, h2, h3, h4⟩
section
variable {prog : Program} {w : World} {A : Around} {E : Value → Shared → Prop} {s : Shared} {K : Frag}
def noObjs (h : Heap) : Heap := { h with objs := #[] }
def ledger (h : Heap) (L d : Addr) : List (Addr × Obj) := (List.range h.objs.size).filterMap fun a => if a = L ∨ a = d then none else (h.get? a).map fun o => (a, o)
end
end Att
namespace L2
open PySem PySem.Spec PyProof.Rows
theorem vals_ints : ∀ {vs : List Value} {ns : List Int}, IntsAre vs ns → Vals (ns.map V.int) vs
  | _, _, .nil => .nil
  | _, _, .cons n t h => .cons ⟨t, rfl⟩ (vals_ints h)
def Only (H : Hp) : Prop := ∀ b, H b = none ∨ ∃ o xs, H b = some (.frz o (.lst xs))
theorem law_call {P : Program} {w : World} {K : PySem.W.Frag} {mg mb : Str → Option Value} {CX : CXT} {k : Nat} {fa a : Addr} {fd : FuncData} {x : Str} {sp : Sp} {s₁ : Shared} {vs : List Value} {ns : List Int}
    (KX : K.In s₁.heap) (hns : s₁.heap.Ns mainGlobals mg) (hb : s₁.heap.Ns builtinsNs mb) (hbb : ∀ x : Str, x ≠ "__name__" → mb x = bootBuiltins x) (hlim : s₁.heap.NoLimit) (hg : s₁.gens = #[])
    (ha : s₁.heap.get? a = some { cls := .type "list", data := .seq vs.toArray }) (hi : IntsAre vs ns) (hl : ns.length ≤ sizeLine) (hr : Room k callerA)
    (F : ∀ base : Heap, K.In base → base.Ns mainGlobals mg → FnOk P w K mg base CX k fa fd [x] sp) (hbind : ∀ (s : Shared) (u : Value), BindsTo s fd ⟨[u], []⟩ [(x, u)])
    (hsp : ∀ H : Hp, Only H → SqL K H a (ns.map V.int) → sp [.ref a] H (fun v _ => v = .bl true) fun _ _ _ => False)
    (hCX : ∀ H e s', CX [] H s₁ (fun _ _ _ => False) e s' → False) :
    codeAny (model P w) callerA (.call (.ref fa) ⟨[.ref a], []⟩) (fun r s' => r = .ok (.ret (.bool true)) ∧ OldK s₁.heap s'.heap ∧ s'.os = s₁.os ∧ AllBare s'.gens) s₁ := by
  have rv := vals_ints hi
  have lenV := hi.length
  -- from an abstract heap in which nothing but the script may be tracked
  have core : ∀ H : Hp, Only H → SqL K H a (ns.map V.int) → HOk P w H s₁.heap → (∀ b, H b ≠ none → b = a) → (H a ≠ none → K.lookup a = none) →
      codeAny (model P w) callerA (.call (.ref fa) ⟨[.ref a], []⟩) (fun r s' => r = .ok (.ret (.bool true)) ∧ OldK s₁.heap s'.heap ∧ s'.os = s₁.os ∧ AllBare s'.gens) s₁ := by
    intro H hO hS hok hA hK
    have base_of : ∀ {b : Addr} {o : Obj}, s₁.heap.get? b = some o → H b = none → (hidT s₁.heap H).get? b = some o := fun e n => hidT_get e n
    have noA : ∀ {b : Addr} {o : Obj} {es : Array DictEntry} {ep : Nat}, s₁.heap.get? b = some o → o.data = .dict es ep → H b = none := fun {b o es ep} e d => by
      cases q : H b with
      | none => rfl
      | some u =>
        have e' : b = a := hA b (by rw [q]; simp)
        subst e'
        rw [ha] at e; cases e
        have d' : Data.seq vs.toArray _ = Data.dict es ep := d
        cases d'
    have nsK : ∀ {b : Addr} {m : Str → Option Value}, s₁.heap.Ns b m → (hidT s₁.heap H).Ns b m := fun {b m} ⟨o, es, ep, e, d, r⟩ => ⟨o, es, ep, base_of e (noA e d), d, r⟩
    have hKb : K.In (hidT s₁.heap H) := fun b o e => base_of (KX b o e) (by
      cases q : H b with
      | none => rfl
      | some u =>
        have e' : b = a := hA b (by rw [q]; simp)
        subst e'
        rw [hK (by rw [q]; simp)] at e; cases e)
    have hM : Mod K mg (hidT s₁.heap H) := ⟨hKb, nsK hns, ⟨mb, nsK hb, hbb⟩, let ⟨mc, h1, h2⟩ := hlim; ⟨mc, nsK h1, h2⟩⟩
    have e0 : Env0 P w K mg (hidT s₁.heap H) callerA [] s₁ H := ⟨rfl, hM, fun b o e => of_hidT e, Nat.le_of_eq (hidT_size _ _), trivial, fun b hb => absurd (show b ∈ ([] : List Addr) from hb) (by simp), hok, .of_eq hg⟩
    refine codeAny_mono ((F _ hKb (nsK hns)).run callerA [] s₁ H ⟨[.ref a], []⟩ [.ref a] [.ref a] _ _ hr e0 (hbind s₁ (.ref a)) (.cons rfl .nil) (hsp H hO hS)) fun r s' h => ?_
    cases r with
    | error e => exact (hCX H e s' h).elim
    | ok fl =>
      cases fl with
      | next => exact False.elim h
      | brk => exact False.elim h
      | cont => exact False.elim h
      | ret u =>
        obtain ⟨v, H', os, bare, un, hok', r', q⟩ := h
        have q' : v = .bl true := q
        subst q'
        obtain rfl : u = Value.bool true := r'
        refine ⟨rfl, OldK.of_keep fun b o e => ?_, os, bare⟩
        cases q : H b with
        | none => exact un.keep b o e q (by intro z; exact absurd (show b ∈ ([] : List Addr) from z) (by simp)) (by simp)
        | some u =>
          rcases hO b with z | ⟨ob, xs, z⟩
          · rw [q] at z; cases z
          · have z2 := un.frzs b ob _ z
            obtain ⟨e1, _⟩ := hok b _ z
            obtain ⟨e2, _⟩ := hok' b _ z2
            rw [e] at e1; cases e1
            exact e2
  cases hk : K.lookup a with
  | some o =>
    -- the script is one of the module's own objects
    have e := KX a o hk
    rw [ha] at e
    cases e
    refine core (fun _ => none) (fun _ => .inl rfl) (.inr ⟨_, vs.toArray, _, hk, rfl, rfl, rfl, by rw [List.size_toArray, lenV]; exact hl, by simpa using rv⟩) (fun b u z => by have z' : (none : Option HO) = some u := z; cases z') (fun b z => absurd rfl z) fun z => absurd rfl z
  | none =>
    refine core (fun b => if b = a then some (.frz { cls := .type "list", data := .seq vs.toArray } (.lst (ns.map V.int))) else none) (fun b => ?_) (.inl (.inr ⟨{ cls := .type "list", data := .seq vs.toArray }, if_pos rfl⟩)) (fun b u z => ?_) (fun b z => ?_) fun _ => hk
    · by_cases hb : b = a
      · exact .inr ⟨_, _, if_pos hb⟩
      · exact .inl (if_neg hb)
    · by_cases hb : b = a
      · have z' := (if_pos hb).symm.trans z
        cases z'
        subst hb
        exact ⟨ha, by rw [List.length_map]; exact hl, vs, _, rv, ha⟩
      · have z' := (if_neg hb).symm.trans z
        cases z'
    · by_cases hb : b = a
      · exact hb
      · exact absurd (if_neg hb) z
end L2
namespace L2
open PySem PySem.Spec PyProof.Rows
abbrev KOf {K : PySem.W.Frag} {h : Heap} (_ : K.In h) : PySem.W.Frag := K
theorem walk_of {l : PySem.W.OpenLaw} {n k : Nat} {q : Program} {loose : List Str} {XP : (Str → Option Value) → Heap → Prop} {YP : World → Heap → Prop} {d : DefRec} {K : Params → PySem.W.Frag} {CX : World → CXT} {sp : World → Sp} {x : Str}
    (hn : l.most = some n) (hn2 : n ≤ sizeLine) (hdf : d.params.defaults = []) (hr : Room k callerA)
    (hY : ∀ (w : World) (h : Heap), YP w h → (K w.params).In h)
    (F : ∀ (w : World) (mg : Str → Option Value) (fa : Addr) (h : Heap), (K w.params).In h → h.Ns mainGlobals mg → mg d.name = some (.ref fa) →
      ∃ fd : FuncData, (∀ (s : Shared) (u : Value), BindsTo s fd ⟨[u], []⟩ [(x, u)]) ∧
        ∀ base : Heap, (K w.params).In base → base.Ns mainGlobals mg → FnOk l.prog w (K w.params) mg base (CX w) k fa fd [x] (sp w))
    (hsp : ∀ (w : World) (H : Hp) (a : Addr) (ns : List Int), ns.length ≤ n → Only H → SqL (K w.params) H a (ns.map V.int) → sp w [.ref a] H (fun v _ => v = .bl true) fun _ _ _ => False)
    (hCX : ∀ (w : World) (H : Hp) (s : Shared) (e : Value) (s' : Shared), CX w [] H s (fun _ _ _ => False) e s' → False) :
    PySem.W.WalkO q loose XP YP l.row.toRowW d [] (fun f vs => PySem.call f vs) := by
  refine Att.attach_call hn hdf fun w s₀ s₁ mg mb fa o pm cd doc a vs ns G Y ho hd hcd hmg hobj hints hlen hg => ?_
  have KX := hY w _ Y
  obtain ⟨fd, hb, hF⟩ := F w mg fa _ KX G.T.g hmg
  exact law_call KX G.T.g G.T.b G.T.builtins G.T.nolimit hg hobj hints (Nat.le_trans hlen hn2) hr hF hb (fun H hO hS => hsp w H a ns hlen hO hS) fun H e s' => hCX w H s₁ e s'
end L2
namespace L2
open PySem PySem.Spec PyProof.Rows
def inClass (s : Stmt) (j : Nat) : Stmt := match s with
  | .ClassDef _ _ _ body _ _ _ _ _ _ _ => body.getD j (.Pass ⟨0, 0, 0, 0⟩)
  | _ => .Pass ⟨0, 0, 0, 0⟩
def defArgs (s : Stmt) : Arguments := match s with
  | .FunctionDef _ a _ _ _ _ _ _ _ _ => a
  | _ => { posonlyargs := [], args := [], vararg := none, kwonlyargs := [], kw_defaults := [], kwarg := none, defaults := [] }
def defBody (s : Stmt) : List Stmt := match s with
  | .FunctionDef _ _ b _ _ _ _ _ _ _ => b
  | _ => []
def defScope (s : Stmt) : Scope := match s with
  | .FunctionDef _ _ _ _ _ _ sc _ _ _ => sc
  | _ => { kind := .function, names := [], isGenerator := false, isCoroutine := false }
abbrev CX0 : CXT := fun _ _ _ _ _ _ => False
abbrev E0 : XK := fun _ _ _ => False
theorem pass0 {X : Cx} : Passes CX0 X E0 := fun _ _ _ _ _ _ _ h => h.elim
structure Fun (K : PySem.W.Frag) (x qual : Str) (st : Stmt) (f : Addr) (fd : FuncData) : Prop where
  ex : ∃ (oc : Value) (od : Option Addr) (kV doc pm : Value) (an : Option Addr) (cdv ct : Value) (osl : Array (Option Value)),
    fd = PySem.W.fnOf x qual (defArgs st) (defBody st) (defScope st) .none kV doc pm an cdv ct ∧ K.lookup f = some ⟨oc, od, .func fd, osl⟩ ∧ PySem.W.codeIn K cdv qual = true
  kp : PySem.W.keepIn K (.ref f) = true
section
variable {P : Program} {w : World} {K : PySem.W.Frag} {mg : Str → Option Value} {base : Heap}
theorem Fun.ok {x qual : Str} {st : Stmt} {f : Addr} {fd : FuncData} {N ps : List Str} {k : Nat} {sp : Sp} (F : Fun K x qual st f fd) (S : FnScope N ps (defScope st)) (len : ∀ vs H Q E, sp vs H Q E → vs.length = ps.length)
    (hbody : ∀ (cdv : Value) (A : Around) (outer : List Env) (s : Shared) (H : Hp) (vs : List V) (Q : VK) (E : XK), Room k (A.deeper (envOfC qual (defScope st) s.heap.objs.size f cdv)) → sp vs H Q E →
      ∃ t, PSs (cxOf CX0 P w K mg base N qual (defScope st) f cdv A outer s H E).nox (defBody st) t ∧ t { nx := fun _ H' => Q .non H', rt := Q } (start N vs) H) : FnOk P w K mg base CX0 (k + 1) f fd ps sp := by
  obtain ⟨oc, od, kV, doc, pm, an, cdv, ct, osl, rfl, lk, hcd⟩ := F.ex
  refine fn_of lk hcd S len fun A outer s H vs Q E hr hsp => ?_
  obtain ⟨t, h, q⟩ := hbody cdv A outer s H vs Q E hr hsp
  exact ⟨t, h.nox, q⟩
theorem Fun.binds {x qual : Str} {st : Stmt} {f : Addr} {fd : FuncData} {ps : List Str} (F : Fun K x qual st f fd)
    (h : ∀ (kV doc pm : Value) (an : Option Addr) (cdv ct : Value) (us : List Value), us.length = ps.length → bindArgs (PySem.W.fnOf x qual (defArgs st) (defBody st) (defScope st) .none kV doc pm an cdv ct) ⟨us, []⟩ = pure (ps.zip us)) : Binds K fd ps [] := by
  obtain ⟨oc, od, kV, doc, pm, an, cdv, ct, osl, rfl, lk, hcd⟩ := F.ex
  exact .all (h kV doc pm an cdv ct)
theorem fun_mk {x qual : Str} {st : Stmt} {f : Addr} {oc : Value} {od an : Option Addr} {osl : Array (Option Value)} {kV doc pm cdv ct : Value} (l : K.lookup f = some ⟨oc, od, .func (PySem.W.fnOf x qual (defArgs st) (defBody st) (defScope st) .none kV doc pm an cdv ct), osl⟩)
    (c : PySem.W.codeIn K cdv qual = true) (k : PySem.W.keepIn K (.ref f) = true) : Fun K x qual st f (PySem.W.fnOf x qual (defArgs st) (defBody st) (defScope st) .none kV doc pm an cdv ct) := ⟨⟨oc, od, kV, doc, pm, an, cdv, ct, osl, rfl, l, c⟩, k⟩
end
section
variable {X : Cx}
theorem pv (i : Nat) {x : Str} {pos : Pos} (hN : X.N[i]? = some x := by rfl) (hv : Vis X.env.scope x := by first | exact Or.inl rfl | exact Or.inr (Or.inl rfl) | exact Or.inr (Or.inr rfl)) (hd : (x == ("__debug__" : Str)) = false := by decide)
    (hcd : (x == ("__classdict__" : Str)) = false := by decide) : PE X (.Name x pos) (tVar i) := pe_var hN hv hd hcd
end
theorem iteT {A B : Prop} (h : A) : if true = true then A else B := by
  rw [if_pos rfl]
  exact h
theorem ite2 {c A B : Prop} [Decidable c] (h1 : c → A) (h2 : ¬ c → B) : if c then A else B := by
  by_cases h : c
  · rw [if_pos h]
    exact h1 h
  · rw [if_neg h]
    exact h2 h
def Same (H H' : Hp) : Prop := ∀ b o, H b = some o → H' b = some o
theorem Same.refl (H : Hp) : Same H H := fun _ _ h => h
theorem Same.trans {H H1 H2 : Hp} (a : Same H H1) (b : Same H1 H2) : Same H H2 := fun c o h => b c o (a c o h)
theorem Same.free {H H' : Hp} (e : Same H H') {l : Addr} (h : H' l = Option.none) : H l = Option.none := by
  cases q : H l with
  | none => rfl
  | some o =>
    rw [e l o q] at h
    cases h
theorem Same.seq {K : PySem.W.Frag} {H H' : Hp} {a : Addr} {xs : List V} (e : Same H H') (h : SqL K H a xs) : SqL K H' a xs := by
  rcases h with (h | ⟨o, h⟩) | h
  · exact .inl (.inl (e _ _ h))
  · exact .inl (.inr ⟨o, e _ _ h⟩)
  · exact .inr h
end L2
namespace L2
open PySem PySem.Spec PyProof.Rows
section
variable {κ : Type} [DecidableEq κ]
def valV (kvs : List (κ × V)) (k : κ) : Option V := (kvs.find? fun kv => decide (kv.1 = k)).map (·.2)
def putK (kvs : List (κ × V)) (k : κ) (v : V) : List (κ × V) :=
  if (kvs.any fun kv => decide (kv.1 = k)) = true then kvs.map (fun kv => if kv.1 = k then (kv.1, v) else kv) else kvs ++ [(k, v)]
def dropK (kvs : List (κ × V)) (k : κ) : List (κ × V) := kvs.filter fun kv => decide (kv.1 ≠ k)
end
theorem kV_is {P : Program} {w : World} {k : Key} {u : Value} (r : RelV (kV k) u) : (mixKind P w).is k u = true := by
  cases k with
  | inl i => obtain ⟨t, e⟩ := (show ∃ t, u = Value.int i t from r); subst e; exact mixKind_int P w i t
  | inr x => obtain ⟨t, e⟩ := (show ∃ t, u = Value.str x t from r); subst e; exact mixKind_str P w x t
abbrev KT (H : Hp) : List (List Key × V) → List (List Key × Addr × Value) → Prop := Paired fun p q => p.1 = q.1 ∧ H q.2.1 = some (.tup (p.1.map kV)) ∧ RelV p.2 q.2.2
section
variable {P : Program} {w : World} {H : Hp} {h : Heap} {a : Addr}
end
def DGet (H : Hp) (a : Addr) (y : V) (r : Option V) : Prop :=
  (∃ kvs k, Rd H a (.dK kvs) ∧ y = kV k ∧ r = valV kvs k) ∨ ∃ kvs k b, Rd H a (.dT kvs) ∧ y = .ref b ∧ H b = some (.tup (k.map kV)) ∧ r = valV kvs k
def DPut (H : Hp) (a : Addr) (y v : V) (H' : Hp) : Prop :=
  (∃ kvs k, H a = some (.dK kvs) ∧ y = kV k ∧ kvs.length < sizeLine ∧ H' = upd H a (.dK (putK kvs k v))) ∨
  ∃ kvs k b, H a = some (.dT kvs) ∧ y = .ref b ∧ H b = some (.tup (k.map kV)) ∧ kvs.length < sizeLine ∧ H' = upd H a (.dT (putK kvs k v))
section
variable {X : Cx} {pins : List (Addr × Obj)} {σ : St} {H : Hp} {s : Shared} {a : Addr} {y v : V} {u r : Value} {o : Option V} {A : Around} {E : Value → Shared → Prop}
theorem Inv.big (I : Inv X pins σ H s) : sysModules < s.heap.objs.size := by
  have h : mainGlobals < s.heap.objs.size := (I.mod.glob.keeps I.bk).lt
  exact Nat.lt_trans (by decide) h
theorem d_write {h' : Heap} {t' : Nat} {ob : HO} (I : Inv X pins σ H s) (mu : Mut (H a)) (hs : Heap.SameBut a s.heap h') (he : ∃ q, h'.get? a = some q) (new : ObjOk X.prog X.w (upd H a ob) h' a ob) :
    Inv X pins σ (upd H a ob) { s with heap := h', toks := t' } :=
  I.write (x := a) (e := a) mu (.inl rfl) (fun b q hb z => (hs.2 b hb).trans z) he new
end
section
variable {X : Cx} {pins : List (Addr × Obj)} {σ : St} {H : Hp} {s : Shared} {a : Addr} {kvs : List (Key × V)} {k : Key} {u : Value} {A : Around} {E : Value → Shared → Prop}
end
def NoSl (i : Expr) : Prop := ∀ ov iv, subscripted i false ov iv = operate [ov, iv] (getItem ov iv)
theorem subD_of {prog : Program} {w : World} {A : Around} {E : Value → Shared → Prop} {s : Shared} {env : Env} {value slice : Expr} {pos : Pos} {T id : String} {Q : Value → Shared → Prop}
    (hl : typeLookup (.type T) "__getitem__" = pure (some (.builtin id))) (hs : NoSl slice)
    (h : wpAny (model prog w) A (eval value env) (fun o s₁ => wpAny (model prog w) A (eval slice env) (fun i s₂ => s₂.TypeIs o T ∧ wpAny (model prog w) A (getItem o i) Q E s₂) E s₁) E s) :
    wpAny (model prog w) A (eval (.Subscript value slice pos) env) Q E s := by
  refine Subscript_ (wpAny_mono h (fun o s₁ h₁ => wpAny_mono h₁ (fun i s₂ h₂ => ?_) fun _ _ x => x) fun _ _ x => x)
  obtain ⟨hT, h₂⟩ := h₂
  unfold subscriptTail
  refine wpAny_bind ?_
  rw [getitemInPython_of_ne hT.not_modules]
  refine wpAny_bind (wpAny_specialOf hT hl ?_)
  have fin : wpAny (model prog w) A (subscripted slice false o i) (fun r s₃ => wpAny (model prog w) A (letTemporaryGo value o r >>= fun _ => pure r) Q E s₃) E s₂ := by
    rw [hs o i]
    exact wpAny_operating (wpAny_mono h₂ (fun r s₃ h₃ => wpAny_bind (wpAny_letTemporaryGo (wpAny_pure h₃))) fun _ _ x => x)
  first
    | exact wpAny_pure (wpAny_bind fin)
    | exact wpAny_bind (wpAny_pure (wpAny_bind fin))
    | exact wpAny_bind fin
def tDGet (td ty : TE) : TE := fun σ H Q => td σ H fun x H1 => ty σ H1 fun y H2 => ∃ a v, x = .ref a ∧ DGet H2 a y (some v) ∧ Q v H2
def tDIn (ty td : TE) : TE := fun σ H Q => ty σ H fun y H1 => td σ H1 fun x H2 => ∃ a o, x = .ref a ∧ DGet H2 a y o ∧ Q (.bl o.isSome) H2
def tDNotIn (ty td : TE) : TE := fun σ H Q => ty σ H fun y H1 => td σ H1 fun x H2 => ∃ a o, x = .ref a ∧ DGet H2 a y o ∧ Q (.bl (!o.isSome)) H2
def sDPut (td ty tv : TE) : TS := fun D σ H => tv σ H fun v H1 => td σ H1 fun x H2 => ty σ H2 fun y H3 => ∃ a H4, x = .ref a ∧ DPut H3 a y v H4 ∧ D.nx σ H4
def sDAug (td ty tv : TE) (rd : V → V → Hp → VK → Prop) : TS := fun D σ H => td σ H fun x H1 => ty σ H1 fun y H2 => ∃ a v, x = .ref a ∧ DGet H2 a y (some v) ∧
  tv σ H2 fun y2 H3 => rd v y2 H3 fun z H4 => ∃ H5, DPut H4 a y z H5 ∧ D.nx σ H5
def sDDel (td ty : TE) : TS := fun D σ H => td σ H fun x H1 => ty σ H1 fun y H2 => ∃ a kvs k, x = .ref a ∧ H2 a = some (.dK kvs) ∧ y = kV k ∧ (valV kvs k).isSome = true ∧ D.nx σ (upd H2 a (.dK (dropK kvs k)))
section
variable {X : Cx} {o i e value : Expr} {pos pos' tpos : Pos} {td ty tv : TE}
end
def tDNewK : TE := fun _ H Q => ∀ p, H p = none → Q (.ref p) (upd H p (.dK []))
def tDNewT : TE := fun _ H Q => ∀ p, H p = none → Q (.ref p) (upd H p (.dT []))
section
variable {X : Cx} {pos : Pos}
end
def tPairs : List (TE × TE) → St → Hp → (List (V × V) → Hp → Prop) → Prop
  | [], _, H, Q => Q [] H
  | (tk, tv) :: r, σ, H, Q => tk σ H fun x H1 => tv σ H1 fun y H2 => tPairs r σ H2 fun ps H3 => Q ((x, y) :: ps) H3
abbrev VV : List (V × V) → List (Value × Value) → Prop := Paired fun p q => RelV p.1 q.1 ∧ RelV p.2 q.2
def PPs (X : Cx) (pos : Pos) (keys : List (Option Expr)) (values : List Expr) (trs : List (TE × TE)) : Prop :=
  ∀ (pins : List (Addr × Obj)) (s : Shared) (σ : St) (H : Hp) (Q : List (V × V) → Hp → Prop), Inv X pins σ H s → tPairs trs σ H Q →
    wpAny (model X.prog X.w) X.A (evalPairs (pairTrees keys values X.env pos)) (fun vs s' => ∃ ps H', Inv X pins σ H' s' ∧ VV ps vs ∧ Q ps H') X.xe s
def mergeK (kvs more : List (Key × V)) : List (Key × V) := more.foldl (fun acc kv => putK acc kv.1 kv.2) kvs
def tDisp (trs : List (TE × TE)) : TE := fun σ H Q => ∀ p, H p = none → tPairs trs σ (upd H p (.dK [])) fun ps H2 => H2 p = some (.dK []) ∧ ∃ kvs : List (Key × V), ps = kvs.map (fun kv => (kV kv.1, kv.2)) ∧ kvs.length ≤ 15 ∧ Q (.ref p) (upd H2 p (.dK (mergeK [] kvs)))
structure M1 (X : Cx) (o : Expr) (m : Str) (apos : Pos) (e : Expr) (cpos : Pos) : Prop where
  base : attributeBase o m X.env (eval o X.env) = eval o X.env
  few : ((backTo cpos (starEach [e] X.env)).all (fun x => !x.1) && (backToKw cpos (keywordEach [] X.env)).all (fun x => x.1.isSome)
    && decide (([e] : List Expr).length + ([] : List Keyword).length + (if ([] : List Keyword).isEmpty then 0 else 1) < 30)) = true
  line : (apos.endLine == cpos.line) = true
  trees : backTo cpos (starEach [e] X.env) = [(false, eval e X.env)]
structure M2 (X : Cx) (o : Expr) (m : Str) (apos : Pos) (e f : Expr) (cpos : Pos) : Prop where
  base : attributeBase o m X.env (eval o X.env) = eval o X.env
  few : ((backTo cpos (starEach [e, f] X.env)).all (fun x => !x.1) && (backToKw cpos (keywordEach [] X.env)).all (fun x => x.1.isSome)
    && decide (([e, f] : List Expr).length + ([] : List Keyword).length + (if ([] : List Keyword).isEmpty then 0 else 1) < 30)) = true
  line : (apos.endLine == cpos.line) = true
  trees : backTo cpos (starEach [e, f] X.env) = [(false, eval e X.env), (false, eval f X.env)]
def IsD (H : Hp) (a : Addr) : Prop := (∃ kvs, Rd H a (.dK kvs)) ∨ ∃ kvs, Rd H a (.dT kvs)
section
variable {X : Cx} {pins : List (Addr × Obj)} {σ : St} {H : Hp} {s : Shared} {a : Addr} {y d : V} {u r : Value} {o : Option V} {A : Around} {E : Value → Shared → Prop}
end
def tDGet1 (td ty : TE) : TE := fun σ H Q => td σ H fun x H1 => ∃ a, x = .ref a ∧ IsD H1 a ∧ ty σ H1 fun y H2 => ∃ o, DGet H2 a y o ∧ Q (o.getD .non) H2
def tDGet2 (td ty tx : TE) : TE := fun σ H Q => td σ H fun x H1 => ∃ a, x = .ref a ∧ IsD H1 a ∧ ty σ H1 fun y H2 => tx σ H2 fun z H3 => ∃ o, DGet H3 a y o ∧ Q (o.getD z) H3
def tDPop1 (td ty : TE) : TE := fun σ H Q => td σ H fun x H1 => ∃ a, x = .ref a ∧ IsD H1 a ∧ ty σ H1 fun y H2 => ∃ kvs k v, H2 a = some (.dK kvs) ∧ y = kV k ∧ valV kvs k = some v ∧ Q v (upd H2 a (.dK (dropK kvs k)))
def tDPop2 (td ty tx : TE) : TE := fun σ H Q => td σ H fun x H1 => ∃ a, x = .ref a ∧ IsD H1 a ∧ ty σ H1 fun y H2 => tx σ H2 fun z H3 => ∃ kvs k, H3 a = some (.dK kvs) ∧ y = kV k ∧
  (∀ v, valV kvs k = some v → Q v (upd H3 a (.dK (dropK kvs k)))) ∧ (valV kvs k = none → Q z H3)
section
variable {X : Cx} {o e f : Expr} {apos cpos : Pos} {td ty tx : TE}
end
section
variable {X : Cx} {pins : List (Addr × Obj)} {σ : St} {H : Hp} {s : Shared} {a : Addr} {kvs : List (Key × V)} {A : Around} {E : Value → Shared → Prop}
end
section
variable {X : Cx} {pins : List (Addr × Obj)} {σ : St} {H : Hp} {s : Shared} {a : Addr} {y : V} {u : Value} {A : Around} {E : Value → Shared → Prop}
end
end L2
namespace L2
open PySem PySem.Spec PyProof.Rows
theorem closure_fold (env : Env) : ∀ (names : List (Str × NameKind)) (cs : List (Str × Addr)), (∀ x, (x, NameKind.free) ∈ names → ∃ c, env.cells.lookup x = some c) →
    ∃ cl, (forIn names cs fun (p : Str × NameKind) (cs : List (Str × Addr)) => (if (p.2 == NameKind.free) = true then (do let c ← cellOf env p.1; pure (ForInStep.yield ((p.1, c) :: cs))) else pure (ForInStep.yield cs) : Sem (ForInStep (List (Str × Addr))))) = pure cl ∧
      (∀ x c, cl.lookup x = some c → env.cells.lookup x = some c ∨ cs.lookup x = some c) ∧ (∀ x, (x, NameKind.free) ∈ names → ∃ c, cl.lookup x = some c) ∧ (∀ x c, cs.lookup x = some c → ∃ d, cl.lookup x = some d)
  | [], cs, _ => ⟨cs, by simp, fun _ _ h => .inr h, (fun _ h => nomatch h), fun x c h => ⟨c, h⟩⟩
  | (n, k) :: r, cs, h => by
    by_cases hk : k = NameKind.free
    · subst hk
      obtain ⟨c, hc⟩ := h n (List.mem_cons_self ..)
      obtain ⟨cl, e, a, b, d⟩ := closure_fold env r ((n, c) :: cs) (fun x hx => h x (List.mem_cons_of_mem _ hx))
      have hcell : cellOf env n = pure c := by unfold cellOf; rw [hc]
      refine ⟨cl, ?_, fun x c' hx => ?_, fun x hx => ?_, fun x c' hx => ?_⟩
      · rw [List.forIn_cons]
        simp only [beq_self_eq_true, if_true, hcell, pure_bind]
        exact e
      · rcases a x c' hx with q | q
        · exact .inl q
        · rw [List.lookup_cons] at q
          by_cases hxn : (x == n) = true
          · rw [hxn] at q
            have hx' : x = n := by simpa using hxn
            subst hx'
            have : c = c' := by simpa using q
            subst this
            exact .inl hc
          · rw [Bool.eq_false_iff.mpr hxn] at q
            exact .inr q
      · rcases List.mem_cons.mp hx with q | q
        · have hx' : x = n := congrArg Prod.fst q
          subst hx'
          exact d x c (by rw [List.lookup_cons]; simp)
        · exact b x q
      · have : ∃ d', ((n, c) :: cs).lookup x = some d' := by
          rw [List.lookup_cons]
          by_cases hxn : (x == n) = true
          · rw [hxn]; exact ⟨c, rfl⟩
          · rw [Bool.eq_false_iff.mpr hxn]; exact ⟨c', hx⟩
        obtain ⟨d', hd'⟩ := this
        exact d x d' hd'
    · obtain ⟨cl, e, a, b, d⟩ := closure_fold env r cs (fun x hx => h x (List.mem_cons_of_mem _ hx))
      have hkf : (k == NameKind.free) = false := by simpa using hk
      refine ⟨cl, ?_, a, fun x hx => ?_, d⟩
      · rw [List.forIn_cons]
        simp only [hkf, Bool.false_eq_true, if_false, pure_bind]
        exact e
      · rcases List.mem_cons.mp hx with q | q
        · exact absurd (congrArg Prod.snd q).symm hk
        · exact b x q
theorem closure_ok (env : Env) (scope : Scope) (h : ∀ x, (x, NameKind.free) ∈ scope.names → ∃ c, env.cells.lookup x = some c) :
    ∃ cl, closureFor scope env = pure cl ∧ (∀ x c, cl.lookup x = some c → env.cells.lookup x = some c) ∧ (∀ x, (x, NameKind.free) ∈ scope.names → ∃ c, cl.lookup x = some c) := by
  obtain ⟨cl, e, a, b, _⟩ := closure_fold env scope.names [] h
  refine ⟨cl, ?_, fun x c hx => (a x c hx).elim id (fun z => by simp at z), b⟩
  unfold closureFor
  simp only [bind_pure]
  exact e
def cxC (X : Cx) (scope : Scope) (N' : List Str) (cl : List (Str × Addr)) (C : Addr) (s₀ : Shared) (H₀ : Hp) (fp : List Addr) (pn : List (Addr × Obj)) : Cx :=
  { X with N := N', s₀ := s₀, H₀ := H₀, env := compEnvC scope cl C X.env, outer := X.stack, ex := fp, fn := fun _ => false, pn := pn, xe := fun _ _ => False }
inductive Cap (X : Cx) (scope : Scope) : List (Option Nat) → List Str → Prop
  | nil : Cap X scope [] []
  | own {x src N'} : Cap X scope src N' → Cap X scope (none :: src) (x :: N')
  | cap {x i src N'} : X.N[i]? = some x → scope.names.lookup x = some NameKind.free → (X.env.scope.names.lookup x = some NameKind.cell ∨ X.env.scope.names.lookup x = some NameKind.free) → Cap X scope src N' → Cap X scope (some i :: src) (x :: N')
def capSt (src : List (Option Nat)) (σ : St) : St := src.map fun o => match o with | none => none | some i => σ.getD i none
theorem Cap.length {X : Cx} {scope : Scope} : ∀ {src : List (Option Nat)} {N' : List Str}, Cap X scope src N' → src.length = N'.length
  | _, _, .nil => rfl
  | _, _, .own h => congrArg (· + 1) h.length
  | _, _, .cap _ _ _ h => congrArg (· + 1) h.length
theorem Cap.get {X : Cx} {scope : Scope} {σ : St} : ∀ {src : List (Option Nat)} {N' : List Str}, Cap X scope src N' → ∀ (j : Nat) (x : Str) (v : V), N'[j]? = some x → (capSt src σ)[j]? = some (some v) →
    ∃ i : Nat, X.N[i]? = some x ∧ σ[i]? = some (some v) ∧ scope.names.lookup x = some NameKind.free ∧ (X.env.scope.names.lookup x = some NameKind.cell ∨ X.env.scope.names.lookup x = some NameKind.free)
  | _, _, .nil, j, x, v, h, _ => by simp at h
  | _, _, .own h, 0, x, v, _, e => by simp [capSt] at e
  | _, _, .own h, j + 1, x, v, e1, e2 => h.get j x v (by simpa using e1) (by simpa [capSt] using e2)
  | _, _, .cap (x := y) (i := i) hN hf hk h, 0, x, v, e1, e2 => by
    have ex : y = x := by simpa using e1
    subst ex
    refine ⟨i, hN, ?_, hf, hk⟩
    simp only [capSt, List.map_cons, List.getElem?_cons_zero, Option.some.injEq] at e2
    rw [List.getD_eq_getElem?_getD] at e2
    cases q : σ[i]? with
    | none => rw [q] at e2; simp at e2
    | some o => rw [q] at e2; simp at e2; rw [e2]
  | _, _, .cap hN hf hk h, j + 1, x, v, e1, e2 => h.get j x v (by simpa using e1) (by simpa [capSt] using e2)
theorem lookup_relabel (env : Env) (x : Str) : ∀ {names : List (Str × NameKind)},
    (names.map fun (n, k) => if (k == NameKind.free && env.scope.kind == .function && env.kindOf n == some .cell) then (n, NameKind.cell) else (n, k)).lookup x =
      (names.lookup x).map fun k => if (k == NameKind.free && env.scope.kind == .function && env.kindOf x == some .cell) then NameKind.cell else k
  | [] => rfl
  | (n, k) :: r => by
    have ih := @lookup_relabel env x r
    rw [List.map_cons]
    dsimp only
    by_cases hx : (x == n) = true
    · have e : x = n := by simpa using hx
      subst e
      by_cases hc : (k == NameKind.free && env.scope.kind == .function && env.kindOf x == some .cell) = true
      · rw [if_pos hc, List.lookup_cons, List.lookup_cons, hx]
        simp only [Option.map_some]
        rw [if_pos hc]
      · rw [if_neg hc, List.lookup_cons, List.lookup_cons, hx]
        simp only [Option.map_some]
        rw [if_neg hc]
    · have hx' := Bool.eq_false_iff.mpr hx
      by_cases hc : (k == NameKind.free && env.scope.kind == .function && env.kindOf n == some .cell) = true
      · rw [if_pos hc]; simp only [List.lookup_cons, hx']; exact ih
      · rw [if_neg hc]; simp only [List.lookup_cons, hx']; exact ih
theorem lookup_mem_free {names : List (Str × NameKind)} {x : Str} (h : names.lookup x = some NameKind.free) : (x, NameKind.free) ∈ names := PySem.mem_of_lookup h
section
variable {X : Cx}
theorem inv_comp {scope : Scope} {N' : List Str} {src : List (Option Nat)} {cl : List (Str × Addr)} {pins : List (Addr × Obj)} {σ : St} {H : Hp} {s s' : Shared} {h' : Heap} {tk : Nat} {fp : List Addr} {m : Str → Option Value}
    (hk : scope.kind = .function) (hcell : ∀ y ∈ scope.names, y.2 ≠ .cell) (hcap : Cap X scope src N')
    (a : ∀ x c, cl.lookup x = some c → X.env.cells.lookup x = some c) (b : ∀ x, (x, NameKind.free) ∈ scope.names → ∃ c, cl.lookup x = some c)
    (I : Inv X pins σ H s) (hf : ∀ b ∈ fp, FpOk X pins H b) (hfl : ∀ b ∈ fp, b < s.heap.objs.size) (es' : s' = { s with heap := h', toks := tk })
    (keep : ∀ b o, s.heap.get? b = some o → h'.get? b = some o) (hn : h'.Ns s.heap.objs.size m) :
    Inv (cxC X scope N' cl s.heap.objs.size s H fp (X.pn ++ pins)) [] (capSt src σ) H s' := by
  subst es'
  have kindOf : ∀ x, (compEnvC scope cl s.heap.objs.size X.env).kindOf x = (scope.names.lookup x).map fun k => if (k == NameKind.free && X.env.scope.kind == .function && X.env.kindOf x == some .cell) then NameKind.cell else k := fun x => lookup_relabel X.env x
  have freeOf : ∀ x, ((compEnvC scope cl s.heap.objs.size X.env).kindOf x = some .cell ∨ (compEnvC scope cl s.heap.objs.size X.env).kindOf x = some .free) → scope.names.lookup x = some .free := fun x h => by
    rw [kindOf] at h
    cases q : scope.names.lookup x with
    | none => rw [q] at h; simp at h
    | some k =>
      rw [q] at h
      by_cases hkf : k = NameKind.free
      · rw [hkf]
      · have hkf' : (k == NameKind.free) = false := by simpa using hkf
        simp only [Option.map_some, hkf', Bool.false_and, Bool.false_eq_true, if_false] at h
        rcases h with h | h
        · exact absurd (Option.some.inj h) (hcell _ (PySem.mem_of_lookup q))
        · exact absurd (Option.some.inj h) hkf
  refine ⟨⟨I.ok.mod, hk, I.ok.glob, I.ok.blt, Nat.le_refl _, fun x y c h1 h2 => I.ok.inj x y c (a x c h1) (a y c h2), fun x hx => b x (lookup_mem_free (freeOf x hx)), (fun x c z _ => nomatch z), I.ok.hd, I.ok.frames, .inl rfl, fun b' hb => ?_, I.bs, Nat.le_trans I.ok.bsz I.sz, fun b' o e hb => ?_, fun b' hb z => ?_, I.stack, I.stkFree⟩,
    rfl, I.bare, Un.kept keep, ⟨m, hn, fun j x v h1 h2 h3 => ?_⟩, fun x c h => ?_, I.hok.fresh (Nat.le_refl _), fun x c h => I.freeC x c (a x c h), fun p hp => ?_, I.hok.kept keep, ?_⟩
  · obtain ⟨f0, f1, f2, f3, f4, f5⟩ := hf b' hb
    exact ⟨Nat.ne_of_lt (hfl b' hb), fun x c h => f4 x c (a x c h)⟩
  · obtain ⟨f0, f1, f2, f3, f4, f5⟩ := hf b' hb
    rcases f3 with z | z
    · exact I.ok.noex b' o e z
    · exact absurd (Nat.lt_of_lt_of_le (Heap.lt_size e) (Nat.le_trans I.ok.bsz z)) (Nat.lt_irrefl _)
  · obtain ⟨f0, f1, f2, f3, f4, f5⟩ := hf b' hb
    rcases List.mem_cons.mp (I.stkSub b' z) with e | e
    · exact f1 e
    · exact f2 e
  · obtain ⟨i, e1, e2, e3, e4⟩ := hcap.get j x v h1 h2
    obtain ⟨m0, hn0, hl⟩ := I.loc
    obtain ⟨u, r, l⟩ := hl i x v e1 e2 (by rcases e4 with e4 | e4; exact .inr (.inl e4); exact .inr (.inr e4))
    refine ⟨u, r, ?_⟩
    rcases l with ⟨l, _⟩ | ⟨k, c, e, z⟩
    · have l' : X.env.scope.names.lookup x = some NameKind.local := l
      rcases e4 with e4 | e4 <;> (rw [e4] at l'; cases l')
    · refine .inr ⟨?_, ?_⟩
      · show (compEnvC scope cl s.heap.objs.size X.env).kindOf x = some .cell ∨ (compEnvC scope cl s.heap.objs.size X.env).kindOf x = some .free
        rw [kindOf, e3]
        simp only [Option.map_some]
        split
        · exact .inl rfl
        · exact .inr rfl
      · obtain ⟨c', hc'⟩ := b x (lookup_mem_free e3)
        have := a x c' hc'
        rw [e] at this
        cases this
        obtain ⟨o, ho, hd⟩ := z
        exact ⟨c, hc', o, keep _ _ ho, hd⟩
  · obtain ⟨v, o, ho, hd⟩ := I.cell x c (a x c h)
    exact ⟨v, o, keep _ _ ho, hd⟩
  · have hp' : p ∈ X.pn ++ pins := by simpa [cxC] using hp
    obtain ⟨e, n, ne, nf, d⟩ := I.pin p hp'
    refine ⟨keep _ _ e, n, Nat.ne_of_lt (Heap.lt_size e), fun z => ?_, d⟩
    rcases List.mem_cons.mp (I.stkSub p.1 z) with q | q
    · exact ne q
    · exact nf q
  · show (capSt src σ).length = N'.length
    rw [← hcap.length]
    simp [capSt]
end
end L2
namespace L2
open PySem PySem.Spec PyProof.Rows
section
variable {prog : Program} {w : World} {A : Around} {R : Result → Shared → Prop} {s : Shared}
theorem comp_loop {elt tg iter : Expr} {ifs : List Expr} {scope : Scope} {pos : Pos} {it acc : Value} {env : Env} (J : Nat → Shared → Prop)
    (turn : ∀ n s, J n s → wpAny (model prog w) A (pyNext it) (fun r s₁ => match r with
        | none => R (.ok .next) s₁
        | some v => wpAny (model prog w) A (letOwnedTupleGo tg it v) (fun _ z₁ => wpAny (model prog w) A (assign tg env v) (fun _ s₂ =>
            wpAny (model prog w) A (forIn ifs true fun c r => if r = true then do let ok ← isTrue c env (eval c env); pure (ForInStep.yield ok) else pure (ForInStep.yield r))
              (fun ok s₃ => if ok = true then wpAny (model prog w) A (eval elt env) (fun x s₄ => wpAny (model prog w) A (call (.builtin "list.append") [acc, x]) (fun _ s₅ => ∃ m, m < n ∧ J m s₅) (fun _ _ => False) s₄) (fun _ _ => False) s₃
                else ∃ m, m < n ∧ J m s₃) (fun _ _ => False) s₂) (fun _ _ => False) z₁) (fun _ _ => False) s₁) (fun _ _ => False) s)
    (n : Nat) (h : J n s) : codeAny (model prog w) A (.compLoop (.ListComp elt [⟨tg, iter, ifs, 0⟩] scope pos) 0 it acc env) R s := by
  refine codeAny_loop rfl J (fun n s hJ => ?_) n h
  show wpAny _ A (Sem.onRaise (compTurn (.ListComp elt [⟨tg, iter, ifs, 0⟩] scope pos) 0 it acc env) (fun x => do noteFrame x env; theTreesLotGoes x)) _ _ s
  refine wpAny_noted ?_
  rw [compTurn_list]
  have no : ∀ {E : Value → Shared → Prop}, ∀ (e : Value) (s' : Shared), False → E e s' := fun _ _ f => f.elim
  refine wpAny_bind (wpAny_standAt (wpAny_bind (wpAny_mono (turn n s hJ) (fun r s₁ h₁ => ?_) no)))
  cases r with
  | none => exact wpAny_pure h₁
  | some v =>
    refine wpAny_bind (wpAny_mono h₁ (fun _ z₁ hz => ?_) no)
    refine wpAny_bind (wpAny_mono hz (fun _ s₂ h₂ => wpAny_bind (wpAny_mono h₂ (fun ok s₃ h₃ => ?_) no)) no)
    cases ok with
    | false => exact wpAny_pure ⟨rfl, h₃⟩
    | true =>
      exact wpAny_bind (wpAny_bind (wpAny_mono h₃ (fun x s₄ h₄ => wpAny_bind (wpAny_mono h₄ (fun _ s₅ h₅ => wpAny_pure (wpAny_pure ⟨rfl, h₅⟩)) no)) no))
end
def PTs (X : Cx) (ifs : List Expr) (t : TT) : Prop :=
  ∀ (pins : List (Addr × Obj)) (s : Shared) (σ : St) (H : Hp) (Q : Bool → Hp → Prop), Inv X pins σ H s → t σ H Q →
    wpAny (model X.prog X.w) X.A (forIn ifs true fun c r => if r = true then do let ok ← isTrue c X.env (eval c X.env); pure (ForInStep.yield ok) else pure (ForInStep.yield r)) (TP X pins σ Q) X.xe s
def tYes : TT := fun _ H Q => Q true H
theorem pts_nil {X : Cx} : PTs X [] tYes := fun _ _ _ H _ I h => wpAny_tests_nil ⟨H, I, h⟩
def LC (src : List (Option Nat)) (J : It) (g : TG) (tt : TT) (te : TE) (σ : St) (H1 : Hp) (Q : VK) (D : Addr) : Prop := ∃ W : Nat → Nat → List V → St → Hp → Prop, (∃ m, W 0 m [] (capSt src σ) (upd H1 D (.lst []))) ∧
  ∀ i m ys σ' H2, W i m ys σ' H2 → H2 D = some (.lst ys) ∧ ((J.stop i H2 ∧ Q (.ref D) H2) ∨ (J.go i H2 ∧ ∃ N : List V → St → Hp → Prop, (∀ ys' σ3 H3, N ys' σ3 H3 → ∃ m', m' < m ∧ W (i + 1) m' ys' σ3 H3) ∧ ∀ x H3, J.yld i H2 x H3 → g x σ' H3 fun σ2 H4 => tt σ2 H4 fun b H5 =>
    if b = true then te σ2 H5 fun y H6 => H6 D = some (.lst ys) ∧ ys.length < sizeLine ∧ N (ys ++ [y]) σ2 (upd H6 D (.lst (ys ++ [y])))
    else N ys σ2 H5))
def tLC (src : List (Option Nat)) (wi : TI) (g : TG) (tt : TT) (te : TE) : TE := fun σ H Q => wi σ H fun J H1 => ∀ D, H1 D = none → LC src J g tt te σ H1 Q D
section
variable {X : Cx}
theorem pe_lc {elt tg iter : Expr} {ifs : List Expr} {scope : Scope} {pos : Pos} {src : List (Option Nat)} {N' : List Str} {wi : TI} {g : TG} {tt : TT} {te : TE} (hcap : Cap X scope src N') (hc : X.calm = true) (hi : PI X tg iter wi)
    (hg : ∀ cl C s₀ H₀ fp pn, PG (cxC X scope N' cl C s₀ H₀ fp pn) tg g) (ht : ∀ cl C s₀ H₀ fp pn, PTs (cxC X scope N' cl C s₀ H₀ fp pn) ifs tt) (he : ∀ cl C s₀ H₀ fp pn, PE (cxC X scope N' cl C s₀ H₀ fp pn) elt te)
    (hfree : ∀ x, (x, NameKind.free) ∈ scope.names → X.env.scope.names.lookup x = some NameKind.cell ∨ X.env.scope.names.lookup x = some NameKind.free)
    (hk : scope.kind = .function := by rfl) (hcell : ∀ y ∈ scope.names, y.2 ≠ .cell := by decide) (hnames : ∀ y ∈ scope.names, y.2 = .local → scope.names.lookup y.1 = some .local := by decide +kernel)
    (hs : ∀ x, foldedSetIterable iter X.env x = pure x := by intro _; rfl) : PE X (.ListComp elt [⟨tg, iter, ifs, 0⟩] scope pos) (tLC src wi g tt te) := by
  intro pins s σ H Q I h
  have no : ∀ {E : Value → Shared → Prop}, ∀ (e : Value) (s' : Shared), False → E e s' := fun _ _ f => f.elim
  obtain ⟨cl, hcl, a, b⟩ := closure_ok X.env scope fun x hx => I.ok.has x (hfree x hx)
  rw [eval_ListComp]
  refine wpAny_comprehension_free (use := none) rfl hs hcl hk hnames (thn (hi pins s σ H _ I h) fun v s1 h1 => thn h1 fun itv s2 h2 => ?_)
  obtain ⟨it, fp, tn, J, H2, e, I2, T, st2, f2, q⟩ := h2
  subst e
  have hD : H2 s2.heap.objs.size = none := I2.hok.fresh (Nat.le_refl _)
  obtain ⟨W, ⟨m0, w0⟩, turn⟩ := q s2.heap.objs.size hD
  have I3 := I2.lnew (t' := s2.toks) (ys := []) (its := []) .nil (Nat.zero_le _)
  have fl2 : ∀ b ∈ fp, b < s2.heap.objs.size := fun b hb => by
    obtain ⟨o, e, _⟩ := T.obj _ _ st2 b hb
    exact Heap.lt_size e
  refine wpAny_newObj_type ?_
  generalize es3 : ({ s2 with heap := s2.heap.push { cls := .type "list", dict := none, data := .seq ([] : List Value).toArray } } : Shared) = s3
  have I3' : Inv X pins σ (upd H2 s2.heap.objs.size (.lst [])) s3 := es3 ▸ I3
  have keep3 : ∀ b o, s2.heap.get? b = some o → s3.heap.get? b = some o := fun b o e => by rw [← es3]; exact Heap.get?_push_of_some _ e
  have st3 : tn 0 s3.heap := T.keep _ _ _ st2 fun b _ o e => keep3 b o e
  have fl3 : ∀ b ∈ fp, b < s3.heap.objs.size := fun b hb => by
    obtain ⟨o, e, _⟩ := T.obj _ _ st3 b hb
    exact Heap.lt_size e
  have f3 : ∀ b ∈ fp, FpOk X pins (upd H2 s2.heap.objs.size (.lst [])) b := fun b hb => ⟨by rw [upd_ne (Nat.ne_of_lt (fl2 b hb))]; exact (f2 b hb).1, (f2 b hb).2⟩
  generalize eD : s2.heap.objs.size = D at *
  generalize eH3 : upd H2 D (.lst []) = H3 at *
  refine wpAny_newFunctionEnv hcell (by intro y hy; simp at hy) (fun h₁ hns₁ hsb₁ => ?_) hk
  have keep4 : ∀ b o, s3.heap.get? b = some o → h₁.get? b = some o := fun b o e => hsb₁.extBut b o (Nat.ne_of_lt (Heap.lt_size e)) (Heap.get?_push_of_some _ e)
  have I4 := inv_comp (N' := N') (src := src) (tk := s3.toks + ([] : List (Str × Value)).length) hk hcell hcap a b I3' f3 fl3 rfl keep4 hns₁
  -- the iterator's objects, through the block
  have stat : ∀ {H' : Hp}, (∀ b ∈ fp, H' b = none) → ∀ b ∈ fp, FpOk (cxC X scope N' cl s3.heap.objs.size s3 H3 fp (X.pn ++ pins)) [] H' b := fun hn b' hb => by
    obtain ⟨f0, f1, fs, fe, f4, f5⟩ := f3 b' hb
    refine ⟨hn b' hb, Nat.ne_of_lt (fl3 b' hb), fun z => ?_, .inl hb, fun x c h => f4 x c (a x c h), fun p hp => f5 p (by simpa [cxC] using hp)⟩
    rcases List.mem_cons.mp (I3'.stkSub b' z) with e | e
    · exact f1 e
    · exact fs e
  -- behind the block
  have fin : ∀ {H' : Hp} {s' : Shared} {σ' : St} {pins' : List (Addr × Obj)}, Inv (cxC X scope N' cl s3.heap.objs.size s3 H3 fp (X.pn ++ pins)) pins' σ' H' s' → ∀ h', Heap.SameBut s3.heap.objs.size s'.heap h' → Inv X pins σ H' { s' with heap := h' } := fun {H' s' σ' pins'} J' h' sb => by
    have same : ∀ b o, b ≠ s3.heap.objs.size → s'.heap.get? b = some o → h'.get? b = some o := fun b o hb e => sb.extBut b o hb e
    have u : Un (frs X.stack) fp H3 H' s3.heap s'.heap := J'.base
    refine I3'.call' (s' := { s' with heap := h' }) (ch := fp) J'.os ⟨fun b o e n hb hx => ?_, fun b o e n hb hx => ?_, u.free, fun b o e hx => ?_, u.tups, u.frzs, u.tbls⟩ (fun b o e => ?_) J'.bare fun b hb => ?_
    · exact same b o (Nat.ne_of_lt (Heap.lt_size e)) (u.keep b o e n hb hx)
    · obtain ⟨sl, z⟩ := u.slot b o e n hb hx
      exact ⟨sl, same b _ (Nat.ne_of_lt (Heap.lt_size e)) z⟩
    · obtain ⟨o', z⟩ := u.there b o e hx
      exact ⟨o', same b o' (Nat.ne_of_lt (Heap.lt_size e)) z⟩
    · have nC : ∀ c v, H' c = some v → c ≠ s3.heap.objs.size := fun c v z q => by
        have := J'.free
        rw [show (cxC X scope N' cl s3.heap.objs.size s3 H3 fp (X.pn ++ pins)).env.locals = s3.heap.objs.size from rfl, ← q, z] at this
        cases this
      refine (J'.hok b o e).stay (fun c v hc q => same c v ?_ q) (fun _ q => q) fun _ _ q => q
      rcases hc with z | z
      · rw [z]; exact nC b o e
      · exact nC c _ z
    · obtain ⟨f0, f1, fs, fe, f4, f5⟩ := f3 b hb
      exact ⟨fe, f1, f4, f5⟩
  have loop : codeAny (model X.prog X.w) X.A (.compLoop (.ListComp elt [⟨tg, iter, ifs, 0⟩] scope pos) 0 (.ref it) (.ref D) (compEnvC scope cl s3.heap.objs.size X.env))
      (compPost (model X.prog X.w) X.A X.xe none (EP X pins σ Q) (.ref D) s3.heap.objs.size) { s3 with heap := h₁, toks := s3.toks + ([] : List (Str × Value)).length } := by
    refine comp_loop (fun n s' => ∃ i ys σ' H', Inv (cxC X scope N' cl s3.heap.objs.size s3 H3 fp (X.pn ++ pins)) [] σ' H' s' ∧ tn i s'.heap ∧ (∀ b ∈ fp, H' b = none) ∧ W i n ys σ' H') ?_ m0 ⟨0, [], capSt src σ, H3, I4, T.keep _ _ _ st3 fun b _ o e => keep4 b o e, fun b hb => (f3 b hb).1, w0⟩
    rintro n s5 ⟨i, ys, σ5, H5, I5, st5, fr5, w5⟩
    obtain ⟨hDs, stop | go⟩ := turn i n ys σ5 H5 w5
    · obtain ⟨stop, qn⟩ := stop
      refine thn (T.done (cxC X scope N' cl s3.heap.objs.size s3 H3 fp (X.pn ++ pins)) rfl rfl rfl hc i [] s5 σ5 H5 _ I5 (stat fr5) st5 stop) fun r s6 ⟨hr, I6⟩ => ?_
      subst hr
      obtain ⟨m, hn, _⟩ := id I6.loc
      exact ⟨m, hn, fun h' sb => ⟨.ref D, H5, fin I6 h' sb, rfl, qn⟩⟩
    · obtain ⟨go, N, hN, step⟩ := go
      refine thn (T.item (cxC X scope N' cl s3.heap.objs.size s3 H3 fp (X.pn ++ pins)) rfl rfl rfl hc i [] s5 σ5 H5 _ I5 (stat fr5) st5 go) fun r s6 ⟨u, hr, h6⟩ => ?_
      subst hr
      refine thn h6 fun _ s7 ⟨x, H7, I7, r7, y7, st7, fr7⟩ => ?_
      have I7' := I7.pinned (stat fr7) (T.obj _ _ st7)
      have again : ∀ {s8 : Shared} {σ8 : St} {H8 : Hp} {ys' : List V}, Inv (cxC X scope N' cl s3.heap.objs.size s3 H3 fp (X.pn ++ pins)) ([] ++ pinsAt fp s7.heap) σ8 H8 s8 → (∃ m', m' < n ∧ W (i + 1) m' ys' σ8 H8) →
          ∃ m, m < n ∧ ∃ i ys σ' H', Inv (cxC X scope N' cl s3.heap.objs.size s3 H3 fp (X.pn ++ pins)) [] σ' H' s8 ∧ tn i s8.heap ∧ (∀ b ∈ fp, H' b = none) ∧ W i m ys σ' H' := fun {s8 σ8 H8 ys'} I8 ⟨m', hm, w8⟩ => by
        refine ⟨m', hm, i + 1, ys', σ8, H8, I8.unpinned, T.keep _ _ _ st7 fun b hb o e => (I8.pin (b, o) (List.mem_append_right _ (List.mem_append_right _ (mem_pinsAt hb e)))).1, fun b hb => ?_, w8⟩
        obtain ⟨o, e, d⟩ := T.obj _ _ st7 b hb
        exact (I8.pin (b, o) (List.mem_append_right _ (List.mem_append_right _ (mem_pinsAt hb e)))).2.1
      refine thn (hg cl _ s3 H3 fp _ _ s7 σ5 H7 x u _ I7' r7 (step x H7 y7)) fun _ s8 ⟨σ8, H8, I8, q8⟩ => ?_
      refine thn (ht cl _ s3 H3 fp _ _ s8 σ8 H8 _ I8 q8) fun ok s9 ⟨H9, I9, q9⟩ => ?_
      cases ok with
      | false => exact again I9 (hN _ _ _ q9)
      | true =>
        rw [if_pos rfl]
        refine thn (he cl _ s3 H3 fp _ _ s9 σ8 H9 _ I9 q9) fun y s10 ⟨yv, H10, I10, r10, q10⟩ => ?_
        obtain ⟨hDy, hlen, w10⟩ := q10
        refine thn (mt_append (X := cxC X scope N' cl s3.heap.objs.size s3 H3 fp (X.pn ++ pins)) _ s10 σ8 H10 (.ref D) [yv] (.ref D) [y] (fun _ H' => H' = upd H10 D (.lst (ys ++ [yv]))) I10 rfl (.cons r10 .nil) ⟨D, ys, yv, rfl, rfl, hDy, hlen, rfl⟩) fun _ s11 ⟨_, H11, I11, _, e11⟩ => ?_
        subst e11
        exact again I11 (hN _ _ _ w10)
  exact codeAny_compStart_list loop (T.self _ 0 _ _ _ (T.keep _ _ _ st3 fun b _ o e => keep4 b o e) loop)
end
end L2
namespace L2
open PySem PySem.Spec PyProof.Rows
def cutS (x : Str) (lo hi : Option Int) : Str := ⟨((x.cps.toList.drop (HT.sIx x.length 0 lo)).take (HT.sIx x.length x.length hi - HT.sIx x.length 0 lo)).toArray⟩
def rSlS : V → Option Int → Option Int → Hp → VK → Prop := fun x lo hi H Q => ∃ z, x = .str z ∧ z.length ≤ sizeLine ∧ Q (.str (cutS z lo hi)) H
section
variable {X : Cx}
def Its (x : Str) : It := ⟨fun i _ => i < x.length, fun i H v H' => H' = H ∧ ∃ c, x.cps.toList[i]? = some c ∧ v = .str ⟨#[c]⟩, fun i _ => x.length ≤ i⟩
end
end L2
namespace L2
open PySem PySem.Spec PyProof.Rows
section
variable {X : Cx} {tg : Expr}
def iStr (tl : TE) : TI := fun σ H R => tl σ H fun x H1 => ∃ z, x = .str z ∧ R (Its z) H1
def ItSeq (J : It) (P : Hp → Prop) (xs : List V) : Prop := ∀ H, P H → ∀ i, (∀ x, xs[i]? = some x → J.go i H ∧ ∀ y H', J.yld i H y H' → H' = H ∧ y = x) ∧ (xs.length ≤ i → J.stop i H)
theorem itseq_tup {K : PySem.W.Frag} {a : Addr} {xs : List V} : ItSeq (Itt K a) (fun H => SqT K H a xs) xs := fun H hq i => by
  refine ⟨fun x hx => ⟨⟨xs, x, hq, hx⟩, fun y H' ⟨e1, e2⟩ => ⟨e1, ?_⟩⟩, fun hi => ⟨xs, hq, hi⟩⟩
  have := e2 xs hq
  rw [hx] at this
  exact (Option.some.inj this).symm
theorem itseq_list {K : PySem.W.Frag} {a : Addr} {xs : List V} : ItSeq (Itl K a) (fun H => SqL K H a xs) xs := fun H hq i => by
  refine ⟨fun x hx => ⟨⟨xs, x, hq, hx⟩, fun y H' ⟨e1, e2⟩ => ⟨e1, ?_⟩⟩, fun hi => ⟨xs, hq, hi⟩⟩
  have := e2 xs hq
  rw [hx] at this
  exact (Option.some.inj this).symm
theorem itseq_range {lo : Int} {n : Nat} {P : Hp → Prop} : ItSeq (Itr lo n) P ((List.range n).map fun (i : Nat) => V.int (lo + i)) := fun H hq i => by
  refine ⟨fun x hx => ?_, fun hi => by show n ≤ i; simpa using hi⟩
  have hi : i < n := by
    have := (List.getElem?_eq_some_iff.mp hx).1
    simpa using this
  refine ⟨hi, fun y H' ⟨e1, e2⟩ => ⟨e1, ?_⟩⟩
  rw [List.getElem?_map, List.getElem?_range hi] at hx
  rw [e2]
  simpa using hx
theorem ItSeq.imp {J : It} {P P' : Hp → Prop} {xs : List V} (h : ItSeq J P xs) (hp : ∀ H, P' H → P H) : ItSeq J P' xs := fun H q => h H (hp H q)
theorem lc_by {J : It} {P : Hp → Prop} {xs : List V} (hJ : ItSeq J P xs) {src : List (Option Nat)} {g : TG} {tt : TT} {te : TE} {σ : St} {H1 : Hp} {Q : VK} {D : Addr} (Pv : Nat → List V → St → Hp → Prop)
    (h0 : Pv 0 [] (capSt src σ) (upd H1 D (.lst []))) (hP : ∀ i ys σ' H', Pv i ys σ' H' → P H' ∧ H' D = some (.lst ys))
    (step : ∀ i ys σ' H' x, xs[i]? = some x → Pv i ys σ' H' → g x σ' H' fun σ2 H4 => tt σ2 H4 fun b H5 => if b = true then te σ2 H5 fun y H6 => H6 D = some (.lst ys) ∧ ys.length < sizeLine ∧ Pv (i + 1) (ys ++ [y]) σ2 (upd H6 D (.lst (ys ++ [y]))) else Pv (i + 1) ys σ2 H5)
    (fin : ∀ ys σ' H', Pv xs.length ys σ' H' → Q (.ref D) H') :
    LC src J g tt te σ H1 Q D := by
  refine ⟨fun i m ys σ' H' => m = xs.length - i ∧ i ≤ xs.length ∧ Pv i ys σ' H', ⟨xs.length, by simp, Nat.zero_le _, h0⟩, ?_⟩
  rintro i m ys σ' H2 ⟨rfl, hi, p⟩
  obtain ⟨hp, hD⟩ := hP i ys σ' H2 p
  refine ⟨hD, ?_⟩
  by_cases hlt : i < xs.length
  · obtain ⟨go, yl⟩ := (hJ H2 hp i).1 xs[i] (by simp [hlt])
    refine .inr ⟨go, fun ys' σ3 H3 => Pv (i + 1) ys' σ3 H3, fun ys' σ3 H3 p' => ⟨xs.length - (i + 1), by omega, rfl, hlt, p'⟩, fun x H3 y => ?_⟩
    obtain ⟨e1, e2⟩ := yl x H3 y
    subst e1 e2
    exact step i ys σ' _ _ (by simp [hlt]) p
  · have e : i = xs.length := by omega
    subst e
    exact .inl ⟨(hJ H2 hp _).2 (Nat.le_refl _), fin ys σ' H2 p⟩
theorem Same.upd_new {H : Hp} {p : Addr} (h : H p = none) (o : HO) : Same H (upd H p o) := fun b u q => by rw [upd_ne (ne_of_none q h)]; exact q
theorem Same.upd_over {H H' : Hp} {p : Addr} (h : H p = none) (e : Same H H') (o : HO) : Same H (upd H' p o) := fun b u q => by rw [upd_ne (ne_of_none q h)]; exact e b u q
theorem Same.tup {K : PySem.W.Frag} {H H' : Hp} {a : Addr} {xs : List V} (e : Same H H') (h : SqT K H a xs) : SqT K H' a xs := by
  rcases h with (h | ⟨o, h⟩) | h
  · exact .inl (.inl (e _ _ h))
  · exact .inl (.inr ⟨o, e _ _ h⟩)
  · exact .inr h
end
section
variable {X : Cx}
theorem strs_of : ∀ {ys : List Str} {us : List Value}, Vals (ys.map V.str) us → StrsAre us ys
  | [], _, h => by rw [Vals.zero h]; exact .nil
  | y :: ys, us, h => by
    have h' : Vals (V.str y :: ys.map V.str) us := h
    cases h' with
    | cons r t => obtain ⟨t', rfl⟩ := r; exact .cons y t' (strs_of t)
def rJoin (K : PySem.W.Frag) : V → List V → Hp → VK → Prop := fun x vs H Q => ∃ (z : Str) (p : Addr) (ys : List Str), x = .str z ∧ vs = [.ref p] ∧ SqL K H p (ys.map V.str) ∧ (ys.map (·.length)).sum + ys.length * z.length ≤ 16777216 ∧ Q (.str (Txt.join z ys)) H
theorem mt_join : MtR X "str.join" (rJoin X.K) := by
  intro pins s σ H x vs v us Q I rx rv h
  obtain ⟨z, p, ys, rfl, rfl, hq, hl, q⟩ := h
  obtain ⟨t, rfl⟩ := rx
  obtain ⟨u, rfl, ru⟩ := rv.one
  cases ru
  obtain ⟨its, r, pl, hz⟩ := I.list hq
  exact join_list pl.isList (by simpa using strs_of r) hl fun t' k => ⟨.str _, H, I.tok k, ⟨t', rfl⟩, q⟩
def clsV : V → Option Value
  | .ty n => some (.type n)
  | .ref a => some (.ref a)
  | _ => none
theorem call_isinst : CallR X (.builtin "isinstance") (fun xs H Q => ∃ x c cv t b, xs = [x, c] ∧ clsV c = some cv ∧ TyOf X.K H x t ∧ PySem.W.kitOne X.K t cv = some b ∧ Q (.bl b) H) := by
  intro pins s σ H xs us Q I r h
  obtain ⟨x, c, cv, t, b, rfl, ec, ty, e, q⟩ := h
  obtain ⟨u, w', rfl, ru, rw'⟩ := vals2 r
  have ew : w' = cv := by
    cases c with
    | ty n => cases (show w' = Value.type n from rw'); simpa [clsV] using ec
    | ref a => cases (show w' = Value.ref a from rw'); simpa [clsV] using ec
    | _ => simp [clsV] at ec
  subst ew
  exact isinst_ok I ru ty e fun tk => ⟨.bl b, H, I.tok tk, rfl, q⟩
def eqVs (xs ys : List V) : Bool := xs.length == ys.length && (List.range xs.length).all fun j => match xs[j]?, ys[j]? with | some x, some y => eqV x y | _, _ => false
end
end L2
namespace L2
open PySem PySem.Spec PyProof.Rows
structure Sub (P : Program) (w : World) (i : Addr) (St : Nat → Heap → Prop) (Ready : Heap → (Nat → Option Value) → Prop) : Prop where
  obj : ∀ k h, St k h → ∃ o, h.get? i = some o ∧ ∀ v, o.data ≠ .cell v
  keep : ∀ k h h', St k h → (∀ o, h.get? i = some o → h'.get? i = some o) → St k h'
  item : ∀ (A : Around) (k : Nat) (s : Shared) (get : Nat → Option Value) (x : Value) (Q : Value → Shared → Prop) (E : Value → Shared → Prop), St k s.heap → Ready s.heap get → get k = some x →
    (∀ h' tk, St (k + 1) h' → Heap.SameBut i s.heap h' → Q x { s with heap := h', toks := tk }) → wpAny (model P w) A (Builtin.SmallTypes.nextOf (.ref i)) Q E s
  fin : ∀ (A : Around) (k : Nat) (s : Shared) (get : Nat → Option Value) (Q : Value → Shared → Prop) (E : Value → Shared → Prop), A.handled = none → St k s.heap → Ready s.heap get → get k = none →
    (∀ h' e, Heap.ExtBut i s.heap h' → (∃ o, h'.get? e = some o ∧ o.cls = .type "StopIteration") → E (.ref e) { s with heap := h' }) → wpAny (model P w) A (Builtin.SmallTypes.nextOf (.ref i)) Q E s
section
variable {prog : Program} {w : World} {A : Around} {E : Value → Shared → Prop} {s : Shared}
end
theorem sub_list {P : Program} {w : World} (i t : Addr) : Sub P w i (fun k h => h.IsListIter i t k) (fun h get => ∃ items : Array Value, h.IsList t items ∧ ∀ k, get k = items[k]?) where
  obj := fun k h ⟨o, e, c, d⟩ => ⟨o, e, fun v z => by rw [d] at z; cases z⟩
  keep := fun k h h' st q => st.at q
  item := fun A k s get x Q E st ⟨items, ht, hg⟩ hx hQ => wpAny_nextOf_list_item st ht ((hg k).symm.trans hx) fun h' st' sb => hQ h' s.toks st' sb
  fin := fun A k s get Q E hh st ⟨items, ht, hg⟩ hx hE => wpAny_nextOf_list_end hh st ht ((hg k).symm.trans hx) hE
structure ZApart (z TI TO i1 i2 : Addr) : Prop where
  a : TI ≠ z
  b : TO ≠ z
  c : i1 ≠ z
  d : i2 ≠ z
  e : TI ≠ TO
  f : TI ≠ i1
  g : TI ≠ i2
  h : TO ≠ i1
  i : TO ≠ i2
  j : i1 ≠ i2
section
variable {prog : Program} {w : World} {A : Around} {E : Value → Shared → Prop} {s : Shared} {z TI TO i1 i2 : Addr} {S1 S2 : Nat → Heap → Prop} {R1 R2 : Heap → (Nat → Option Value) → Prop} {g1 g2 : Nat → Option Value} {k : Nat} {a b : Value}
theorem zip_item {x y : Value} {Q : Option Value → Shared → Prop} (D : ZApart z TI TO i1 i2) (U1 : Sub prog w i1 S1 R1) (U2 : Sub prog w i2 S2 R2)
    (k1 : ∀ h h' g, R1 h g → (∀ c o, c ≠ z → c ≠ TO → c ≠ i1 → c ≠ i2 → h.get? c = some o → h'.get? c = some o) → R1 h' g) (k2 : ∀ h h' g, R2 h g → (∀ c o, c ≠ z → c ≠ TO → c ≠ i1 → c ≠ i2 → h.get? c = some o → h'.get? c = some o) → R2 h' g)
    (hz : IsZip s.heap z TI TO .none) (hTI : IsPair s.heap TI (.ref i1) (.ref i2)) (hTO : IsPair s.heap TO a b) (h1 : S1 k s.heap) (h2 : S2 k s.heap) (r1 : R1 s.heap g1) (r2 : R2 s.heap g2) (hx : g1 k = some x) (hy : g2 k = some y)
    (hQ : ∀ h' tk, IsZip h' z TI TO (rawInt s.heap.objs.size) → IsPair h' TO x y → S1 (k + 1) h' → S2 (k + 1) h' → IsPair h' s.heap.objs.size x y → h'.objs.size = s.heap.objs.size + 1 →
      (∀ c o, c ≠ z → c ≠ TO → c ≠ i1 → c ≠ i2 → s.heap.get? c = some o → h'.get? c = some o) → Q (some (.ref s.heap.objs.size)) { s with heap := h', toks := tk }) :
    wpAny (model prog w) A (pyNext (.ref z)) Q E s := by
  have hT : s.TypeIs (.ref z) "zip" := ⟨_, hz, rfl⟩
  unfold pyNext
  refine wpAny_bind (wpAny_attempt (wpAny_callSpecial?_slot (name := Str.ofString "__next__") hT F.slot_zip_next (wpAny_call_entry F.slot_zip_next hT F.entry_zip_next ?_ (F.args_zip_next_1 _))))
  show wpAny _ _ (field (.ref z) 2 >>= _) _ _ _
  refine wpAny_bind (wpAny_field hz rfl (x := .bool false) rfl ?_)
  show wpAny _ _ (field (.ref z) 3 >>= _) _ _ _
  refine wpAny_bind (wpAny_field hz rfl (x := .ref TI) rfl ?_)
  refine wpAny_bind (wpAny_seqItems hTI rfl ?_)
  show wpAny _ _ (Builtin.SmallTypes.ownedTupleIsFree (.ref z) >>= _) _ _ _
  refine wpAny_bind ?_
  unfold Builtin.SmallTypes.ownedTupleIsFree
  refine wpAny_bind (wpAny_field hz rfl (x := .none) rfl (wpAny_pure ?_))
  simp only [if_true]
  refine wpAny_bind (wpAny_rule ?_)
  refine wpAny_bind (wpAny_field hz rfl (x := .ref TO) rfl ?_)
  refine wpAny_bind (wpAny_setField_rec hz (by simp) fun h₁ hz₁ hs₁ => ?_)
  replace hz₁ : IsZip h₁ z TI TO .ellipsis := hz₁
  refine wpAny_bind ?_
  simp only [List.zipIdx_cons, List.zipIdx_nil, List.forIn_cons, List.forIn_nil]
  refine wpAny_bind (wpAny_bind (wpAny_onRaise ?_))
  show wpAny _ _ (Builtin.SmallTypes.nextOf (.ref i1) >>= _) _ _ _
  have S1₁ : S1 k h₁ := U1.keep _ _ _ h1 fun o e => hs₁.extBut _ _ D.c e
  have R1₁ : R1 h₁ g1 := k1 _ _ _ r1 fun c o c1 _ _ _ e => hs₁.extBut _ _ c1 e
  refine wpAny_bind (U1.item _ k { s with heap := h₁ } g1 x _ _ S1₁ R1₁ hx fun h₂ tk₂ S1₂ hs₂ => wpAny_pure ?_)
  have hTO₂ : IsPair h₂ TO a b := hs₂.extBut _ _ D.h (hs₁.extBut _ _ D.b hTO)
  refine wpAny_bind (wpAny_seqItems hTO₂ rfl ?_)
  refine wpAny_bind (wpAny_updateSeq_pair hTO₂ fun h₃ hTO₃ hs₃ => ?_)
  replace hTO₃ : IsPair h₃ TO x b := hTO₃
  refine wpAny_bind (wpAny_letGo (wpAny_pure ?_))
  refine wpAny_bind (wpAny_bind (wpAny_onRaise ?_))
  show wpAny _ _ (Builtin.SmallTypes.nextOf (.ref i2) >>= _) _ _ _
  have kk₃ : ∀ c o, c ≠ z → c ≠ TO → c ≠ i1 → c ≠ i2 → s.heap.get? c = some o → h₃.get? c = some o := fun c o c1 c2 c3 c4 e => hs₃.extBut _ _ c2 (hs₂.extBut _ _ c3 (hs₁.extBut _ _ c1 e))
  have S2₃ : S2 k h₃ := U2.keep _ _ _ h2 fun o e => hs₃.extBut _ _ D.i.symm (hs₂.extBut _ _ D.j.symm (hs₁.extBut _ _ D.d e))
  refine wpAny_bind (U2.item _ k { s with heap := h₃, toks := tk₂ } g2 y _ _ S2₃ (k2 _ _ _ r2 kk₃) hy fun h₄ tk₄ S2₄ hs₄ => wpAny_pure ?_)
  have hTO₄ : IsPair h₄ TO x b := hs₄.extBut _ _ D.i hTO₃
  refine wpAny_bind (wpAny_seqItems hTO₄ rfl ?_)
  refine wpAny_bind (wpAny_updateSeq_pair hTO₄ fun h₅ hTO₅ hs₅ => ?_)
  replace hTO₅ : IsPair h₅ TO x y := hTO₅
  refine wpAny_bind (wpAny_letGo (wpAny_pure (wpAny_pure ?_)))
  refine wpAny_bind (wpAny_seqItems hTO₅ rfl ?_)
  refine wpAny_bind (wpAny_newTuple ?_)
  have hsz : h₅.objs.size = s.heap.objs.size := by rw [hs₅.1, hs₄.1, hs₃.1, hs₂.1, hs₁.1]
  have hz₅ : IsZip h₅ z TI TO .ellipsis := hs₅.extBut _ _ D.b.symm (hs₄.extBut _ _ D.d.symm (hs₃.extBut _ _ D.b.symm (hs₂.extBut _ _ D.c.symm hz₁)))
  have hk₅ : ∀ c o, c ≠ z → c ≠ TO → c ≠ i1 → c ≠ i2 → s.heap.get? c = some o → h₅.get? c = some o := fun c o c1 c2 c3 c4 e => hs₅.extBut _ _ c2 (hs₄.extBut _ _ c4 (kk₃ c o c1 c2 c3 c4 e))
  have S1₅ : S1 (k + 1) h₅ := U1.keep _ _ _ S1₂ fun o e => hs₅.extBut _ _ D.h.symm (hs₄.extBut _ _ D.j (hs₃.extBut _ _ D.h.symm e))
  have S2₅ : S2 (k + 1) h₅ := U2.keep _ _ _ S2₄ fun o e => hs₅.extBut _ _ D.i.symm e
  have hzlt : z < h₅.objs.size := Heap.lt_size hz₅
  show wpAny _ _ (Builtin.SmallTypes.ownedTupleHandOut (.ref z) (.ref h₅.objs.size) >>= _) _ _ _
  refine wpAny_bind ?_
  unfold Builtin.SmallTypes.ownedTupleHandOut
  have hz₆ : IsZip (h₅.push { cls := .type "tuple", data := .seq #[x, y] }) z TI TO .ellipsis := Heap.get?_push_of_some _ hz₅
  refine wpAny_bind (wpAny_setField_rec hz₆ (by simp) fun h₇ hz₇ hs₇ => ?_)
  replace hz₇ : IsZip h₇ z TI TO (rawInt h₅.objs.size) := hz₇
  refine wpAny_setField_rec hz₇ (by simp) fun h₈ hz₈ hs₈ => ?_
  replace hz₈ : IsZip h₈ z TI TO (rawInt h₅.objs.size) := hz₈
  have up : ∀ c o, c ≠ z → h₅.get? c = some o → h₈.get? c = some o := fun c o c1 e => hs₈.extBut _ _ c1 (hs₇.extBut _ _ c1 (Heap.get?_push_of_some _ e))
  have hT₈ : IsPair h₈ h₅.objs.size x y := hs₈.extBut _ _ (Nat.ne_of_gt hzlt) (hs₇.extBut _ _ (Nat.ne_of_gt hzlt) (Heap.get?_push_size _ rfl))
  have hz8 : h₈.objs.size = h₅.objs.size + 1 := by rw [hs₈.1, hs₇.1, Heap.size_push]
  rw [hsz] at hz₈ hT₈ hz8
  refine wpAny_pure ⟨_, rfl, wpAny_pure ?_⟩
  show Q (some (.ref h₅.objs.size)) _
  rw [hsz]
  exact hQ h₈ tk₄ hz₈ (up _ _ D.b hTO₅) (U1.keep _ _ _ S1₅ fun o e => up _ o D.c e) (U2.keep _ _ _ S2₅ fun o e => up _ o D.d e) hT₈ hz8 fun c o c1 c2 c3 c4 e => up c o c1 (hk₅ c o c1 c2 c3 c4 e)
theorem zip_end {Q : Option Value → Shared → Prop} (hh : A.handled = none) (D : ZApart z TI TO i1 i2) (U1 : Sub prog w i1 S1 R1) (U2 : Sub prog w i2 S2 R2)
    (k1 : ∀ h h' g, R1 h g → (∀ c o, c ≠ z → c ≠ TO → c ≠ i1 → c ≠ i2 → h.get? c = some o → h'.get? c = some o) → R1 h' g) (k2 : ∀ h h' g, R2 h g → (∀ c o, c ≠ z → c ≠ TO → c ≠ i1 → c ≠ i2 → h.get? c = some o → h'.get? c = some o) → R2 h' g)
    (hz : IsZip s.heap z TI TO .none) (hTI : IsPair s.heap TI (.ref i1) (.ref i2)) (hTO : IsPair s.heap TO a b) (h1 : S1 k s.heap) (h2 : S2 k s.heap) (r1 : R1 s.heap g1) (r2 : R2 s.heap g2) (hend : g1 k = none ∨ g2 k = none)
    (hQ : ∀ h' tk, (∀ c o, c ≠ z → c ≠ TO → c ≠ i1 → c ≠ i2 → s.heap.get? c = some o → h'.get? c = some o) → Q none { s with heap := h', toks := tk }) : wpAny (model prog w) A (pyNext (.ref z)) Q E s := by
  have hT : s.TypeIs (.ref z) "zip" := ⟨_, hz, rfl⟩
  unfold pyNext
  refine wpAny_bind (wpAny_attempt (wpAny_callSpecial?_slot (name := Str.ofString "__next__") hT F.slot_zip_next (wpAny_call_entry F.slot_zip_next hT F.entry_zip_next ?_ (F.args_zip_next_1 _))))
  show wpAny _ _ (field (.ref z) 2 >>= _) _ _ _
  refine wpAny_bind (wpAny_field hz rfl (x := .bool false) rfl ?_)
  show wpAny _ _ (field (.ref z) 3 >>= _) _ _ _
  refine wpAny_bind (wpAny_field hz rfl (x := .ref TI) rfl ?_)
  refine wpAny_bind (wpAny_seqItems hTI rfl ?_)
  show wpAny _ _ (Builtin.SmallTypes.ownedTupleIsFree (.ref z) >>= _) _ _ _
  refine wpAny_bind ?_
  unfold Builtin.SmallTypes.ownedTupleIsFree
  refine wpAny_bind (wpAny_field hz rfl (x := .none) rfl (wpAny_pure ?_))
  simp only [if_true]
  refine wpAny_bind (wpAny_rule ?_)
  refine wpAny_bind (wpAny_field hz rfl (x := .ref TO) rfl ?_)
  refine wpAny_bind (wpAny_setField_rec hz (by simp) fun h₁ hz₁ hs₁ => ?_)
  replace hz₁ : IsZip h₁ z TI TO .ellipsis := hz₁
  refine wpAny_bind ?_
  simp only [List.zipIdx_cons, List.zipIdx_nil, List.forIn_cons, List.forIn_nil]
  refine wpAny_bind (wpAny_bind (wpAny_onRaise ?_))
  show wpAny _ _ (Builtin.SmallTypes.nextOf (.ref i1) >>= _) _ _ _
  have S1₁ : S1 k h₁ := U1.keep _ _ _ h1 fun o e => hs₁.extBut _ _ D.c e
  have R1₁ : R1 h₁ g1 := k1 _ _ _ r1 fun c o c1 _ _ _ e => hs₁.extBut _ _ c1 e
  cases hx : g1 k with
  | none =>
    refine wpAny_bind (U1.fin _ k { s with heap := h₁ } g1 _ _ hh S1₁ R1₁ hx fun h₂ e hs₂ he => ?_)
    obtain ⟨oe, hoe, hce⟩ := he
    have hz₂ : IsZip h₂ z TI TO .ellipsis := hs₂ _ _ D.c.symm hz₁
    have hez : e ≠ z := fun x => by subst x; rw [hz₂] at hoe; cases hoe; simp at hce
    refine wpAny_setField_rec hz₂ (by simp) fun h₃ _ hs₃ => ?_
    refine wpAny_bind (wpAny_isInstance (T := "StopIteration") (b := true) ⟨oe, hs₃.extBut _ _ hez hoe, hce⟩ isSubtype_stop ?_)
    exact wpAny_pure (hQ h₃ s.toks fun c o c1 _ c3 _ x => hs₃.extBut _ _ c1 (hs₂ _ _ c3 (hs₁.extBut _ _ c1 x)))
  | some x =>
    have hy : g2 k = none := by rcases hend with h | h; rw [hx] at h; cases h; exact h
    refine wpAny_bind (U1.item _ k { s with heap := h₁ } g1 x _ _ S1₁ R1₁ hx fun h₂ tk₂ S1₂ hs₂ => wpAny_pure ?_)
    have hTO₂ : IsPair h₂ TO a b := hs₂.extBut _ _ D.h (hs₁.extBut _ _ D.b hTO)
    refine wpAny_bind (wpAny_seqItems hTO₂ rfl ?_)
    refine wpAny_bind (wpAny_updateSeq_pair hTO₂ fun h₃ hTO₃ hs₃ => ?_)
    refine wpAny_bind (wpAny_letGo (wpAny_pure ?_))
    refine wpAny_bind (wpAny_bind (wpAny_onRaise ?_))
    show wpAny _ _ (Builtin.SmallTypes.nextOf (.ref i2) >>= _) _ _ _
    have kk₃ : ∀ c o, c ≠ z → c ≠ TO → c ≠ i1 → c ≠ i2 → s.heap.get? c = some o → h₃.get? c = some o := fun c o c1 c2 c3 c4 e => hs₃.extBut _ _ c2 (hs₂.extBut _ _ c3 (hs₁.extBut _ _ c1 e))
    have S2₃ : S2 k h₃ := U2.keep _ _ _ h2 fun o e => hs₃.extBut _ _ D.i.symm (hs₂.extBut _ _ D.j.symm (hs₁.extBut _ _ D.d e))
    refine wpAny_bind (U2.fin _ k { s with heap := h₃, toks := tk₂ } g2 _ _ hh S2₃ (k2 _ _ _ r2 kk₃) hy fun h₄ e hs₄ he => ?_)
    obtain ⟨oe, hoe, hce⟩ := he
    have hz₄ : IsZip h₄ z TI TO .ellipsis := hs₄ _ _ D.d.symm (hs₃.extBut _ _ D.b.symm (hs₂.extBut _ _ D.c.symm hz₁))
    have hez : e ≠ z := fun x => by subst x; rw [hz₄] at hoe; cases hoe; simp at hce
    refine wpAny_setField_rec hz₄ (by simp) fun h₅ _ hs₅ => ?_
    refine wpAny_bind (wpAny_isInstance (T := "StopIteration") (b := true) ⟨oe, hs₅.extBut _ _ hez hoe, hce⟩ isSubtype_stop ?_)
    exact wpAny_pure (hQ h₅ tk₂ fun c o c1 c2 c3 c4 x => hs₅.extBut _ _ c1 (hs₄ _ _ c4 (kk₃ c o c1 c2 c3 c4 x)))
end
end L2
namespace L2
open PySem PySem.Spec PyProof.Rows
abbrev zpH (h : Heap) (o1 o2 : Obj) : Heap := ((h.push o1).push o2)
abbrev zpT (h : Heap) (o1 o2 : Obj) : Heap := (zpH h o1 o2).push { cls := .type "tuple", data := .seq #[.ref h.objs.size, .ref (h.push o1).objs.size] }
abbrev zpO (h : Heap) (o1 o2 : Obj) : Heap := (zpT h o1 o2).push { cls := .type "tuple", data := .seq #[.none, .none] }
abbrev zpZ (h : Heap) (o1 o2 : Obj) : Heap := (zpO h o1 o2).push { cls := .type "zip", data := .fields #[.none, .bool false, .bool false, .ref (zpH h o1 o2).objs.size, .ref (zpT h o1 o2).objs.size] }
def ItersTo (h : Heap) (v : Value) (o : Obj) : Prop := ∀ (prog : Program) (w : World) (A : Around) (E : Value → Shared → Prop) (s : Shared) (Q : Value → Shared → Prop), (∀ b ob, h.get? b = some ob → s.heap.get? b = some ob) →
  Q (.ref s.heap.objs.size) { s with heap := s.heap.push o } → wpAny (model prog w) A (pyIter v) Q E s
theorem itersTo_list {h : Heap} {t : Addr} {items : Array Value} (ht : h.IsList t items) : ItersTo h (.ref t) { cls := .type "list_iterator", data := .fields #[.ref t, .int 0 0] } := fun prog w A E s Q k q => by
  obtain ⟨o, e, r⟩ := ht
  exact wpAny_pyIter_list (items := items) ⟨o, k _ _ e, r⟩ q
theorem meets_zip2 (v1 v2 : Value) (o1 o2 : Obj) :
    Meets (Builtin.«zip.__new__» ⟨[.type "zip", v1, v2], []⟩) (fun _ R s => ItersTo s.heap v1 o1 ∧ ItersTo s.heap v2 o2 ∧ R (.ok (.ret (.ref (zpO s.heap o1 o2).objs.size))) { s with heap := zpZ s.heap o1 o2 }) :=
  .of_wp fun prog w A R s h => by
    obtain ⟨hp, g, d, tk, os⟩ := s
    obtain ⟨h1, h2, h⟩ := h
    have hsub := sub_zip
    have p1 : ∀ {A' : Around} {E : Value → Shared → Prop} {Q : Value → Shared → Prop}, Q (.ref hp.objs.size) ⟨hp.push o1, g, d, tk, os⟩ → wpAny (model prog w) A' (pyIter v1) Q E ⟨hp, g, d, tk, os⟩ := fun q => h1 prog w _ _ ⟨hp, g, d, tk, os⟩ _ (fun _ _ e => e) q
    have p2 : ∀ {A' : Around} {E : Value → Shared → Prop} {Q : Value → Shared → Prop}, Q (.ref (hp.push o1).objs.size) ⟨(hp.push o1).push o2, g, d, tk, os⟩ → wpAny (model prog w) A' (pyIter v2) Q E ⟨hp.push o1, g, d, tk, os⟩ := fun q => h2 prog w _ _ ⟨hp.push o1, g, d, tk, os⟩ _ (fun _ _ e => Heap.get?_push_of_some _ e) q
    wp_walk using p1, p2
    exact ⟨_, rfl, h⟩
section
variable {prog : Program} {w : World} {A : Around} {E : Value → Shared → Prop} {s : Shared}
theorem call_zip2 {v1 v2 : Value} {o1 o2 : Obj} {Q : Value → Shared → Prop} (p1 : ItersTo s.heap v1 o1) (p2 : ItersTo s.heap v2 o2) (f1 : o1.isFreed = false) (f2 : o2.isFreed = false)
    (h : ∀ h', IsZip h' (s.heap.objs.size + 4) (s.heap.objs.size + 2) (s.heap.objs.size + 3) .none → IsPair h' (s.heap.objs.size + 2) (.ref s.heap.objs.size) (.ref (s.heap.objs.size + 1)) → IsPair h' (s.heap.objs.size + 3) .none .none →
      h'.get? s.heap.objs.size = some o1 → h'.get? (s.heap.objs.size + 1) = some o2 → h'.objs.size = s.heap.objs.size + 5 → (∀ c o, s.heap.get? c = some o → h'.get? c = some o) → Q (.ref (s.heap.objs.size + 4)) { s with heap := h' }) :
    wpAny (model prog w) A (call (.type "zip") [v1, v2]) Q E s := by
  refine callType_new F.called_zip (by decide) (F.typeCall_zip_2 _ _) (F.newCall_zip_2 _ _) (fun obj => F.args_object_init_3 obj _ _) F.entry_zip_new (meets_zip2 v1 v2 o1 o2) ⟨p1, p2, ?_⟩
  have z1 : (s.heap.push o1).objs.size = s.heap.objs.size + 1 := Heap.size_push ..
  have z2 : (zpH s.heap o1 o2).objs.size = s.heap.objs.size + 2 := by rw [Heap.size_push, z1]
  have z3 : (zpT s.heap o1 o2).objs.size = s.heap.objs.size + 3 := by rw [Heap.size_push, z2]
  have z4 : (zpO s.heap o1 o2).objs.size = s.heap.objs.size + 4 := by rw [Heap.size_push, z3]
  have z5 : (zpZ s.heap o1 o2).objs.size = s.heap.objs.size + 5 := by rw [Heap.size_push, z4]
  have g5 : (zpZ s.heap o1 o2).get? (zpO s.heap o1 o2).objs.size = some _ := Heap.get?_push_size _ rfl
  have g4 : (zpZ s.heap o1 o2).get? (zpT s.heap o1 o2).objs.size = some _ := Heap.get?_push_of_some _ (Heap.get?_push_size _ rfl)
  have g3 : (zpZ s.heap o1 o2).get? (zpH s.heap o1 o2).objs.size = some _ := Heap.get?_push_of_some _ (Heap.get?_push_of_some _ (Heap.get?_push_size _ rfl))
  have g2 : (zpZ s.heap o1 o2).get? (s.heap.push o1).objs.size = some o2 := Heap.get?_push_of_some _ (Heap.get?_push_of_some _ (Heap.get?_push_of_some _ (Heap.get?_push_size _ f2)))
  have g1 : (zpZ s.heap o1 o2).get? s.heap.objs.size = some o1 := Heap.get?_push_of_some _ (Heap.get?_push_of_some _ (Heap.get?_push_of_some _ (Heap.get?_push_of_some _ (Heap.get?_push_size _ f1))))
  show _ ∧ _
  rw [z2, z3, z4] at g5
  rw [z1, z2] at g3
  rw [z3] at g4
  rw [z1] at g2
  rw [z4]
  exact ⟨⟨_, g5, rfl⟩, h _ g5 g3 g4 g1 g2 z5 fun c o x => Heap.get?_push_of_some _ (Heap.get?_push_of_some _ (Heap.get?_push_of_some _ (Heap.get?_push_of_some _ (Heap.get?_push_of_some _ x))))⟩
end
section
variable {X : Cx} {pins : List (Addr × Obj)} {σ : St} {H : Hp} {s : Shared} {h' : Heap}
theorem Inv.turnedL {t' : Nat} {ch : List Addr} (I : Inv X pins σ H s) (k : ∀ b o, b ∉ ch → s.heap.get? b = some o → h'.get? b = some o) (hf : ∀ b ∈ ch, FpOk X pins H b) : Inv X pins σ H { s with heap := h', toks := t' } := by
  have nit : ∀ b u, H b = some u → b ∉ ch := fun b u e z => by rw [(hf b z).1] at e; cases e
  refine I.step (g' := s.gens) (d' := s.drawn) (ch := ch) (fun b hb => ?_) (fun b o _ _ hc e _ => k b o hc e) (fun b o _ _ hc e _ => ⟨o.slots, k b o hc e⟩) (fun _ _ _ _ n => n)
    (fun b o hc e => ⟨o, k b o hc e⟩) (fun _ _ e => e) (fun _ _ _ e => e) (fun b ps e => ⟨#[], by rw [e]; simp⟩) (fun m hm => ?_) (fun b u e => ?_) I.bare
  · obtain ⟨f0, f1, f2, f3, f4, f5⟩ := hf b hb
    exact ⟨f3, f1, f4, f5⟩
  · obtain ⟨o, es, ep, ho, r⟩ := hm
    exact ⟨o, es, ep, k _ o (fun z => (hf _ z).2.1 rfl) ho, r⟩
  · refine (I.hok b u e).stay (fun c v hc q => k c v ?_ q) (fun _ q => q) fun _ _ q => q
    rcases hc with z | z
    · rw [z]; exact nit b u e
    · exact nit c _ z
theorem Inv.turnedT {t' : Nat} {ch : List Addr} {T : Addr} {vs : List V} (I : Inv X pins σ H s) (k : ∀ b o, b ∉ ch → s.heap.get? b = some o → h'.get? b = some o) (hf : ∀ b ∈ ch, FpOk X pins H b) (hT : s.heap.objs.size ≤ T)
    (new : ObjOk X.prog X.w (upd H T (.tup vs)) h' T (.tup vs)) : Inv X pins σ (upd H T (.tup vs)) { s with heap := h', toks := t' } := by
  have hn : H T = none := I.hok.fresh hT
  have nit : ∀ b u, H b = some u → b ∉ ch := fun b u e z => by rw [(hf b z).1] at e; cases e
  have nT : ∀ b o, s.heap.get? b = some o → b ≠ T := fun b o e z => absurd (Heap.lt_size e) (by rw [z]; exact Nat.not_lt.mpr hT)
  have up : ∀ b u, H b = some u → upd H T (.tup vs) b = some u := fun b u e => by rw [upd_ne (ne_of_none e hn)]; exact e
  refine I.step (g' := s.gens) (d' := s.drawn) (ch := ch) (fun b hb => ?_) (fun b o _ _ hc e _ => k b o hc e) (fun b o _ _ hc e _ => ⟨o.slots, k b o hc e⟩) (fun b o _ e n => by rw [upd_ne (nT b o e)]; exact n)
    (fun b o hc e => ⟨o, k b o hc e⟩) (fun b xs e => up b _ e) (fun b o u e => up b _ e) (fun b ps e => ⟨#[], by rw [up b _ e]; simp⟩) (fun m hm => ?_) (fun b u e => ?_) I.bare
  · obtain ⟨f0, f1, f2, f3, f4, f5⟩ := hf b hb
    exact ⟨f3, f1, f4, f5⟩
  · obtain ⟨o, es, ep, ho, r⟩ := hm
    exact ⟨o, es, ep, k _ o (fun z => (hf _ z).2.1 rfl) ho, r⟩
  · by_cases hb : b = T
    · subst hb; rw [upd_same] at e; cases e; exact new
    · rw [upd_ne hb] at e
      refine (I.hok b u e).stay (fun c v hc q => k c v ?_ q) (fun c q => up c _ q) fun c xs q => up c _ q
      rcases hc with z | z
      · rw [z]; exact nit b u e
      · exact nit c _ z
end
def Itz (G1 G2 : Hp → List V → Prop) : It :=
  ⟨fun i H => ∃ xs ys x y, G1 H xs ∧ G2 H ys ∧ xs[i]? = some x ∧ ys[i]? = some y, fun i H v H' => ∃ T, v = .ref T ∧ H T = none ∧ ∀ xs ys x y, G1 H xs → G2 H ys → xs[i]? = some x → ys[i]? = some y → H' = upd H T (.tup [x, y]),
    fun i H => ∃ xs ys, G1 H xs ∧ G2 H ys ∧ (xs.length ≤ i ∨ ys.length ≤ i)⟩
structure Part (K : PySem.W.Frag) (G : Hp → List V → Prop) (Si : Addr → Nat → Heap → Prop) (R : Heap → (Nat → Option Value) → Prop) (own : Addr) : Prop where
  sub : ∀ (P : Program) (w : World) (i : Addr), Sub P w i (Si i) R
  ready : ∀ (X : Cx), X.K = K → ∀ (pins : List (Addr × Obj)) (σ : St) (H : Hp) (s : Shared) (xs : List V), Inv X pins σ H s → G H xs → ∃ us : List Value, Vals xs us ∧ R s.heap (fun k => us[k]?)
  inj : ∀ (X : Cx), X.K = K → ∀ (pins : List (Addr × Obj)) (σ : St) (H : Hp) (s : Shared) (xs ys : List V), Inv X pins σ H s → G H xs → G H ys → xs = ys
  keep : ∀ h h' g, R h g → (∀ o, h.get? own = some o → h'.get? own = some o) → R h' g
theorem part_list {K : PySem.W.Frag} (a : Addr) : Part K (fun H xs => SqL K H a xs) (fun i k h => h.IsListIter i a k) (fun h get => ∃ items : Array Value, h.IsList a items ∧ ∀ k, get k = items[k]?) a where
  sub := fun P w i => sub_list i a
  ready := fun X hK pins σ H s xs I hq => by
    subst hK
    obtain ⟨its, r, ht, _⟩ := I.list hq
    exact ⟨its, r, its.toArray, ht.isList, fun k => by simp⟩
  inj := fun X hK pins σ H s xs ys I h1 h2 => by subst hK; exact I.list_inj h1 h2
  keep := fun h h' g ⟨items, ⟨o, e, r⟩, q⟩ k => ⟨items, ⟨o, k o e, r⟩, q⟩
theorem turn_zip {P : Program} {w : World} {K : PySem.W.Frag} {elts : List Expr} {kk : Nat} {pos : Pos} {G1 G2 : Hp → List V → Prop} {S1 S2 : Addr → Nat → Heap → Prop} {R1 R2 : Heap → (Nat → Option Value) → Prop} {a1 a2 : Addr}
    (p1 : Part K G1 S1 R1 a1) (p2 : Part K G2 S2 R2 a2) {z TI TO i1 i2 : Addr} (D : ZApart z TI TO i1 i2) (n1 : a1 ∉ [z, TO, i1, i2]) (n2 : a2 ∉ [z, TO, i1, i2]) :
    Turn P w K (.Tuple elts kk pos) (Itz G1 G2) [z, TI, TO, i1, i2] z (fun i h => IsZip h z TI TO .none ∧ IsPair h TI (.ref i1) (.ref i2) ∧ (∃ a b, IsPair h TO a b) ∧ S1 i1 i h ∧ S2 i2 i h) where
  mem := by simp
  obj := fun i h ⟨hz, hTI, ⟨a, b, hTO⟩, h1, h2⟩ c hc => by
    simp only [List.mem_cons, List.not_mem_nil, or_false] at hc
    rcases hc with rfl | rfl | rfl | rfl | rfl
    · exact ⟨_, hz, fun v e => by cases e⟩
    · exact ⟨_, hTI, fun v e => by cases e⟩
    · exact ⟨_, hTO, fun v e => by cases e⟩
    · exact (p1.sub P w _).obj _ _ h1
    · exact (p2.sub P w _).obj _ _ h2
  keep := fun i h h' ⟨hz, hTI, ⟨a, b, hTO⟩, h1, h2⟩ q =>
    ⟨q z (by simp) _ hz, q TI (by simp) _ hTI, ⟨a, b, q TO (by simp) _ hTO⟩, (p1.sub P w i1).keep _ _ _ h1 (q i1 (by simp)), (p2.sub P w i2).keep _ _ _ h2 (q i2 (by simp))⟩
  item := by
    intro X hP hw hK hc i pins s σ H E I hf ⟨hz, hTI, ⟨a, b, hTO⟩, h1, h2⟩ hg
    subst hP hw
    obtain ⟨xs, ys, x, y, g1, g2, hx, hy⟩ := hg
    obtain ⟨us1, r1, rd1⟩ := p1.ready X hK pins σ H s xs I g1
    obtain ⟨us2, r2, rd2⟩ := p2.ready X hK pins σ H s ys I g2
    obtain ⟨u, hu, ru⟩ := r1.get hx
    obtain ⟨v, hv, rv⟩ := r2.get hy
    have out : ∀ c, c ≠ z → c ≠ TO → c ≠ i1 → c ≠ i2 → c ∉ [z, TO, i1, i2] := fun c c1 c2 c3 c4 hm => by
      simp only [List.mem_cons, List.not_mem_nil, or_false] at hm
      rcases hm with e | e | e | e <;> contradiction
    have sep : ∀ {c : Addr}, c ∉ [z, TO, i1, i2] → c ≠ z ∧ c ≠ TO ∧ c ≠ i1 ∧ c ≠ i2 := fun hm => ⟨fun e => hm (by simp [e]), fun e => hm (by simp [e]), fun e => hm (by simp [e]), fun e => hm (by simp [e])⟩
    obtain ⟨m1, m2, m3, m4⟩ := sep n1
    obtain ⟨m5, m6, m7, m8⟩ := sep n2
    refine zip_item (k := i) D (p1.sub _ _ i1) (p2.sub _ _ i2) (fun h h' g r q => p1.keep _ _ _ r fun o e => q a1 o m1 m2 m3 m4 e) (fun h h' g r q => p2.keep _ _ _ r fun o e => q a2 o m5 m6 m7 m8 e) hz hTI hTO h1 h2 rd1 rd2 hu hv fun h' tk hz' hTO' h1' h2' hT' hsz keep => ?_
    refine ⟨_, rfl, ?_⟩
    refine wpAny_letOwnedTupleGo_zip (s := { s with heap := h', toks := tk }) hz' fun h'' hz'' sb => ?_
    have zlt : z < s.heap.objs.size := Heap.lt_size hz
    have kp : ∀ c o, c ∉ [z, TO, i1, i2] → s.heap.get? c = some o → h''.get? c = some o := fun c o hm e => by
      obtain ⟨c1, c2, c3, c4⟩ := sep hm
      exact sb.extBut c o c1 (keep c o c1 c2 c3 c4 e)
    have hT'' : IsPair h'' s.heap.objs.size u v := sb.extBut _ _ (Nat.ne_of_gt zlt) hT'
    have fp4 : ∀ c ∈ [z, TO, i1, i2], FpOk X pins H c := fun c hm => hf c (by
      simp only [List.mem_cons, List.not_mem_nil, or_false] at hm ⊢
      rcases hm with e | e | e | e <;> simp [e])
    have I' := I.turnedT (t' := tk) (h' := h'') (T := s.heap.objs.size) (vs := [x, y]) kp fp4 (Nat.le_refl _) (show ObjOk X.prog X.w _ h'' _ (.tup [x, y]) from ⟨by show 2 ≤ sizeLine; decide, [u, v], .cons ru (.cons rv .nil), _, hT'', rfl, _, rfl⟩)
    have fresh : H s.heap.objs.size = none := I.hok.fresh (Nat.le_refl _)
    refine ⟨.ref s.heap.objs.size, _, I', rfl, ⟨_, rfl, fresh, fun xs' ys' x' y' g1' g2' hx' hy' => ?_⟩, ⟨hz'', sb.extBut _ _ D.a (keep _ _ D.a D.e D.f D.g hTI), ⟨_, _, sb.extBut _ _ D.b hTO'⟩, (p1.sub X.prog X.w i1).keep _ _ _ h1' fun o e => sb.extBut _ _ D.c e, (p2.sub X.prog X.w i2).keep _ _ _ h2' fun o e => sb.extBut _ _ D.d e⟩, fun c hm => ?_⟩
    · rw [p1.inj X hK pins σ H s _ _ I g1' g1, hx] at hx'
      rw [p2.inj X hK pins σ H s _ _ I g2' g2, hy] at hy'
      cases hx'
      cases hy'
      rfl
    · have h0 := (hf c hm).1
      have clt : c < s.heap.objs.size := by
        simp only [List.mem_cons, List.not_mem_nil, or_false] at hm
        rcases hm with rfl | rfl | rfl | rfl | rfl
        · exact zlt
        · exact Heap.lt_size hTI
        · exact Heap.lt_size hTO
        · obtain ⟨o, e, _⟩ := (p1.sub X.prog X.w _).obj _ _ h1; exact Heap.lt_size e
        · obtain ⟨o, e, _⟩ := (p2.sub X.prog X.w _).obj _ _ h2; exact Heap.lt_size e
      rw [upd_ne (Nat.ne_of_lt clt)]
      exact h0
  done := by
    intro X hP hw hK hc i pins s σ H E I hf ⟨hz, hTI, ⟨a, b, hTO⟩, h1, h2⟩ hg
    subst hP hw
    obtain ⟨xs, ys, g1, g2, hend⟩ := hg
    obtain ⟨us1, r1, rd1⟩ := p1.ready X hK pins σ H s xs I g1
    obtain ⟨us2, r2, rd2⟩ := p2.ready X hK pins σ H s ys I g2
    have sep : ∀ {c : Addr}, c ∉ [z, TO, i1, i2] → c ≠ z ∧ c ≠ TO ∧ c ≠ i1 ∧ c ≠ i2 := fun hm => ⟨fun e => hm (by simp [e]), fun e => hm (by simp [e]), fun e => hm (by simp [e]), fun e => hm (by simp [e])⟩
    obtain ⟨m1, m2, m3, m4⟩ := sep n1
    obtain ⟨m5, m6, m7, m8⟩ := sep n2
    have l1 := r1.length
    have l2 := r2.length
    refine zip_end (k := i) (I.ok.hd hc) D (p1.sub _ _ i1) (p2.sub _ _ i2) (fun h h' g r q => p1.keep _ _ _ r fun o e => q a1 o m1 m2 m3 m4 e) (fun h h' g r q => p2.keep _ _ _ r fun o e => q a2 o m5 m6 m7 m8 e) hz hTI hTO h1 h2 rd1 rd2 ?_ fun h' tk keep => ?_
    · rcases hend with e | e
      · exact .inl (by simp; omega)
      · exact .inr (by simp; omega)
    · refine ⟨rfl, I.turnedL (ch := [z, TO, i1, i2]) (fun c o hm e => ?_) fun c hm => hf c (by
        simp only [List.mem_cons, List.not_mem_nil, or_false] at hm ⊢
        rcases hm with e | e | e | e <;> simp [e])⟩
      obtain ⟨c1, c2, c3, c4⟩ := sep hm
      exact keep c o c1 c2 c3 c4 e
  self := fun A i s Q E ⟨hz, _⟩ q => wpAny_pyIter_zip hz q
end L2
namespace L2
open PySem PySem.Spec PyProof.Rows
section
variable {X : Cx} {elts : List Expr} {kk : Nat} {tpos : Pos}
theorem zapart_new (n : Nat) : ZApart (n + 4) (n + 2) (n + 3) n (n + 1) := by
  constructor <;> (intro e; have e' : @Eq Nat _ _ := e; omega)
def iZipT (K : PySem.W.Frag) (ta : TA) : TI := fun σ H R => ta σ H fun vs H1 => ∃ a b xs ys, vs = [.ref a, .ref b] ∧ SqT K H1 a xs ∧ SqT K H1 b ys ∧ R (Itz (fun H xs => SqT K H a xs) (fun H ys => SqT K H b ys)) H1
def iZipL (K : PySem.W.Frag) (ta : TA) : TI := fun σ H R => ta σ H fun vs H1 => ∃ a b xs ys, vs = [.ref a, .ref b] ∧ SqL K H1 a xs ∧ SqL K H1 b ys ∧ R (Itz (fun H xs => SqL K H a xs) (fun H ys => SqL K H b ys)) H1
theorem zip_pie {pins : List (Addr × Obj)} {σ : St} {H : Hp} {s : Shared} {R : It → Hp → Prop} {E : Value → Shared → Prop} {G1 G2 : Hp → List V → Prop} {S1 S2 : Addr → Nat → Heap → Prop} {R1 R2 : Heap → (Nat → Option Value) → Prop} {a b : Addr} {o1 o2 : Obj}
    (I : Inv X pins σ H s) (p1 : Part X.K G1 S1 R1 a) (p2 : Part X.K G2 S2 R2 b) (t1 : ItersTo s.heap (.ref a) o1) (t2 : ItersTo s.heap (.ref b) o2) (f1 : o1.isFreed = false) (f2 : o2.isFreed = false) (la : a < s.heap.objs.size) (lb : b < s.heap.objs.size)
    (s1 : ∀ h i, h.get? i = some o1 → S1 i 0 h) (s2 : ∀ h i, h.get? i = some o2 → S2 i 0 h) (q : R (Itz G1 G2) H) :
    wpAny (model X.prog X.w) X.A (call (.type "zip") [.ref a, .ref b]) (fun v s1 => wpAny (model X.prog X.w) X.A (pyIter v) (PIE X pins σ (.Tuple elts kk tpos) R) E s1) E s := by
  refine call_zip2 t1 t2 f1 f2 fun h' hz hTI hTO g1 g2 hsz keep => ?_
  refine wpAny_pyIter_zip hz ?_
  have I1 : Inv X pins σ H { s with heap := h' } := I.kept (t' := s.toks) keep
  refine ⟨_, [s.heap.objs.size + 4, s.heap.objs.size + 2, s.heap.objs.size + 3, s.heap.objs.size, s.heap.objs.size + 1], _, _, H, rfl, I1, turn_zip (K := X.K) p1 p2 (zapart_new s.heap.objs.size) ?_ ?_, ⟨hz, hTI, ⟨_, _, hTO⟩, s1 _ _ g1, s2 _ _ g2⟩, fun c hc => ?_, q⟩
  · intro hm
    simp only [List.mem_cons, List.not_mem_nil, or_false] at hm
    rcases hm with e | e | e | e <;> (have e' : @Eq Nat _ _ := e; have la' : @LT.lt Nat _ a s.heap.objs.size := la; have lb' : @LT.lt Nat _ b s.heap.objs.size := lb; omega)
  · intro hm
    simp only [List.mem_cons, List.not_mem_nil, or_false] at hm
    rcases hm with e | e | e | e <;> (have e' : @Eq Nat _ _ := e; have la' : @LT.lt Nat _ a s.heap.objs.size := la; have lb' : @LT.lt Nat _ b s.heap.objs.size := lb; omega)
  · have hle : s.heap.objs.size ≤ c := by
      simp only [List.mem_cons, List.not_mem_nil, or_false] at hc
      rcases hc with e | e | e | e | e <;> (have e' : @Eq Nat _ _ := e; show @LE.le Nat _ s.heap.objs.size c; omega)
    exact I.fpOk hle (I.hok.fresh hle)
theorem pi_zipL {a b : Expr} {ta : TA} {p pos : Pos} (hg : Gl X "zip") (hm : X.mg "zip" = none) (ha : PA X [a, b] ta) (hs : starEach [a, b] X.env = [(false, eval a X.env), (false, eval b X.env)] := by rfl) (hs2 : starEach [b] X.env = [(false, eval b X.env)] := by rfl) :
    PI X (.Tuple elts kk tpos) (.Call (.Name "zip" p) [a, b] [] pos) (iZipL X.K ta) := by
  intro pins s σ H R I h
  refine Call_ (ld_blt I hg hm boot_zip (PyProof.Rows.callWith_type1 (thn (ha pos pins s σ H _ I h) fun us s1 ⟨vs, H1, I1, r1, q1⟩ => ?_) (by rw [hs, hs2]) (by rw [hs2]; rfl)))
  obtain ⟨x, y, xs, ys, e, hx, hy, q⟩ := q1
  subst e
  obtain ⟨u, v, rfl, ru, rv⟩ := r1.two
  cases ru
  cases rv
  obtain ⟨i1, _, ht1, _⟩ := I1.list hx
  obtain ⟨i2, _, ht2, _⟩ := I1.list hy
  have l1 : x < s1.heap.objs.size := by obtain ⟨_, e, _⟩ := ht1.isList; exact Heap.lt_size e
  have l2 : y < s1.heap.objs.size := by obtain ⟨_, e, _⟩ := ht2.isList; exact Heap.lt_size e
  exact zip_pie I1 (part_list x) (part_list y) (itersTo_list ht1.isList) (itersTo_list ht2.isList) rfl rfl l1 l2 (fun h i e => ⟨_, e, rfl, rfl⟩) (fun h i e => ⟨_, e, rfl, rfl⟩) q
theorem lc_on {J : It} {P : Hp → Prop} {xs : List V} (hJ : ItSeq J P xs) {src : List (Option Nat)} {g : TG} {te : TE} {σ : St} {H1 : Hp} {Q : VK} {D : Addr} (Pv : Nat → List V → St → Hp → Prop)
    (h0 : Pv 0 [] (capSt src σ) (upd H1 D (.lst []))) (hP : ∀ i ys σ' H', Pv i ys σ' H' → P H' ∧ H' D = some (.lst ys))
    (mono : ∀ x σ H Q Q', (∀ σ' H', Q σ' H' → Q' σ' H') → g x σ H Q → g x σ H Q')
    (step : ∀ i ys σ' H' x, xs[i]? = some x → Pv i ys σ' H' → g x σ' H' fun σ2 H4 => te σ2 H4 fun y H6 => H6 D = some (.lst ys) ∧ ys.length < sizeLine ∧ Pv (i + 1) (ys ++ [y]) σ2 (upd H6 D (.lst (ys ++ [y]))))
    (fin : ∀ ys σ' H', Pv xs.length ys σ' H' → Q (.ref D) H') : LC src J g tYes te σ H1 Q D :=
  lc_by hJ Pv h0 hP (fun i ys σ' H' x hx p => by
    refine mono _ _ _ _ _ ?_ (step i ys σ' H' x hx p)
    intro σ2 H4 q
    unfold tYes
    dsimp only
    rw [if_pos rfl]
    exact q) fin
theorem gName_mono (i : Nat) : ∀ x σ H Q Q', (∀ σ' H', Q σ' H' → Q' σ' H') → gName i x σ H Q → gName i x σ H Q' := fun _ _ _ _ _ h q => h _ _ q
end
end L2
namespace L2
open PySem PySem.Spec PyProof.Rows
structure Gx where
  P : Program
  w : World
  K : PySem.W.Frag
  mg : Str → Option Value
  base : Heap
def Cx.gx (X : Cx) : Gx := ⟨X.prog, X.w, X.K, X.mg, X.base⟩
def Gx.Raw (g : Gx) (x qual : Str) (st : Stmt) (ps : List Str) : Prop := ∃ f fd, Fun g.K x qual st f fd ∧ Binds g.K fd ps [] ∧ g.mg x = some (.ref f)
def Gx.Fn (g : Gx) (k : Nat) (x : Str) (ps : List Str) (sp : Sp) : Prop := ∃ f fd, FnOk g.P g.w g.K g.mg g.base CX0 k f fd ps sp ∧ Binds g.K fd ps [] ∧ PySem.W.keepIn g.K (.ref f) = true ∧ g.mg x = some (.ref f)
def Gx.RawM (g : Gx) (C : Addr) (m qual : Str) (st : Stmt) (ps : List Str) : Prop := ∃ f fd, Fun g.K m qual st f fd ∧ Binds g.K fd ps [] ∧ Meth g.K C m f
def Gx.Me (g : Gx) (k : Nat) (C : Addr) (m : Str) (ps : List Str) (sp : Sp) : Prop := ∃ f fd, FnOk g.P g.w g.K g.mg g.base CX0 k f fd ps sp ∧ Binds g.K fd ps [] ∧ Meth g.K C m f
def Gx.RawI (g : Gx) (x : Str) (C : Addr) (qual : Str) (st : Stmt) (ps : List Str) : Prop := ∃ f fd, Fun g.K "__init__" qual st f fd ∧ Binds g.K fd ps [] ∧ Mk g.K C f ∧ g.mg x = some (.ref C)
def Gx.Ma (g : Gx) (k : Nat) (x : Str) (C : Addr) (ps : List Str) (sp : Sp) : Prop := ∃ f fd, FnOk g.P g.w g.K g.mg g.base CX0 k f fd ps sp ∧ Binds g.K fd ps [] ∧ Mk g.K C f ∧ g.mg x = some (.ref C)
def Gx.Con (g : Gx) (x : Str) (v : V) : Prop := ∃ u, g.mg x = some u ∧ RelV v u
abbrev Gx.cx (g : Gx) (N : List Str) (qual : Str) (st : Stmt) (f : Addr) (cdv : Value) (A : Around) (outer : List Env) (s : Shared) (H : Hp) (E : XK) : Cx := (cxOf CX0 g.P g.w g.K g.mg g.base N qual (defScope st) f cdv A outer s H E).nox
def Body (g : Gx) (k : Nat) (N : List Str) (qual : Str) (st : Stmt) (sp : Sp) : Prop := ∀ (f : Addr) (cdv : Value) (A : Around) (outer : List Env) (s : Shared) (H : Hp) (vs : List V) (Q : VK) (E : XK), Room k (g.cx N qual st f cdv A outer s H E).A → sp vs H Q E →
  ∃ t, PSs (g.cx N qual st f cdv A outer s H E) (defBody st) t ∧ t { nx := fun _ H' => Q .non H', rt := Q } (start N vs) H
section
variable {g : Gx} {k : Nat} {x qual m : Str} {st : Stmt} {N ps : List Str} {sp : Sp} {C : Addr}
theorem Gx.Raw.fn (R : g.Raw x qual st ps) (S : FnScope N ps (defScope st)) (len : ∀ vs H Q E, sp vs H Q E → vs.length = ps.length) (b : Body g k N qual st sp) : g.Fn (k + 1) x ps sp := by
  obtain ⟨f, fd, F, bd, hm⟩ := R
  exact ⟨f, fd, F.ok S len fun cdv A outer s H vs Q E hr h => b f cdv A outer s H vs Q E hr h, bd, F.kp, hm⟩
theorem Gx.RawM.me (R : g.RawM C m qual st ps) (S : FnScope N ps (defScope st)) (len : ∀ vs H Q E, sp vs H Q E → vs.length = ps.length) (b : Body g k N qual st sp) : g.Me (k + 1) C m ps sp := by
  obtain ⟨f, fd, F, bd, hm⟩ := R
  exact ⟨f, fd, F.ok S len fun cdv A outer s H vs Q E hr h => b f cdv A outer s H vs Q E hr h, bd, hm⟩
theorem Gx.RawI.ma (R : g.RawI x C qual st ps) (S : FnScope N ps (defScope st)) (len : ∀ vs H Q E, sp vs H Q E → vs.length = ps.length) (b : Body g k N qual st sp) : g.Ma (k + 1) x C ps sp := by
  obtain ⟨f, fd, F, bd, hm, hg⟩ := R
  exact ⟨f, fd, F.ok S len fun cdv A outer s H vs Q E hr h => b f cdv A outer s H vs Q E hr h, bd, hm, hg⟩
theorem Gx.Fn.mono {j : Nat} (F : g.Fn j x ps sp) (h : j ≤ k) : g.Fn k x ps sp := by
  obtain ⟨f, fd, F, r⟩ := F
  exact ⟨f, fd, F.mono h, r⟩
theorem Gx.Me.mono {j : Nat} (F : g.Me j C m ps sp) (h : j ≤ k) : g.Me k C m ps sp := by
  obtain ⟨f, fd, F, r⟩ := F
  exact ⟨f, fd, F.mono h, r⟩
theorem Gx.RawM.none (R : g.RawM C m qual st ps) (no : ∀ vs H Q E, ¬ sp vs H Q E) : g.Me k C m ps sp := by
  obtain ⟨f, fd, F, bd, hm⟩ := R
  exact ⟨f, fd, ⟨fun vs H Q E h => absurd h (no vs H Q E), fun A outer s H args us vs Q E _ _ _ _ h => absurd h (no vs H Q E)⟩, bd, hm⟩
end
section
variable {g : Gx} {X : Cx} {k j : Nat} {x m : Str} {ps : List Str} {sp : Sp} {C : Addr} {e o : Expr} {es : List Expr} {t : TA} {ta : TE} {p pos apos : Pos}
theorem pe_fn (F : g.Fn j x ps sp) (hr : Room k X.A) (ha : PA X (e :: es) t) (hj : j ≤ k := by omega) (hX : X.gx = g := by rfl) (hg : Gl X x := by rfl) (hdb : (x == ("__debug__" : Str)) = false := by decide)
    (he : starEach (e :: es) X.env = (false, eval e X.env) :: starEach es X.env := by rfl) (hpl : (backTo pos (starEach es X.env)).any (·.1) = false := by rfl) : PE X (.Call (.Name x p) (e :: es) [] pos) (tCall sp [] E0 t) := by
  subst hX
  obtain ⟨f, fd, F, b, kp, hm⟩ := F
  exact pe_call F (hr.mono hj) hg hm kp b .nil pass0 ha hdb he hpl
theorem pe_me {pl : Sem Bool} (F : g.Me j C m ps sp) (c : Cls g.K C) (hr : Room k X.A) (ho : PE X o ta) (ha : PA X (e :: es) t) (hj : j ≤ k := by omega) (hX : X.gx = g := by rfl)
    (hst : starEach (e :: es) X.env = (false, eval e X.env) :: starEach es X.env := by rfl) (hpl : (backTo pos (starEach es X.env)).any (·.1) = false := by rfl)
    (ht : eval (.Call (.Attribute o m apos) (e :: es) [] pos) X.env = (do
      let ov ← eval o X.env
      standAt apos.atName
      let (f, first) ← holding [ov] (getMethod ov m pl)
      callWith pos f first (backTo pos (starEach (e :: es) X.env)) (backToKw pos (keywordEach [] X.env))) := by rfl) : PE X (.Call (.Attribute o m apos) (e :: es) [] pos) (tMeth C m sp [] E0 ta t) := by
  subst hX
  obtain ⟨f, fd, F, b, hm⟩ := F
  exact pe_meth ho c hm F (hr.mono hj) b .nil pass0 ha hst hpl ht
theorem pe_ma (F : g.Ma j x C ps sp) (hr : Room k X.A) (ha : PA X (e :: es) t) (hj : j + 1 ≤ k := by omega) (hX : X.gx = g := by rfl) (hg : Gl X x := by rfl) (hdb : (x == ("__debug__" : Str)) = false := by decide)
    (he : starEach (e :: es) X.env = (false, eval e X.env) :: starEach es X.env := by rfl) (hpl : (backTo pos (starEach es X.env)).any (·.1) = false := by rfl) : PE X (.Call (.Name x p) (e :: es) [] pos) (tMake C sp [] E0 t) := by
  subst hX
  obtain ⟨f, fd, F, b, M, hm⟩ := F
  exact pe_make M F (hr.mono hj) hg hm b .nil pass0 ha hdb he hpl
theorem pe_bf {id : String} {r : List V → Hp → VK → Prop} (hm : g.mg x = none) (hc : CallR X (.builtin id) r) (ha : PA X (e :: es) t) (hv : bootBuiltins x = some (.builtin id) := by decide +kernel) (hX : X.gx = g := by rfl) (hg : Gl X x := by rfl) (hn : x ≠ "__name__" := by decide) (hdb : (x == ("__debug__" : Str)) = false := by decide)
    (he : starEach (e :: es) X.env = (false, eval e X.env) :: starEach es X.env := by rfl) (hpl : (backTo pos (starEach es X.env)).any (·.1) = false := by rfl) : PE X (.Call (.Name x p) (e :: es) [] pos) (tCB r t) := by
  subst hX
  exact pe_callB hc hg hm hv ha hn hdb he hpl
theorem pe_bt {T : String} {r : List V → Hp → VK → Prop} (hm : g.mg x = none) (hc : CallR X (.type T) r) (ha : PA X (e :: es) t) (hv : bootBuiltins x = some (.type T) := by decide +kernel) (hX : X.gx = g := by rfl) (hg : Gl X x := by rfl) (hn : x ≠ "__name__" := by decide) (hdb : (x == ("__debug__" : Str)) = false := by decide)
    (he : starEach (e :: es) X.env = (false, eval e X.env) :: starEach es X.env := by rfl) (hpl : (backTo pos (starEach es X.env)).any (·.1) = false := by rfl) : PE X (.Call (.Name x p) (e :: es) [] pos) (tCB r t) := by
  subst hX
  exact pe_callTy hc hg hm hv ha hn hdb he hpl
theorem pe_bn {T : String} (hm : g.mg x = none) (hv : bootBuiltins x = some (.type T) := by decide +kernel) (hX : X.gx = g := by rfl) (hg : Gl X x := by rfl) (hn : x ≠ "__name__" := by decide) (hdb : (x == ("__debug__" : Str)) = false := by decide) : PE X (.Name x pos) (tC (.ty T)) := by
  subst hX
  exact pe_bltn hg hm hv rfl hn hdb
end
def S (l : List Nat) : Str := ⟨l.toArray⟩
theorem S_list (l : List Nat) : (S l).cps.toList = l := by simp [S]
theorem S_len (l : List Nat) : (S l).length = l.length := by simp [S, Str.length]
theorem S_app (a b : List Nat) : S a ++ S b = S (a ++ b) := by
  show Str.append (S a) (S b) = S (a ++ b)
  simp [Str.append, S]
theorem S_inj {a b : List Nat} (h : S a = S b) : a = b := by
  have := congrArg (fun x : Str => x.cps.toList) h
  simpa [S_list] using this
theorem S_one (c : Nat) : (⟨#[c]⟩ : Str) = S [c] := rfl
def joinL (s : List Nat) : List (List Nat) → List Nat
  | [] => []
  | [x] => x
  | x :: y :: r => x ++ s ++ joinL s (y :: r)
theorem join_S (s : List Nat) : ∀ ys : List (List Nat), Txt.join (S s) (ys.map S) = S (joinL s ys) := fun ys => by
  have e : Txt.join (S s) (ys.map S) = Str.join (S s) (ys.map S) := eq_of_beq (join_plain_closes _ _)
  rw [e]
  induction ys with
  | nil => rfl
  | cons x r ih =>
    cases r with
    | nil => rfl
    | cons y r =>
      have ih' := ih (eq_of_beq (join_plain_closes _ _))
      show S x ++ S s ++ Str.join (S s) ((y :: r).map S) = _
      rw [ih', S_app, S_app]
      rfl
end L2
namespace L2
open PySem PySem.Spec PyProof.Rows
section
variable {K : PySem.W.Frag} {h : Heap} {mg : Str → Option Value} {P : Program} {w : World} {base : Heap} {f C : Addr} {x qual m : Str} {st : Stmt} {ps : List Str} {oc kV dc pm cd ct : Value} {od an : Option Addr} {sl : Array (Option Value)}
theorem raw_mk (X : K.In h) (G : h.Ns mainGlobals mg) (ps : List Str)
    (a : PySem.W.nsIn K mainGlobals x = some (some (.ref f))) (l : K.lookup f = some ⟨oc, od, .func (PySem.W.fnOf x x (defArgs st) (defBody st) (defScope st) .none kV dc pm an cd ct), sl⟩) (c : PySem.W.codeIn K cd x = true) (k : PySem.W.keepIn K (.ref f) = true)
    (b : ∀ (kV doc pm : Value) (an : Option Addr) (cdv ct : Value) (us : List Value), us.length = ps.length → bindArgs (PySem.W.fnOf x x (defArgs st) (defBody st) (defScope st) .none kV doc pm an cdv ct) ⟨us, []⟩ = pure (ps.zip us)) :
    ∀ P w base, (Gx.mk P w K mg base).Raw x x st ps := fun P w base =>
  have F := fun_mk (st := st) l c k
  ⟨f, _, F, F.binds b, PySem.W.mg_of X G a⟩
theorem rawM_mk (X : K.In h) (G : h.Ns mainGlobals mg) (ps : List Str)
    (a : PySem.W.findIn K (.ref C) m = some (some (.ref f))) (i : PySem.W.isFn K (.ref f) = true) (l : K.lookup f = some ⟨oc, od, .func (PySem.W.fnOf m qual (defArgs st) (defBody st) (defScope st) .none kV dc pm an cd ct), sl⟩) (c : PySem.W.codeIn K cd qual = true) (k : PySem.W.keepIn K (.ref f) = true)
    (b : ∀ (kV doc pm : Value) (an : Option Addr) (cdv ct : Value) (us : List Value), us.length = ps.length → bindArgs (PySem.W.fnOf m qual (defArgs st) (defBody st) (defScope st) .none kV doc pm an cdv ct) ⟨us, []⟩ = pure (ps.zip us)) :
    ∀ P w base, (Gx.mk P w K mg base).RawM C m qual st ps := fun P w base =>
  have F := fun_mk (st := st) l c k
  ⟨f, _, F, F.binds b, ⟨a, i, k⟩⟩
theorem rawI_mk (X : K.In h) (G : h.Ns mainGlobals mg) (ps : List Str) (aC : PySem.W.nsIn K mainGlobals x = some (some (.ref C))) (mk : PySem.W.makesIn K C = true) (kc : PySem.W.keepIn K (.ref C) = true)
    (a : PySem.W.findIn K (.ref C) "__init__" = some (some (.ref f))) (i : PySem.W.isFn K (.ref f) = true) (l : K.lookup f = some ⟨oc, od, .func (PySem.W.fnOf "__init__" qual (defArgs st) (defBody st) (defScope st) .none kV dc pm an cd ct), sl⟩) (c : PySem.W.codeIn K cd qual = true) (k : PySem.W.keepIn K (.ref f) = true)
    (b : ∀ (kV doc pm : Value) (an : Option Addr) (cdv ct : Value) (us : List Value), us.length = ps.length → bindArgs (PySem.W.fnOf "__init__" qual (defArgs st) (defBody st) (defScope st) .none kV doc pm an cdv ct) ⟨us, []⟩ = pure (ps.zip us)) :
    ∀ P w base, (Gx.mk P w K mg base).RawI x C qual st ps := fun P w base =>
  have F := fun_mk (st := st) l c k
  ⟨f, _, F, F.binds b, ⟨mk, a, i, kc⟩, PySem.W.mg_of X G aC⟩
end
def spTrue (K : PySem.W.Frag) : Sp := fun vs H Q _ => ∃ (a : Addr) (ns : List Int), vs = [.ref a] ∧ SqL K H a (ns.map V.int) ∧ ns.length ≤ 63 ∧ ∀ H', Q (.bl true) H'
def LawRaw (K : PySem.W.Frag) (mg : Str → Option Value) (st : Stmt) (x n : Str) : Prop := ∃ f fd, Fun K n n st f fd ∧ (∀ (s : Shared) (u : Value), BindsTo s fd ⟨[u], []⟩ [(x, u)]) ∧ mg n = some (.ref f)
theorem lawRaw_mk {K : PySem.W.Frag} {h : Heap} {mg : Str → Option Value} {f : Addr} {x n : Str} {st : Stmt} {oc kV dc pm cd ct : Value} {od an : Option Addr} {sl : Array (Option Value)} (X : K.In h) (G : h.Ns mainGlobals mg)
    (a : PySem.W.nsIn K mainGlobals n = some (some (.ref f))) (l : K.lookup f = some ⟨oc, od, .func (PySem.W.fnOf n n (defArgs st) (defBody st) (defScope st) .none kV dc pm an cd ct), sl⟩) (c : PySem.W.codeIn K cd n = true) (k : PySem.W.keepIn K (.ref f) = true)
    (b : ∀ (kV doc pm : Value) (an : Option Addr) (cdv ct : Value) (s : Shared) (u : Value), BindsTo s (PySem.W.fnOf n n (defArgs st) (defBody st) (defScope st) .none kV doc pm an cdv ct) ⟨[u], []⟩ [(x, u)]) : LawRaw K mg st x n :=
  ⟨f, _, fun_mk (st := st) l c k, b kV dc pm an cd ct, PySem.W.mg_of X G a⟩
theorem walk_gx {l : PySem.W.OpenLaw} {q : Program} {loose : List Str} {XP : (Str → Option Value) → Heap → Prop} {YP : World → Heap → Prop} {d : DefRec} {K : Params → PySem.W.Frag} (k : Nat) (x : Str) (st : Stmt) (N : List Str) (hn : l.most = some 63) (hdf : d.params.defaults = []) (hk : Room (k + 1) callerA) (S : FnScope N [x] (defScope st))
    (hY : ∀ (w : World) (h : Heap), YP w h → (K w.params).In h)
    (F : ∀ (w : World) (mg : Str → Option Value) (h : Heap), (K w.params).In h → h.Ns mainGlobals mg → LawRaw (K w.params) mg st x d.name ∧ ∀ base, Body (Gx.mk l.prog w (K w.params) mg base) k N d.name st (spTrue (K w.params))) :
    PySem.W.WalkO q loose XP YP l.row.toRowW d [] (fun f vs => PySem.call f vs) := by
  refine L2.walk_of (n := 63) (k := k + 1) (x := x) (CX := fun _ => CX0) (sp := fun w => spTrue (K w.params)) hn (by decide) hdf hk hY (fun w mg fa h KX G hmg => ?_) (fun _ _ a ns hl _ hS => ⟨a, ns, rfl, hS, hl, fun _ => rfl⟩) fun _ _ _ _ _ z => z
  obtain ⟨⟨f, fd, Fu, hb, hm⟩, B⟩ := F w mg h KX G
  have e := hmg.symm.trans hm
  cases e
  exact ⟨fd, hb, fun base _ _ => Fu.ok S (fun vs H Q E h => by obtain ⟨a, ns, rfl, _⟩ := h; rfl) fun cdv A outer s H vs Q E hr h => B base fa cdv A outer s H vs Q E hr h⟩
end L2
namespace L2
open PySem PySem.Spec PyProof.Rows
section
variable {X : Cx}
theorem bits_lt {a : Int} {m : Nat} (h : a.natAbs < 2 ^ m) : Builtin.Int.intBits a ≤ m := by
  unfold Builtin.Int.intBits
  split
  · omega
  · rename_i h0
    have h0 : a.natAbs ≠ 0 := by simpa using h0
    have := (Nat.log2_lt h0).mpr h
    omega
def CMulB (i j : Int) : Prop := ∃ m n : Nat, i.natAbs < 2 ^ m ∧ j.natAbs < 2 ^ n ∧ m + n ≤ 100000000
theorem CMulB.ok {i j : Int} (h : CMulB i j) : IntMulOk i j := by
  obtain ⟨m, n, h1, h2, h3⟩ := h
  exact IntMulOk.of_le (bits_lt h1) (bits_lt h2) (by omega)
def CDivL (i j : Int) : Prop := 0 < j ∧ j.natAbs < 2 ^ 9000
theorem op_fdivL : OpR X (binaryOp .FloorDiv) (rI CDivL fun i j => .int (i / j)) := opI fun i j _ _ _ _ _ hc q => by
  have h1 : (0 : Int) < j := hc.1
  have h2 := hc.2
  have h3 : j.natAbs ≠ 0 := by omega
  exact floordiv_int (by omega) (by rw [Int.fdiv_eq_ediv_of_nonneg i (by omega)]; exact q) (.inl (PyProof.noPylong_of_log2 ((Nat.log2_lt h3).mpr h2)))
theorem small_div {j : Int} (h : 0 < j) (h2 : j < 1073741824) {i : Int} : CDivL i j := ⟨h, Nat.lt_of_lt_of_le (show j.natAbs < 2 ^ 30 by omega) (Nat.pow_le_pow_right (by decide) (by decide))⟩
end
end L2
namespace L2
open PySem PySem.Spec PyProof.Rows
theorem cxOf_K {CX : CXT} {P : Program} {w : World} {K : PySem.W.Frag} {mg : Str → Option Value} {base : Heap} {N : List Str} {qual : Str} {scope : Scope} {f : Addr} {cd : Value} {A : Around} {outer : List Env} {s : Shared} {H : Hp} {E : XK} :
    (cxOf CX P w K mg base N qual scope f cd A outer s H E).K = K := rfl
theorem nox_K {X : Cx} : X.nox.K = X.K := rfl
section
variable {g : TG} {tb : TS} {D : Ends} {σ : St} {H : Hp}
theorem tFor_range1 {ta : TA} {n : Nat} (Pv : Nat → St → Hp → Prop) (ha : ∀ R : List V → Hp → Prop, R [.int n] H → ta σ H R) (hn : n < 2 ^ 62) (h0 : Pv 0 σ H)
    (hs : ∀ i σ H, i < n → Pv i σ H → g (.int i) σ H fun σ2 H2 => tb { D with nx := Pv (i + 1), ct := Pv (i + 1), bk := D.nx } σ2 H2) (hd : ∀ σ H, Pv n σ H → D.nx σ H) : tFor (iRng1 ta) g tb D σ H := by
  refine ha _ ⟨n, rfl, by omega, by omega, ?_⟩
  refine for_range (lo := 0) (n := n) Pv h0 (fun i σ H hi p => ?_) hd
  have e : (0 : Int) + i = i := by omega
  rw [e]; exact hs i σ H hi p
end
end L2
namespace L2
open PySem PySem.Spec PyProof.Rows
section
variable {X : Cx}
theorem call_sum_ints (hc : X.calm = true := by rfl) : CallR X (.builtin "sum") (fun xs H Q => ∃ (p : Addr) (ns : List Int), xs = [.ref p] ∧ SqL X.K H p (ns.map V.int) ∧ Q (.int ns.sum) H) := by
  intro pins s σ H xs us Q I r h
  obtain ⟨p, ns, rfl, hq, q⟩ := h
  obtain ⟨u, rfl, rx⟩ := vals1 r
  cases rx
  obtain ⟨its, r', pl, hz⟩ := I.list hq
  have hi := intsAre_of r'
  have hl := pl.isList
  obtain ⟨xs, ex⟩ := hi.allInts.items
  rw [ex] at hl
  have e : preSum (numAt xs) xs.size = ns.sum := by
    have h1 := nums_intItems (xs := xs)
    rw [← ex] at h1
    have h2 := hi.numsOf
    rw [preSum_eq, List.take_of_length_le (by simp)]
    rw [← h1]
    exact congrArg List.sum h2
  refine sum_intListG (I.ok.hd hc) hl fun h' tk t' hk => ?_
  rw [e]
  exact ⟨.int _, H, I.kept (t' := tk) hk, ⟨t', rfl⟩, q⟩
end
def Ite (G : Hp → List V → Prop) : It :=
  ⟨fun i H => ∃ xs x, G H xs ∧ xs[i]? = some x, fun i H v H' => ∃ T, v = .ref T ∧ H T = none ∧ ∀ xs x, G H xs → xs[i]? = some x → H' = upd H T (.tup [.int i, x]), fun i H => ∃ xs, G H xs ∧ xs.length ≤ i⟩
section
variable {X : Cx} {elts : List Expr} {kk : Nat} {tpos : Pos}
def iEnumL (K : PySem.W.Frag) (ta : TA) : TI := fun σ H R => ta σ H fun vs H1 => ∃ a xs, vs = [.ref a] ∧ SqL K H1 a xs ∧ R (Ite fun H xs => SqL K H a xs) H1
end
end L2
namespace L2
open PySem PySem.Spec PyProof.Rows
mutual
inductive Den (K : PySem.W.Frag) (H : Hp) : V → PyData → Prop
  | non : Den K H .non .none
  | bl (b : Bool) : Den K H (.bl b) (.bool b)
  | int (i : Int) : Den K H (.int i) (.int i)
  | str (x : Str) (h : PyData.strOk x = true) : Den K H (.str x) (.str x)
  | lst {a : Addr} {vs : List V} {ds : List PyData} : SqL K H a vs → Dens K H vs ds → Den K H (.ref a) (.list ds)
  | tup {a : Addr} {vs : List V} {ds : List PyData} : SqT K H a vs → Dens K H vs ds → Den K H (.ref a) (.tuple ds)
inductive Dens (K : PySem.W.Frag) (H : Hp) : List V → List PyData → Prop
  | nil : Dens K H [] []
  | cons {v : V} {d : PyData} {vs : List V} {ds : List PyData} : Den K H v d → Dens K H vs ds → Dens K H (v :: vs) (d :: ds)
end
mutual
theorem Den.keep {K : PySem.W.Frag} {H H' : Hp} (e : Same H H') : ∀ {v : V} {d : PyData}, Den K H v d → Den K H' v d
  | _, _, .non => .non
  | _, _, .bl b => .bl b
  | _, _, .int i => .int i
  | _, _, .str x h => .str x h
  | _, _, .lst h hs => .lst (e.seq h) (hs.keep e)
  | _, _, .tup h hs => .tup (e.tup h) (hs.keep e)
theorem Dens.keep {K : PySem.W.Frag} {H H' : Hp} (e : Same H H') : ∀ {vs : List V} {ds : List PyData}, Dens K H vs ds → Dens K H' vs ds
  | _, _, .nil => .nil
  | _, _, .cons h hs => .cons (h.keep e) (hs.keep e)
end
mutual
theorem Den.lay {K : PySem.W.Frag} {H : Hp} : ∀ {v : V} {d : PyData}, Den K H v d → d.canLay0 = true
  | _, _, .non => rfl
  | _, _, .bl b => rfl
  | _, _, .int i => rfl
  | _, _, .str x h => by simpa [PyData.canLay0] using h
  | _, _, .lst _ hs => by rw [PyData.canLay0]; exact hs.lay
  | _, _, .tup _ hs => by rw [PyData.canLay0]; exact hs.lay
theorem Dens.lay {K : PySem.W.Frag} {H : Hp} : ∀ {vs : List V} {ds : List PyData}, Dens K H vs ds → PyData.canLayAll0 ds = true
  | _, _, .nil => rfl
  | _, _, .cons h hs => by rw [PyData.canLayAll0, h.lay, hs.lay]; rfl
end
section
variable {X : Cx}
mutual
theorem Den.reads {pins : List (Addr × Obj)} {σ : St} {H : Hp} {s : Shared} (I : Inv X pins σ H s) : ∀ {v : V} {d : PyData} {u : Value}, Den X.K H v d → RelV v u → ∃ as, Reads s.heap u d as
  | _, _, u, .non, r => by cases (show u = .none from r); exact ⟨_, .none⟩
  | _, _, u, .bl b, r => by cases (show u = .bool b from r); exact ⟨_, .bool b⟩
  | _, _, u, .int i, r => by obtain ⟨t, rfl⟩ := r; exact ⟨_, .int i t⟩
  | _, _, u, .str x h, r => by obtain ⟨t, rfl⟩ := r; exact ⟨_, .str x t⟩
  | _, _, u, .lst (a := a) h hs, r => by
    cases (show u = .ref a from r)
    obtain ⟨its, rv, pl, hz⟩ := I.list h
    obtain ⟨as, ra⟩ := hs.reads I rv
    obtain ⟨o, e1, e2, n, e3⟩ := pl.isList
    exact ⟨_, .list e1 e2 e3 (by simpa using ra)⟩
  | _, _, u, .tup (a := a) h hs, r => by
    cases (show u = .ref a from r)
    obtain ⟨its, rv, pl, hz⟩ := I.tuple h
    obtain ⟨as, ra⟩ := hs.reads I rv
    obtain ⟨o, e1, e2, n, e3⟩ := (show s.heap.IsTuple a its.toArray from pl)
    exact ⟨_, .tuple e1 e2 e3 (by simpa using ra)⟩
theorem Dens.reads {pins : List (Addr × Obj)} {σ : St} {H : Hp} {s : Shared} (I : Inv X pins σ H s) : ∀ {vs : List V} {ds : List PyData} {us : List Value}, Dens X.K H vs ds → Vals vs us → ∃ as, ReadsAll s.heap us ds as
  | _, _, us, .nil, r => by cases r; exact ⟨_, .nil⟩
  | _, _, us, .cons h hs, r => by
    cases r with
    | cons r rr =>
      obtain ⟨as, ra⟩ := h.reads I r
      obtain ⟨bs, rb⟩ := hs.reads I rr
      exact ⟨_, .cons ra rb⟩
end
end
theorem take_snoc {α : Type} {l : List α} {i : Nat} {x : α} (h : l[i]? = some x) : l.take (i + 1) = l.take i ++ [x] := by
  obtain ⟨hi, hc⟩ := List.getElem?_eq_some_iff.mp h
  rw [List.take_succ_eq_append_getElem hi, hc]
theorem lc_map {J : It} {P : Hp → Prop} {xs : List V} (hJ : ItSeq J P xs) {src : List (Option Nat)} {te : TE} {σ : St} {H1 : Hp} {Q : VK} {D : Addr} (ys : List V) (hP : ∀ H', Same H1 H' → P H') (hD : H1 D = none) (hl : ys.length = xs.length) (hlen : xs.length ≤ 100000)
    (step : ∀ (i : Nat) x y H', xs[i]? = some x → ys[i]? = some y → Same H1 H' → ∀ R : VK, (∀ H'', Same H' H'' → R y H'') → te (some x :: capSt src σ) H' R)
    (fin : ∀ H', Same H1 H' → H' D = some (.lst ys) → Q (.ref D) H') : LC (none :: src) J (gName 0) tYes te σ H1 Q D := by
  have h6 : 100000 < sizeLine := by decide
  refine lc_on hJ (fun i zs σ' H' => zs = ys.take i ∧ (∃ o, σ' = o :: capSt src σ) ∧ Same H1 H' ∧ H' D = some (.lst zs)) ⟨by simp, ⟨none, rfl⟩, .upd_new hD _, upd_same⟩ (fun i zs σ' H' p => ⟨hP _ p.2.2.1, p.2.2.2⟩) (gName_mono 0) ?_ ?_
  · rintro i zs σ' H' x hx ⟨rfl, ⟨o, rfl⟩, sm, hd⟩
    have hi := (List.getElem?_eq_some_iff.mp hx).1
    have hy : ys[i]? = some (ys[i]'(by omega)) := List.getElem?_eq_getElem _
    show te (some x :: capSt src σ) H' _
    refine step i x _ H' hx hy sm _ fun H'' s2 => ⟨s2 _ _ hd, ?_, (take_snoc hy).symm, ⟨_, rfl⟩, .upd_over hD (sm.trans s2) _, upd_same⟩
    rw [List.length_take]; omega
  · rintro zs σ' H' ⟨rfl, _, sm, hd⟩
    rw [← hl, List.take_length] at hd
    exact fin H' sm hd
theorem gTup2_mono' (K : PySem.W.Frag) (i j : Nat) : ∀ x σ H Q Q', (∀ σ' H', Q σ' H' → Q' σ' H') → gTup K 2 (gCons (gName i) (gCons (gName j) gNil)) x σ H Q → gTup K 2 (gCons (gName i) (gCons (gName j) gNil)) x σ H Q' := by
  rintro x σ H Q Q' h ⟨a, xs, e, sq, l, v, r, e1, v2, r2, e2, e3, q⟩
  exact ⟨a, xs, e, sq, l, v, r, e1, v2, r2, e2, e3, h _ _ q⟩
end L2
namespace L2
open PySem PySem.Spec PyProof.Rows
section
variable {a b c d e r : TS} {D : Ends} {σ : St} {H : Hp} (M : St → Hp → Prop) (h1 : ∀ σ H, M σ H → r D σ H)
include h1
theorem cut1 (h2 : ∀ N : St → Hp → Prop, (∀ σ H, M σ H → N σ H) → a { D with nx := N } σ H) : tSeq a r D σ H := h2 (r D) h1
theorem cut2 (h2 : ∀ N : St → Hp → Prop, (∀ σ H, M σ H → N σ H) → tSeq a b { D with nx := N } σ H) : tSeq a (tSeq b r) D σ H := h2 (r D) h1
theorem cut3 (h2 : ∀ N : St → Hp → Prop, (∀ σ H, M σ H → N σ H) → tSeq a (tSeq b c) { D with nx := N } σ H) : tSeq a (tSeq b (tSeq c r)) D σ H := h2 (r D) h1
theorem cut5 (h2 : ∀ N : St → Hp → Prop, (∀ σ H, M σ H → N σ H) → tSeq a (tSeq b (tSeq c (tSeq d e))) { D with nx := N } σ H) : tSeq a (tSeq b (tSeq c (tSeq d (tSeq e r)))) D σ H := h2 (r D) h1
end
theorem scal_ii (i j : Int) : scal (.int i) (.int j) = true := rfl
theorem scal_ss (i j : Str) : scal (.str i) (.str j) = true := rfl
end L2
namespace L2
open PySem PySem.Spec PyProof.Rows
theorem while_of {α : Type} {c : TT} {tb : TS} {D : Ends} {σ : St} {H : Hp} (Pv : α → St → Hp → Prop) (cond : α → Bool) (μ : α → Nat) (a₀ : α) (h0 : Pv a₀ σ H)
    (hc : ∀ a σ H, Pv a σ H → ∀ R : Bool → Hp → Prop, (∀ H', Pv a σ H' → R (cond a) H') → c σ H R)
    (hb : ∀ a σ H, Pv a σ H → cond a = true → tb { D with nx := fun σ' H' => ∃ a', Pv a' σ' H' ∧ μ a' < μ a, ct := fun σ' H' => ∃ a', Pv a' σ' H' ∧ μ a' < μ a, bk := D.nx } σ H)
    (hd : ∀ a σ H, Pv a σ H → cond a = false → D.nx σ H) : tWhile c tb D σ H := by
  refine ⟨fun m σ H => ∃ a, m = μ a ∧ Pv a σ H, ⟨_, a₀, rfl, h0⟩, ?_⟩
  rintro m σ H ⟨a, rfl, p⟩
  refine hc a σ H p _ fun H' p' => ?_
  cases e : cond a with
  | true => exact ⟨_, fun σ' H' ⟨a', q, l⟩ => ⟨_, l, a', rfl, q⟩, hb a σ H' p' e⟩
  | false => exact hd a σ H' p' e
section
variable {X : Cx} {tg : Expr}
def CPowB (i j : Int) : Prop := 0 ≤ j ∧ ∃ m : Nat, i.natAbs < 2 ^ m ∧ (m : Int) * j ≤ 2 ^ 27
def Itd (hi : Int) (n : Nat) : It := ⟨fun i _ => i < n, fun i H x H' => H' = H ∧ x = .int (hi - i), fun i _ => n ≤ i⟩
theorem turn_down {P : Program} {w : World} {K : PySem.W.Frag} {tg : Expr} (it : Addr) (hi : Int) (n : Nat) : Turn P w K tg (Itd hi n) [it] it (fun i h => IsRangeIter h it (hi + (i : Nat) * (-1)) ((n : Int) - (i : Nat)) (-1)) where
  mem := by simp
  obj := fun i h st b hb => by
    have e : b = it := by simpa using hb
    subst e
    exact ⟨_, st, fun v z => by
      have z' : Data.fields _ = Data.cell v := z
      cases z'⟩
  keep := fun i h h' st k => k it (by simp) _ st
  item := by
    intro X hP hw hK hc i pins s σ H E I hf st hg
    subst hP hw hK
    obtain ⟨f0, f1, f2, f3, f4, f5⟩ := hf it (by simp)
    have W := Walks.range (prog := X.prog) (w := X.w) (I.ok.hd hc) it hi (-1) n
    refine W.item i s _ _ hg st fun v h' tk hv st' kk => ?_
    obtain ⟨t, rfl⟩ := hv
    have I1 : Inv X pins σ H { s with heap := h', toks := tk } := I.turned (fun b o hb e => kk b o (by simpa using hb) e) f0 f1 f3 f4 f5
    refine ⟨_, rfl, go_of (s := { s with heap := h', toks := tk }) (n := "range_iterator") st' rfl rfl (by decide) ⟨.int (hi - i), H, I1, ⟨t, ?_⟩, ⟨rfl, rfl⟩, st', fun b hb => (hf b hb).1⟩⟩
    have : hi + (i : Int) * -1 = hi - i := by omega
    rw [this]
  done := by
    intro X hP hw hK hc i pins s σ H E I hf st hg
    subst hP hw hK
    obtain ⟨f0, f1, f2, f3, f4, f5⟩ := hf it (by simp)
    exact wpAny_pyNext_range_end (I.ok.hd hc) st (by have : n ≤ i := hg; omega) fun h' eb => ⟨rfl, I.turned (t' := s.toks) (fun b o hb e => eb b o hb e) f0 f1 f3 f4 f5⟩
  self := fun _ _ _ _ _ st h => wpAny_pyIter_rangeiter st h
theorem small_down {a b : Int} (ha : -(2 ^ 62) ≤ a) (ha' : a < 2 ^ 62) (hb : -(2 ^ 62) ≤ b) (hb' : b < 2 ^ 62) : Builtin.Range.small a b (-1) = true := by
  have e : Builtin.Range.rangeSize a b (-1) = if a > b then a - b else 0 := by unfold Builtin.Range.rangeSize; simp
  unfold Builtin.Range.small
  rw [e]
  simp only [Builtin.Range.rangeFitsLong, Bool.and_eq_true, Bool.or_eq_true, decide_eq_true_eq, beq_iff_eq, show ¬ ((-1 : Int) > 0) by decide, if_false]
  split <;> omega
theorem down_it {pins : List (Addr × Obj)} {σ : St} {H : Hp} {s : Shared} {R : It → Hp → Prop} {E : Value → Shared → Prop} {lo hi : Int} {t u v : Tok} {tk : Nat} (I : Inv X pins σ H s) (h1 : -(2 ^ 62) ≤ lo) (h2 : lo < 2 ^ 62) (h3 : -(2 ^ 62) ≤ hi) (h4 : hi < 2 ^ 62)
    (q : R (Itd lo (lo - hi).toNat) H) : wpAny (model X.prog X.w) X.A (pyIter (.ref s.heap.objs.size)) (PIE X pins σ tg R) E { s with heap := s.heap.push { cls := .type "range", data := .fields #[.int lo t, .int hi u, .int (-1) v] }, toks := tk } := by
  refine wpAny_pyIter_range (IsRange.new ..) (small_down h1 h2 h3 h4) ?_
  have I1 : Inv X pins σ H { s with heap := s.heap.push { cls := .type "range", data := .fields #[.int lo t, .int hi u, .int (-1) v] }, toks := tk } := I.kept fun b o e => Heap.get?_push_of_some _ e
  refine ⟨(s.heap.push { cls := .type "range", data := .fields #[.int lo t, .int hi u, .int (-1) v] }).objs.size, [(s.heap.push { cls := .type "range", data := .fields #[.int lo t, .int hi u, .int (-1) v] }).objs.size], _, _, H, rfl,
    I1.kept (t' := tk) fun b o e => Heap.get?_push_of_some _ e, turn_down _ lo (lo - hi).toNat, ?_, fun b hb => ?_, q⟩
  · have e1 : lo + ((0 : Nat) : Int) * (-1) = lo := by simp
    have e2 : (((lo - hi).toNat : Nat) : Int) - ((0 : Nat) : Int) = Builtin.Range.rangeSize lo hi (-1) := by unfold Builtin.Range.rangeSize; simp; split <;> omega
    show IsRangeIter _ _ (lo + ((0 : Nat) : Int) * (-1)) ((((lo - hi).toNat : Nat) : Int) - ((0 : Nat) : Int)) (-1)
    rw [e1, e2]
    exact Heap.get?_push_size _ rfl
  · have e : b = (s.heap.push { cls := .type "range", data := .fields #[.int lo t, .int hi u, .int (-1) v] }).objs.size := by simpa using hb
    subst e
    exact I1.fpOk (Nat.le_refl _) (I1.hok.fresh (Nat.le_refl _))
def iRngD (ta : TA) : TI := fun σ H R => ta σ H fun vs H1 => ∃ i j : Int, vs = [.int i, .int j, .int (-1)] ∧ (-(2 ^ 62) ≤ i ∧ i < 2 ^ 62 ∧ -(2 ^ 62) ≤ j ∧ j < 2 ^ 62) ∧ R (Itd i (i - j).toNat) H1
theorem pi_range3 {a b c : Expr} {ta : TA} {p pos : Pos} (hg : Gl X "range") (hm : X.mg "range" = none) (ha : PA X [a, b, c] ta) (hs : starEach [a, b, c] X.env = [(false, eval a X.env), (false, eval b X.env), (false, eval c X.env)] := by rfl) (hs2 : starEach [b, c] X.env = [(false, eval b X.env), (false, eval c X.env)] := by rfl) :
    PI X tg (.Call (.Name "range" p) [a, b, c] [] pos) (iRngD ta) := by
  intro pins s σ H R I h
  refine Call_ (ld_blt I hg hm boot_range (PyProof.Rows.callWith_type1 (thn (ha pos pins s σ H _ I h) fun us s1 ⟨vs, H1, I1, r1, q1⟩ => ?_) (by rw [hs, hs2]) (by rw [hs2]; rfl)))
  obtain ⟨i, j, e, ⟨q1, q2, q3, q4⟩, q⟩ := q1
  subst e
  cases r1 with
  | cons r rr =>
    cases rr with
    | cons r' rr =>
      cases rr with
      | cons r'' rr =>
        cases rr
        obtain ⟨t, rfl⟩ := r
        obtain ⟨t', rfl⟩ := r'
        obtain ⟨t'', rfl⟩ := r''
        exact call_range_3 (by decide) (down_it I1 q1 q2 q3 q4 q) (.inl (PyProof.noPylong_small (by decide)))
end
end L2
namespace L2
open PySem PySem.Spec PyProof.Rows
theorem tFor_listN {g : TG} {tb : TS} {D : Ends} {σ : St} {H : Hp} {K : PySem.W.Frag} {tl : TE} {xs : List V} (Pv : Addr → Nat → St → Hp → Prop) (ha : ∀ R : V → Hp → Prop, (∀ c H1, Pv c 0 σ H1 → R (.ref c) H1) → tl σ H R) (hl : ∀ c i σ H, i ≤ xs.length → Pv c i σ H → SqL K H c xs)
    (hs : ∀ c (i : Nat) x σ H, xs[i]? = some x → Pv c i σ H → g x σ H fun σ2 H2 => tb { D with nx := Pv c (i + 1), ct := Pv c (i + 1), bk := D.nx } σ2 H2) (hd : ∀ c σ H, Pv c xs.length σ H → D.nx σ H) : tFor (iList K tl) g tb D σ H := by
  refine ha _ fun c H1 h0 => ⟨c, rfl, ⟨xs, hl c 0 σ H1 (Nat.zero_le _) h0⟩, ?_⟩
  exact for_list (Pv c) h0 (hl c) (hs c) (hd c)
end L2
namespace L2
open PySem PySem.Spec PyProof.Rows
section
variable {src : List (Option Nat)} {te : TE} {σ : St} {H : Hp} {Q : VK}
end
end L2
namespace L2
open PySem PySem.Spec PyProof.Rows
section
variable {src : List (Option Nat)} {te : TE} {σ : St} {H : Hp} {Q : VK}
end
section
variable {X : Cx} {K : PySem.W.Frag}
theorem ix_listK (h : X.K = K := by rfl) : IxR X (rIxL K) := by subst h; exact ix_list
end
end L2
namespace L2
open PySem PySem.Spec PyProof.Rows
section
variable {tb : TS} {D : Ends} {σ : St} {H : Hp}
theorem tFor_zipN {K : PySem.W.Frag} {ta : TA} (i j : Nat) {xs ys : List V} (Pv : Addr → Addr → Nat → St → Hp → Prop) (ha : ∀ R : List V → Hp → Prop, (∀ a b H1, Pv a b 0 σ H1 → R [.ref a, .ref b] H1) → ta σ H R)
    (hl : ∀ a b n σ H, n ≤ min xs.length ys.length → Pv a b n σ H → SqL K H a xs ∧ SqL K H b ys)
    (hs : ∀ a b (n : Nat) x y σ H T, xs[n]? = some x → ys[n]? = some y → Pv a b n σ H → H T = none → tb { D with nx := Pv a b (n + 1), ct := Pv a b (n + 1), bk := D.nx } ((σ.set i (some x)).set j (some y)) (upd H T (.tup [x, y])))
    (hd : ∀ a b σ H, Pv a b (min xs.length ys.length) σ H → D.nx σ H) : tFor (iZipL K ta) (gTup K 2 (gCons (gName i) (gCons (gName j) gNil))) tb D σ H := by
  refine ha _ fun a b H1 h0 => ?_
  obtain ⟨s1, s2⟩ := hl a b 0 σ H1 (Nat.zero_le _) h0
  refine ⟨a, b, xs, ys, rfl, s1, s2, ?_⟩
  refine ⟨fun n m σ H => m = min xs.length ys.length - n ∧ n ≤ min xs.length ys.length ∧ Pv a b n σ H, ⟨min xs.length ys.length, by simp, Nat.zero_le _, h0⟩, ?_⟩
  rintro n m σ H ⟨rfl, hn, p⟩
  obtain ⟨g1, g2⟩ := hl a b n σ H hn p
  by_cases hlt : n < min xs.length ys.length
  · have hx : xs[n]? = some (xs[n]'(by omega)) := List.getElem?_eq_getElem _
    have hy : ys[n]? = some (ys[n]'(by omega)) := List.getElem?_eq_getElem _
    refine .inr ⟨⟨xs, ys, _, _, g1, g2, hx, hy⟩, Pv a b (n + 1), fun σ' H' p' => ⟨min xs.length ys.length - (n + 1), by omega, rfl, hlt, p'⟩, ?_⟩
    rintro v H' ⟨T, rfl, hT, heq⟩
    have e := heq xs ys _ _ g1 g2 hx hy
    subst e
    exact ⟨T, _, rfl, SqT.of upd_same, rfl, _, _, rfl, _, _, rfl, rfl, hs a b n _ _ σ H T hx hy p hT⟩
  · have e : n = min xs.length ys.length := by omega
    subst e
    refine .inl ⟨⟨xs, ys, g1, g2, ?_⟩, hd a b σ H p⟩
    omega
end
end L2
namespace L2
open PySem PySem.Spec PyProof.Rows
section
variable {X : Cx} {e st : Expr} {te ts : TE} {pos p2 : Pos}
def tRev (K : PySem.W.Frag) (te ts : TE) : TE := fun σ H Q => te σ H fun x H1 => ts σ H1 fun y H2 => y = .int (-1) ∧ ∃ a xs, x = .ref a ∧ SqL K H2 a xs ∧ ∀ p, H2 p = none → Q (.ref p) (upd H2 p (.lst xs.reverse))
end
end L2
namespace L2
open PySem PySem.Spec PyProof.Rows
section
variable {X : Cx} {pos : Pos}
def rBits : V → List V → Hp → VK → Prop := fun x vs H Q => ∃ i, x = .int i ∧ vs = [] ∧ Q (.int (Builtin.Int.intBits i : Nat)) H
def rFind : V → List V → Hp → VK → Prop := fun x vs H Q => ∃ (z y : Str), x = .str z ∧ vs = [.str y] ∧ Q (.int (Txt.find z y)) H
def tDict0 : TE := fun _ H Q => ∀ p, H p = none → Q (.ref p) (upd H p (.dK []))
end
def Gx.ConT (g : Gx) (x : Str) (xs : List V) : Prop := ∃ c, g.mg x = some (.ref c) ∧ ∀ H, SqT g.K H c xs
theorem conT_mk {K : PySem.W.Frag} {h : Heap} {mg : Str → Option Value} {x : Str} {i : Addr} {dc : Option Addr} {its : Array Value} {n : Nat} {sl : Array (Option Value)} {xs : List V} (X : K.In h) (G : h.Ns mainGlobals mg)
    (a : PySem.W.nsIn K mainGlobals x = some (some (.ref i))) (l : K.lookup i = some ⟨.type "tuple", dc, .seq its n, sl⟩) (hz : its.size ≤ sizeLine) (r : Vals xs its.toList) : ∀ P w base, (Gx.mk P w K mg base).ConT x xs :=
  fun P w base => ⟨i, PySem.W.mg_of X G a, fun H => .inr ⟨_, its, n, l, rfl, rfl, hz, r⟩⟩
section
variable {X : Cx} {g : Gx} {x : Str} {pos : Pos}
def tConT (K : PySem.W.Frag) (xs : List V) : TE := fun _ H Q => ∀ c, SqT K H c xs → Q (.ref c) H
theorem pe_gt {xs : List V} (F : g.ConT x xs) (hX : X.gx = g := by rfl) (hg : Gl X x := by rfl) (hd : (x == ("__debug__" : Str)) = false := by decide) : PE X (.Name x pos) (tConT g.K xs) := by
  subst hX
  obtain ⟨c, e, hc⟩ := F
  exact fun pins s σ H Q I h => pe_glob hg e (show RelV (.ref c) (.ref c) from rfl) hd pins s σ H Q I (h c (hc H))
end
end L2
namespace L2
open PySem PySem.Spec PyProof.Rows
theorem iteN {c A B : Prop} [Decidable c] (h : ¬ c) (hb : B) : if c then A else B := by rw [if_neg h]; exact hb
theorem iteY {c A B : Prop} [Decidable c] (h : c) (ha : A) : if c then A else B := by rw [if_pos h]; exact ha
section
variable {src : List (Option Nat)} {te : TE} {σ : St} {H : Hp} {Q : VK}
end
section
variable {X : Cx} {K : PySem.W.Frag} {o e : Expr} {es : List Expr} {to : TE} {t : TA} {name : Str} {apos cpos : Pos} {T id : String} {r : V → List V → Hp → VK → Prop}
end
section
variable {X : Cx}
def CMulC (i j : Int) : Prop := CMulB i j ∨ CMul i j
theorem op_mulC : OpR X (binaryOp .Mult) (rI CMulC fun i j => .int (i * j)) := opI fun _ _ _ _ _ _ _ hc q => mul_int q (hc.elim (fun h => h.ok) fun h => h.ok)
end
end L2
namespace L2
open PySem PySem.Spec PyProof.Rows
abbrev IsZipF (h : Heap) (z TI TO : Addr) (f0 : Value) (f1 : Bool) : Prop :=
  h.get? z = some { cls := .type "zip", dict := none, data := .fields #[f0, .bool f1, .bool false, .ref TI, .ref TO], slots := #[] }
section
variable {prog : Program} {w : World} {A : Around} {E : Value → Shared → Prop} {s : Shared} {z TI TO i1 i2 T : Addr} {S1 S2 : Nat → Heap → Prop} {R1 R2 : Heap → (Nat → Option Value) → Prop} {g1 g2 : Nat → Option Value} {k : Nat} {a b : Value} {f : Bool} {oT : Obj}
end
section
variable {prog : Program} {w : World} {A : Around} {s : Shared} {R : Result → Shared → Prop} {z TI TO i1 i2 S p1 p2 : Addr} {xs ys : List Value}
def ZSt (h : Heap) (z TI TO i1 i2 p1 p2 : Addr) (i : Nat) (as : List Addr) : Prop :=
  IsPair h TI (.ref i1) (.ref i2) ∧ h.IsTupleIter i1 p1 i ∧ h.IsTupleIter i2 p2 i ∧ ((i = 0 ∧ IsZip h z TI TO .none ∧ ∃ a b, IsPair h TO a b) ∨ ∃ T f, T ∈ as ∧ IsZipF h z TI TO (rawInt T) f)
end
end L2
namespace L2
open PySem PySem.Calls PySem.Spec PyProof.Rows PyProof.V
section
variable {prog : Program} {w : World} {A : Around} {E : Value → Shared → Prop} {s : Shared} {z TI TO i1 i2 p1 p2 : Addr} {xs ys : List Value}
structure ZGot (xs ys : List Value) (lo : Nat) (h : Heap) (as : List Addr) : Prop where
  len : as.length = xs.length
  rise : as.Pairwise (· < ·)
  above : ∀ a ∈ as, lo ≤ a
  pairs : ∀ (j : Nat) a x y, as[j]? = some a → xs[j]? = some x → ys[j]? = some y → IsPair h a x y
end
end L2
namespace L2
open PySem PySem.Spec PyProof.Rows
section
variable {X : Cx} {pins : List (Addr × Obj)} {σ : St} {H H' : Hp} {s : Shared} {h' : Heap}
end
section
variable {X : Cx}
def tLZ (K : PySem.W.Frag) (ta : TA) : TE := fun σ H Q => ta σ H fun vs H1 => ∃ a b xs ys, vs = [.ref a, .ref b] ∧ SqT K H1 a xs ∧ SqT K H1 b ys ∧ xs.length = ys.length ∧
  ∀ (l : Addr) (as : List Addr) (H2 : Hp), H1 l = none → Same H1 H2 → H2 l = some (.lst (as.map V.ref)) → as.length = xs.length →
    (∀ (j : Nat) a x y, as[j]? = some a → xs[j]? = some x → ys[j]? = some y → H1 a = none ∧ H2 a = some (.tup [x, y])) → Q (.ref l) H2
end
end L2
namespace L2
open PySem PySem.Spec PyProof.Rows
section
variable {src : List (Option Nat)} {te : TE} {σ : St} {H : Hp} {Q : VK}
end
end L2
namespace L2
open PySem PySem.Spec PyProof.Rows
section
variable {X : Cx}
theorem ps_setC {i : Nat} {x : Str} {pos' apos : Pos} {elt tg iter : Expr} {ifs : List Expr} {scope : Scope} {pos : Pos} {src : List (Option Nat)} {N' : List Str} {wi : TI} {g : TG} {tt : TT} {te : TE} (hN : X.N.Nodup) (hix : X.N[i]? = some x) (hlx : Loc X.env.scope x) (hcap : Cap X scope src N') (hc : X.calm = true) (hi : PI X tg iter wi)
    (hg : ∀ cl C s₀ H₀ fp pn, PG (cxC X scope N' cl C s₀ H₀ fp pn) tg g) (ht : ∀ cl C s₀ H₀ fp pn, PTs (cxC X scope N' cl C s₀ H₀ fp pn) ifs tt) (he : ∀ cl C s₀ H₀ fp pn, PE (cxC X scope N' cl C s₀ H₀ fp pn) elt te)
    (hfree : ∀ x, (x, NameKind.free) ∈ scope.names → X.env.scope.names.lookup x = some NameKind.cell ∨ X.env.scope.names.lookup x = some NameKind.free)
    (hk : scope.kind = .function := by rfl) (hcell : ∀ y ∈ scope.names, y.2 ≠ .cell := by decide) (hnames : ∀ y ∈ scope.names, y.2 = .local → scope.names.lookup y.1 = some .local := by decide +kernel)
    (hs : ∀ x, foldedSetIterable iter X.env x = pure x := by intro _; rfl) (hsw : swapsWithSole [.Name x pos'] (.ListComp elt [⟨tg, iter, ifs, 0⟩] scope pos) apos.line X.env = pure true := by rfl) (hf : X.fn x = true ∨ X.env.scope.names.lookup x = some .local := by first | exact .inl rfl | exact .inr rfl | assumption) :
    PS X (.Assign [.Name x pos'] (.ListComp elt [⟨tg, iter, ifs, 0⟩] scope pos) apos) (tAsg (tLC src wi g tt te) (gName i)) := by
  intro pins s σ H D0 I h
  have no : ∀ {E : Value → Shared → Prop}, ∀ (e : Value) (s' : Shared), False → E e s' := fun _ _ f => f.elim
  obtain ⟨cl, hcl, a, b⟩ := closure_ok X.env scope fun x hx => I.ok.has x (hfree x hx)
  rw [exec_Assign_arm]
  refine wpAny_bind (wpAny_standAt ?_)
  rw [hsw]
  refine wpAny_bind (wpAny_pure ?_)
  rw [if_pos rfl]
  refine wpAny_bind ?_
  rw [arm_evalThenUse_ListComp]
  refine wpAny_bind ?_
  refine wpAny_comprehension_free (use := some _) rfl hs hcl hk hnames (thn (hi pins s σ H _ I h) fun v s1 h1 => thn h1 fun itv s2 h2 => ?_)
  obtain ⟨it, fp, tn, J, H2, e, I2, T, st2, f2, q⟩ := h2
  subst e
  have hD : H2 s2.heap.objs.size = none := I2.hok.fresh (Nat.le_refl _)
  obtain ⟨W, ⟨m0, w0⟩, turn⟩ := q s2.heap.objs.size hD
  have I3 := I2.lnew (t' := s2.toks) (ys := []) (its := []) .nil (Nat.zero_le _)
  have fl2 : ∀ b ∈ fp, b < s2.heap.objs.size := fun b hb => by
    obtain ⟨o, e, _⟩ := T.obj _ _ st2 b hb
    exact Heap.lt_size e
  refine wpAny_newObj_type ?_
  generalize es3 : ({ s2 with heap := s2.heap.push { cls := .type "list", dict := none, data := .seq ([] : List Value).toArray } } : Shared) = s3
  have I3' : Inv X pins σ (upd H2 s2.heap.objs.size (.lst [])) s3 := es3 ▸ I3
  have keep3 : ∀ b o, s2.heap.get? b = some o → s3.heap.get? b = some o := fun b o e => by rw [← es3]; exact Heap.get?_push_of_some _ e
  have st3 : tn 0 s3.heap := T.keep _ _ _ st2 fun b _ o e => keep3 b o e
  have fl3 : ∀ b ∈ fp, b < s3.heap.objs.size := fun b hb => by
    obtain ⟨o, e, _⟩ := T.obj _ _ st3 b hb
    exact Heap.lt_size e
  have f3 : ∀ b ∈ fp, FpOk X pins (upd H2 s2.heap.objs.size (.lst [])) b := fun b hb => ⟨by rw [upd_ne (Nat.ne_of_lt (fl2 b hb))]; exact (f2 b hb).1, (f2 b hb).2⟩
  generalize eD : s2.heap.objs.size = D at *
  generalize eH3 : upd H2 D (.lst []) = H3 at *
  refine wpAny_newFunctionEnv hcell (by intro y hy; simp at hy) (fun h₁ hns₁ hsb₁ => ?_) hk
  have keep4 : ∀ b o, s3.heap.get? b = some o → h₁.get? b = some o := fun b o e => hsb₁.extBut b o (Nat.ne_of_lt (Heap.lt_size e)) (Heap.get?_push_of_some _ e)
  have I4 := inv_comp (N' := N') (src := src) (tk := s3.toks + ([] : List (Str × Value)).length) hk hcell hcap a b I3' f3 fl3 rfl keep4 hns₁
  -- the iterator's objects, through the block
  have stat : ∀ {H' : Hp}, (∀ b ∈ fp, H' b = none) → ∀ b ∈ fp, FpOk (cxC X scope N' cl s3.heap.objs.size s3 H3 fp (X.pn ++ pins)) [] H' b := fun hn b' hb => by
    obtain ⟨f0, f1, fs, fe, f4, f5⟩ := f3 b' hb
    refine ⟨hn b' hb, Nat.ne_of_lt (fl3 b' hb), fun z => ?_, .inl hb, fun x c h => f4 x c (a x c h), fun p hp => f5 p (by simpa [cxC] using hp)⟩
    rcases List.mem_cons.mp (I3'.stkSub b' z) with e | e
    · exact f1 e
    · exact fs e
  -- behind the block
  have fin : ∀ {H' : Hp} {s' : Shared} {σ' : St} {pins' : List (Addr × Obj)}, Inv (cxC X scope N' cl s3.heap.objs.size s3 H3 fp (X.pn ++ pins)) pins' σ' H' s' → ∀ h', Heap.SameBut s3.heap.objs.size s'.heap h' → Inv X pins σ H' { s' with heap := h' } := fun {H' s' σ' pins'} J' h' sb => by
    have same : ∀ b o, b ≠ s3.heap.objs.size → s'.heap.get? b = some o → h'.get? b = some o := fun b o hb e => sb.extBut b o hb e
    have u : Un (frs X.stack) fp H3 H' s3.heap s'.heap := J'.base
    refine I3'.call' (s' := { s' with heap := h' }) (ch := fp) J'.os ⟨fun b o e n hb hx => ?_, fun b o e n hb hx => ?_, u.free, fun b o e hx => ?_, u.tups, u.frzs, u.tbls⟩ (fun b o e => ?_) J'.bare fun b hb => ?_
    · exact same b o (Nat.ne_of_lt (Heap.lt_size e)) (u.keep b o e n hb hx)
    · obtain ⟨sl, z⟩ := u.slot b o e n hb hx
      exact ⟨sl, same b _ (Nat.ne_of_lt (Heap.lt_size e)) z⟩
    · obtain ⟨o', z⟩ := u.there b o e hx
      exact ⟨o', same b o' (Nat.ne_of_lt (Heap.lt_size e)) z⟩
    · have nC : ∀ c v, H' c = some v → c ≠ s3.heap.objs.size := fun c v z q => by
        have := J'.free
        rw [show (cxC X scope N' cl s3.heap.objs.size s3 H3 fp (X.pn ++ pins)).env.locals = s3.heap.objs.size from rfl, ← q, z] at this
        cases this
      refine (J'.hok b o e).stay (fun c v hc q => same c v ?_ q) (fun _ q => q) fun _ _ q => q
      rcases hc with z | z
      · rw [z]; exact nC b o e
      · exact nC c _ z
    · obtain ⟨f0, f1, fs, fe, f4, f5⟩ := f3 b hb
      exact ⟨fe, f1, f4, f5⟩
  have loop : codeAny (model X.prog X.w) X.A (.compLoop (.ListComp elt [⟨tg, iter, ifs, 0⟩] scope pos) 0 (.ref it) (.ref D) (compEnvC scope cl s3.heap.objs.size X.env))
      (compPost (model X.prog X.w) X.A X.xe (some fun v => assignAll v ((assignEach [.Name x pos'] X.env).map (·.2))) (fun _ s' => wpAny (model X.prog X.w) X.A (pure PUnit.unit) (fun _ s' => wpAny (model X.prog X.w) X.A (pure Flow.next) (SP X pins D0) X.xe s') X.xe s') (.ref D) s3.heap.objs.size) { s3 with heap := h₁, toks := s3.toks + ([] : List (Str × Value)).length } := by
    refine comp_loop (fun n s' => ∃ i ys σ' H', Inv (cxC X scope N' cl s3.heap.objs.size s3 H3 fp (X.pn ++ pins)) [] σ' H' s' ∧ tn i s'.heap ∧ (∀ b ∈ fp, H' b = none) ∧ W i n ys σ' H') ?_ m0 ⟨0, [], capSt src σ, H3, I4, T.keep _ _ _ st3 fun b _ o e => keep4 b o e, fun b hb => (f3 b hb).1, w0⟩
    rintro n s5 ⟨i, ys, σ5, H5, I5, st5, fr5, w5⟩
    obtain ⟨hDs, stop | go⟩ := turn i n ys σ5 H5 w5
    · obtain ⟨stop, qn⟩ := stop
      refine thn (T.done (cxC X scope N' cl s3.heap.objs.size s3 H3 fp (X.pn ++ pins)) rfl rfl rfl hc i [] s5 σ5 H5 _ I5 (stat fr5) st5 stop) fun r s6 ⟨hr, I6⟩ => ?_
      subst hr
      obtain ⟨m, hn, _⟩ := id I6.loc
      have IO : Inv X pins σ H5 s6 := fin I6 s6.heap (Heap.SameBut.refl _ _)
      have hCn : H5 s3.heap.objs.size = none := I6.free
      have hC : ∀ {H' : Hp}, H' s3.heap.objs.size = none → FpOk X pins H' s3.heap.objs.size := fun {H'} z => I3'.fpOk (Nat.le_refl _) z
      obtain ⟨oC, es, ep, hoC, rC⟩ := hn
      have IP := IO.pinned (fp := [s3.heap.objs.size]) (fun b hb => by rw [List.mem_singleton.mp hb]; exact hC hCn) (fun b hb => by rw [List.mem_singleton.mp hb]; exact ⟨oC, hoC, fun v z => by (rw [rC.1] at z; cases z)⟩)
      show wpAny _ _ (assign (.Name x pos') X.env (.ref D)) _ _ _
      refine thn (pg_name hN hix hlx hf _ s6 σ H5 (.ref D) (.ref D) _ IP rfl qn) fun _ s7 ⟨σ7, H7, I7, q7⟩ => ?_
      obtain ⟨g1, g2, _⟩ := I7.pin (s3.heap.objs.size, oC) (List.mem_append_right _ (List.mem_append_right _ (mem_pinsAt (List.mem_singleton.mpr rfl) hoC)))
      refine ⟨m, ⟨oC, es, ep, g1, rC⟩, fun h' sb => wpAny_pure (wpAny_pure ⟨σ7, H7, ?_, q7⟩)⟩
      exact I7.unpinned.turnedL (t' := s7.toks) (ch := [s3.heap.objs.size]) (fun b o hb e => sb.extBut b o (fun z => hb (by rw [z]; exact List.mem_singleton.mpr rfl)) e) (fun b hb => by rw [List.mem_singleton.mp hb]; exact hC g2)
    · obtain ⟨go, N, hN, step⟩ := go
      refine thn (T.item (cxC X scope N' cl s3.heap.objs.size s3 H3 fp (X.pn ++ pins)) rfl rfl rfl hc i [] s5 σ5 H5 _ I5 (stat fr5) st5 go) fun r s6 ⟨u, hr, h6⟩ => ?_
      subst hr
      refine thn h6 fun _ s7 ⟨x, H7, I7, r7, y7, st7, fr7⟩ => ?_
      have I7' := I7.pinned (stat fr7) (T.obj _ _ st7)
      have again : ∀ {s8 : Shared} {σ8 : St} {H8 : Hp} {ys' : List V}, Inv (cxC X scope N' cl s3.heap.objs.size s3 H3 fp (X.pn ++ pins)) ([] ++ pinsAt fp s7.heap) σ8 H8 s8 → (∃ m', m' < n ∧ W (i + 1) m' ys' σ8 H8) →
          ∃ m, m < n ∧ ∃ i ys σ' H', Inv (cxC X scope N' cl s3.heap.objs.size s3 H3 fp (X.pn ++ pins)) [] σ' H' s8 ∧ tn i s8.heap ∧ (∀ b ∈ fp, H' b = none) ∧ W i m ys σ' H' := fun {s8 σ8 H8 ys'} I8 ⟨m', hm, w8⟩ => by
        refine ⟨m', hm, i + 1, ys', σ8, H8, I8.unpinned, T.keep _ _ _ st7 fun b hb o e => (I8.pin (b, o) (List.mem_append_right _ (List.mem_append_right _ (mem_pinsAt hb e)))).1, fun b hb => ?_, w8⟩
        obtain ⟨o, e, d⟩ := T.obj _ _ st7 b hb
        exact (I8.pin (b, o) (List.mem_append_right _ (List.mem_append_right _ (mem_pinsAt hb e)))).2.1
      refine thn (hg cl _ s3 H3 fp _ _ s7 σ5 H7 x u _ I7' r7 (step x H7 y7)) fun _ s8 ⟨σ8, H8, I8, q8⟩ => ?_
      refine thn (ht cl _ s3 H3 fp _ _ s8 σ8 H8 _ I8 q8) fun ok s9 ⟨H9, I9, q9⟩ => ?_
      cases ok with
      | false => exact again I9 (hN _ _ _ q9)
      | true =>
        rw [if_pos rfl]
        refine thn (he cl _ s3 H3 fp _ _ s9 σ8 H9 _ I9 q9) fun y s10 ⟨yv, H10, I10, r10, q10⟩ => ?_
        obtain ⟨hDy, hlen, w10⟩ := q10
        refine thn (mt_append (X := cxC X scope N' cl s3.heap.objs.size s3 H3 fp (X.pn ++ pins)) _ s10 σ8 H10 (.ref D) [yv] (.ref D) [y] (fun _ H' => H' = upd H10 D (.lst (ys ++ [yv]))) I10 rfl (.cons r10 .nil) ⟨D, ys, yv, rfl, rfl, hDy, hlen, rfl⟩) fun _ s11 ⟨_, H11, I11, _, e11⟩ => ?_
        subst e11
        exact again I11 (hN _ _ _ w10)
  exact codeAny_compStart_list loop (T.self _ 0 _ _ _ (T.keep _ _ _ st3 fun b _ o e => keep4 b o e) loop)
end
end L2
namespace L2
open PySem PySem.Spec PyProof.Rows
structure Fly (P : Program) (w : World) (l : List Env) (H : Hp) (h : Heap) (e : Addr) (cls : Value) (H' : Hp) (h' B : Heap) : Prop where
  fl : ∃ a0, Heap.FlyingW B l e cls a0 h'
  hok : HOk P w H' B
  keep : ∀ b o, h.get? b = some o → H b = none → b ∉ frs l → B.get? b = some o
  slot : ∀ b o, h.get? b = some o → H b = none → b ∈ frs l → ∃ sl, h'.get? b = some { o with slots := sl }
  al : ∀ b o, h.get? b = some o → b ∉ frs l → ∃ o', B.get? b = some o'
  free : ∀ b o, h.get? b = some o → H b = none → H' b = none
  tups : ∀ b xs, H b = some (.tup xs) → H' b = some (.tup xs)
  frzs : ∀ b o u, H b = some (.frz o u) → H' b = some (.frz o u)
  tbls : ∀ b ps, H b = some (.tbl ps) → ∃ more, H' b = some (.tbl (ps ++ more))
section
variable {P : Program} {w : World} {l : List Env} {H H' : Hp} {h h' h'' B : Heap} {e : Addr} {cls : Value}
end
section
variable {X : Cx} {pins : List (Addr × Obj)} {σ : St} {H H' : Hp} {s s' : Shared} {h' B : Heap} {e : Addr} {cls : Value} {M : Model} {A : Around} {Q : Unit → Shared → Prop} {EE : Value → Shared → Prop}
end
def CXF (P : Program) (w : World) : CXT := fun l H s E e s' => ∃ (a : Addr) (cls : Value) (H' : Hp) (B : Heap), e = .ref a ∧ s'.os = s.os ∧ AllBare s'.gens ∧ Fly P w l H s.heap a cls H' s'.heap B ∧ E cls none H'
abbrev Gx.cxX (g : Gx) (N : List Str) (qual : Str) (st : Stmt) (f : Addr) (cdv : Value) (A : Around) (outer : List Env) (s : Shared) (H : Hp) (E : XK) : Cx := cxOf (CXF g.P g.w) g.P g.w g.K g.mg g.base N qual (defScope st) f cdv A outer s H E
section
variable {g : Gx} {N : List Str} {qual : Str} {st : Stmt} {f : Addr} {cdv : Value} {A : Around} {outer : List Env} {s : Shared} {H : Hp} {E : XK}
def Raises (X : Cx) (E : XK) : Prop := ∀ (pins : List (Addr × Obj)) (σ : St) (H : Hp) (s : Shared) (h' : Heap) (e : Addr) (cls : Value) (vs : List Value), Inv X pins σ H s → Heap.MadeExcOf s.heap h' e cls vs → E cls none H → X.xe (.ref e) { s with heap := h' }
end
def Gx.FnX (g : Gx) (k : Nat) (x : Str) (ps : List Str) (sp : Sp) : Prop := ∃ f fd, FnOk g.P g.w g.K g.mg g.base (CXF g.P g.w) k f fd ps sp ∧ Binds g.K fd ps [] ∧ PySem.W.keepIn g.K (.ref f) = true ∧ g.mg x = some (.ref f)
def BodyX (g : Gx) (k : Nat) (N : List Str) (qual : Str) (st : Stmt) (sp : Sp) : Prop := ∀ (f : Addr) (cdv : Value) (A : Around) (outer : List Env) (s : Shared) (H : Hp) (vs : List V) (Q : VK) (E : XK), Room k (g.cxX N qual st f cdv A outer s H E).A → sp vs H Q E →
  ∃ t, PSs (g.cxX N qual st f cdv A outer s H E) (defBody st) t ∧ t { nx := fun _ H' => Q .non H', rt := Q } (start N vs) H
section
variable {g : Gx} {k : Nat} {x qual m : Str} {st : Stmt} {N ps : List Str} {sp : Sp} {C : Addr}
end
section
variable {g : Gx} {X : Cx} {k j : Nat} {x : Str} {ps : List Str} {sp : Sp} {E : XK} {e : Expr} {es : List Expr} {t : TA} {p pos cpos np : Pos}
abbrev veLine : List Value := [.type "ValueError", .type "Exception", .type "BaseException", .type "object"]
structure Gx.Exc (g : Gx) (x : Str) (C : Addr) : Prop where
  bound : g.mg x = some (.ref C)
  own : PySem.W.excIn g.K C veLine "ValueError.__new__" = true
def tRaise (C : Addr) (E : XK) (t : TA) : TS := fun _ σ H => t σ H fun vs H1 => vs.length ≤ sizeLine ∧ E (.ref C) none H1
end
abbrev Cx.caught (X : Cx) (e : Addr) : Cx := { X with A := X.A.mark (some (.ref e)), calm := false, xe := fun _ _ => False }
section
variable {X : Cx} {pins : List (Addr × Obj)} {σ : St} {H H' H1 : Hp} {s s1 s' : Shared} {e : Value} {D : Ends} {ts : TS} {b₀ : Stmt} {suite : List Stmt} {c : Str} {cv : Value} {cp hpos : Pos}
end
def tTry (K : PySem.W.Frag) (cv : Value) (sp : Sp) (t : TA) (i : Nat) (ts : TS) : TS := fun D σ H => t σ H fun vs H1 => sp (vs ++ []) H1 (fun v H2 => D.nx (σ.set i (some v)) H2) (fun cls _ H2 => PySem.W.exmOne K cls cv = some true ∧ ts D σ H2)
section
variable {g : Gx} {X : Cx} {k j i : Nat} {x f c : Str} {ps : List Str} {sp : Sp} {e : Expr} {es : List Expr} {t : TA} {ts : TS} {b₀ : Stmt} {suite : List Stmt} {cv : Value} {fp px cp hpos apos cpos pos : Pos}
end
end L2
namespace L2
open PySem PySem.Spec PyProof.Rows
def Ite' (k : Nat) (G : Hp → List V → Prop) : It :=
  ⟨fun i H => ∃ xs x, G H xs ∧ xs[i]? = some x, fun i H v H' => ∃ T, v = .ref T ∧ H T = none ∧ ∀ xs x, G H xs → xs[i]? = some x → H' = upd H T (.tup [.int ((i + k : Nat) : Int), x]), fun i H => ∃ xs, G H xs ∧ xs.length = i⟩
section
variable {prog : Program} {w : World} {A : Around} {E : Value → Shared → Prop} {s : Shared}
open AutoSeq1 (wpAny_loadPart') in
end
section
variable {X : Cx} {elts : List Expr} {kk : Nat} {tpos : Pos}
def iEnumT (K : PySem.W.Frag) (ta : TA) : TI := fun σ H R => ta σ H fun vs H1 => ∃ a xs, vs = [.ref a] ∧ SqT K H1 a xs ∧ R (Ite' 0 fun H xs => SqT K H a xs) H1
end
section
variable {g : TG} {tb : TS} {D : Ends} {σ : St} {H : Hp}
end
end L2
namespace L2
open PySem PySem.Spec PyProof.Rows
section
variable {prog : Program} {w : World} {A : Around} {E : Value → Shared → Prop} {s : Shared}
open AutoSeq1 (wpAny_loadPart') in
end
end L2
namespace L2
open PySem PySem.Spec PyProof.Rows
section
variable {X : Cx} {elts : List Expr} {kk : Nat} {tpos : Pos}
def iEnum1 (K : PySem.W.Frag) (ta : TA) : TI := fun σ H R => ta σ H fun vs H1 => ∃ a xs, vs = [.ref a] ∧ SqL K H1 a xs ∧ R (Ite' 1 fun H xs => SqL K H a xs) H1
end
section
variable {g : TG} {tb : TS} {D : Ends} {σ : St} {H : Hp}
end
section
variable {X : Cx} {tg : Expr}
def Itu (lo c : Int) (n : Nat) : It := ⟨fun i _ => i < n, fun i H v H' => v = .int (lo + i * c) ∧ H' = H, fun i _ => n ≤ i⟩
def iRngU (ta : TA) : TI := fun σ H R => ta σ H fun vs H1 => ∃ i j c : Int, vs = [.int i, .int j, .int c] ∧ (-(2 ^ 60) ≤ i ∧ i < 2 ^ 60 ∧ -(2 ^ 60) ≤ j ∧ j < 2 ^ 60 ∧ 0 < c ∧ c < 2 ^ 29) ∧ R (Itu i c (Builtin.Range.rangeSize i j c).toNat) H1
end
end L2
namespace L2
open PySem PySem.Spec PyProof.Rows
def ExcO (a : Addr) (cls : Value) : HO := .ext fun h => ∃ o vs, h.get? a = some o ∧ o.cls = cls ∧ o.data = .fields vs
section
variable {P : Program} {w : World} {l : List Env} {H H' : Hp} {h h' h'' B : Heap} {a e : Addr} {cls : Value} {o : HO}
end
section
variable {X : Cx} {pins : List (Addr × Obj)} {σ : St} {H H' H1 : Hp} {s s1 s' : Shared}
end
def Ends.gone (D : Ends) (j : Nat) : Ends := { nx := fun σ H => D.nx (σ.set j none) H, rt := D.rt, bk := fun σ H => D.bk (σ.set j none) H, ct := fun σ H => D.ct (σ.set j none) H }
section
variable {X : Cx} {pins : List (Addr × Obj)} {σ : St} {H H' H1 : Hp} {s s1 s' : Shared} {e : Value} {D : Ends} {ts : TS} {b₀ : Stmt} {suite : List Stmt} {c n : Str} {cv : Value} {cp hpos : Pos} {j : Nat}
end
end L2
namespace L2
open PySem PySem.Spec PyProof.Rows
def tTryAs (K : PySem.W.Frag) (cv : Value) (sp : Sp) (t : TA) (i j : Nat) (ts : TS) : TS := fun D σ H => t σ H fun vs H1 => sp (vs ++ []) H1 (fun v H2 => D.nx (σ.set i (some v)) H2) (fun cls _ H2 => PySem.W.exmOne K cls cv = some true ∧ ∀ a, H2 a = none → ts (D.gone j) (σ.set j (some (.ref a))) (upd H2 a (ExcO a cls)))
section
variable {g : Gx} {X : Cx} {k jj i j : Nat} {x f c n : Str} {ps : List Str} {sp : Sp} {e : Expr} {es : List Expr} {t : TA} {ts : TS} {b₀ : Stmt} {suite : List Stmt} {cv : Value} {fp px cp hpos apos cpos pos : Pos}
end
structure RoomM (k : Nat) (A : Around) : Prop where
  dp : A.depth + 3 * k + 5 < recursionLimit
  un : A.units + 16 * k + 200 < cLine
structure FnOkM (P : Program) (w : World) (K : PySem.W.Frag) (mg : Str → Option Value) (base : Heap) (k : Nat) (f : Addr) (fd : FuncData) (ps : List Str) (sp : Sp) : Prop where
  len : ∀ vs H Q E, sp vs H Q E → vs.length = ps.length
  run : ∀ (A : Around) (outer : List Env) (s : Shared) (H : Hp) (args : Args) (us : List Value) (vs : List V) (Q : VK) (E : XK), RoomM k A → Env0 P w K mg base A outer s H → BindsTo s fd args (ps.zip us) → Vals vs us → sp vs H Q E →
    codeAny (model P w) A (.call (.ref f) args) (CR CX0 outer P w H s Q E) s
def Gx.FnM (g : Gx) (k : Nat) (x : Str) (ps : List Str) (sp : Sp) : Prop := ∃ f fd, FnOkM g.P g.w g.K g.mg g.base k f fd ps sp ∧ Binds g.K fd ps [] ∧ PySem.W.keepIn g.K (.ref f) = true ∧ g.mg x = some (.ref f)
abbrev Gx.cxM (g : Gx) (N : List Str) (qual : Str) (st : Stmt) (f : Addr) (cdv : Value) (A : Around) (outer : List Env) (s : Shared) (H : Hp) (E : XK) : Cx := { cxOf CX0 g.P g.w g.K g.mg g.base N qual (defScope st) f cdv A outer s H E with calm := false, xe := fun _ _ => False }
def BodyM (g : Gx) (k : Nat) (N : List Str) (qual : Str) (st : Stmt) (sp : Sp) : Prop := ∀ (f : Addr) (cdv : Value) (A : Around) (outer : List Env) (s : Shared) (H : Hp) (vs : List V) (Q : VK) (E : XK), RoomM k (g.cxM N qual st f cdv A outer s H E).A → sp vs H Q E →
  ∃ t, PSs (g.cxM N qual st f cdv A outer s H E) (defBody st) t ∧ t { nx := fun _ H' => Q .non H', rt := Q } (start N vs) H
section
variable {g : Gx} {k : Nat} {x qual : Str} {st : Stmt} {N ps : List Str} {sp : Sp}
end
section
variable {g : Gx} {X : Cx} {k j : Nat} {x : Str} {ps : List Str} {sp : Sp} {e : Expr} {es : List Expr} {t : TA} {p pos : Pos}
end
end L2
namespace PySem.W
open PySem PySem.Calls PyProof.Rows Builtin Builtin.ObjectAttr Builtin.Getset_descriptor
section
variable {prog : Program} {w : World} {A : Around} {E : Value → Shared → Prop} {K : Frag} {x C : Addr} {ox : Obj} {hh : Heap} {g : Array GenState} {d : Drawn} {t : Nat} {os : OsState}
end
end PySem.W
namespace L2
open PySem PySem.Spec PyProof.Rows
structure ExcT (K : PySem.W.Frag) (C : Addr) : Prop where
  hd : PySem.W.hasDictIn K C = true
  hm : PySem.W.mroIn K C (.type "object") = some true
  hb : PySem.W.mroIn K C (.type "BaseException") = some true
  ha : PySem.W.findIn K (.ref C) "__class__" = some (some (.builtin "object.__class__"))
  hga : PySem.W.findIn K (.ref C) "__getattribute__" = some (some (.builtin "BaseException.__getattribute__"))
  hgt : PySem.W.findIn K (.ref C) "__getattr__" = some none
section
variable {X : Cx}
theorem pe_cla {g : Gx} {x : Str} {C : Addr} {pos : Pos} (h : g.mg x = some (.ref C)) (hX : X.gx = g := by rfl) (hg : Gl X x := by rfl) (hd : (x == ("__debug__" : Str)) = false := by decide) : PE X (.Name x pos) (tC (.ref C)) := by
  subst hX
  exact pe_glob hg h rfl hd
end
theorem caught_K {X : Cx} {a : Addr} : (X.caught a).K = X.K := rfl
end L2
namespace L2
open PySem PySem.Spec PyProof.Rows
theorem noattr_mk {K : PySem.W.Frag} {C : Addr} {f : Str} (h : PySem.W.findIn K (.ref C) f = some none) : NoAttr K C f := h
end L2
namespace L2
open PySem PySem.Spec PyProof.Rows
section
variable {src : List (Option Nat)} {te : TE} {σ : St} {H : Hp} {Q : VK}
end
end L2
namespace L2
open PySem PySem.Spec PyProof.Rows
section
variable {X : Cx}
end
end L2
namespace L2
open PySem PySem.Spec PyProof.Rows
section
variable {src : List (Option Nat)} {te : TE} {σ : St} {H : Hp} {Q : VK}
end
end L2
namespace L2
open PySem PySem.Spec PyProof.Rows
def SqX (K : PySem.W.Frag) (H : Hp) (a : Addr) (xs : List V) : Prop := Rd H a (.lst xs) ∨ ∃ (its : Array Value) (n : Nat), K.lookup a = some { cls := .type "list", data := .seq its n } ∧ its.size ≤ sizeLine ∧ Vals xs its.toList
section
variable {X : Cx}
def rCatX (K : PySem.W.Frag) : R2 := fun x y H Q => ∃ l b xs zs, x = .ref l ∧ y = .ref b ∧ SqX K H l xs ∧ SqX K H b zs ∧ xs.length + zs.length ≤ sizeLine ∧ ∀ p, H p = none → Q (.ref p) (upd H p (.lst (xs ++ zs)))
end
def spTrueX (K : PySem.W.Frag) : Sp := fun vs H Q _ => ∃ (a : Addr) (ns : List Int), vs = [.ref a] ∧ SqX K H a (ns.map V.int) ∧ ns.length ≤ 63 ∧ ∀ H', Q (.bl true) H'
end L2
namespace L2
open PySem PySem.Spec PyProof.Rows
def Gx.FnV (g : Gx) (k : Nat) (f : Addr) (ps : List Str) (sp : Sp) : Prop := ∃ fd, FnOk g.P g.w g.K g.mg g.base CX0 k f fd ps sp ∧ Binds g.K fd ps [] ∧ PySem.W.keepIn g.K (.ref f) = true
def tFn (g : Gx) (k : Nat) (ps : List Str) (sp : Sp) : TE := fun _ H Q => ∀ f, g.FnV k f ps sp → Q (.ref f) H
def tCallV (g : Gx) (k i : Nat) (t : TA) : TE := fun σ H Q => ∃ f ps sp, σ[i]? = some (some (.ref f)) ∧ g.FnV k f ps sp ∧ t σ H fun vs H1 => sp vs H1 Q E0
section
variable {X : Cx} {g : Gx} {k j i : Nat} {x : Str} {ps : List Str} {sp : Sp} {p pos : Pos} {e : Expr} {es : List Expr} {t : TA}
end
theorem star_tup (es : List Expr) (x : Nat) (p : Pos) (es' : List Expr) (env : Env) : starEach (.Tuple es x p :: es') env = (false, eval (.Tuple es x p) env) :: starEach es' env := rfl
theorem star_lst (es : List Expr) (p : Pos) (es' : List Expr) (env : Env) : starEach (.List es p :: es') env = (false, eval (.List es p) env) :: starEach es' env := rfl
end L2
namespace L2
open PySem PySem.Spec PyProof.Rows
section
variable {X : Cx} {pins : List (Addr × Obj)} {σ : St} {H : Hp} {s : Shared} {A : Around} {E Q : Value → Shared → Prop}
end
section
variable {X : Cx}
end
section
variable {src : List (Option Nat)} {te : TE} {σ : St} {Q : VK}
variable {X : Cx} {H : Hp}
def iOr (a b : TI) : TI := fun σ H R => a σ H R ∨ b σ H R
end
end L2
namespace L2
open PySem PySem.Spec PyProof.Rows
mutual
inductive LtR : PyData → PyData → Bool → Prop
  | int (i j : Int) : LtR (.int i) (.int j) (decide (i < j))
  | tup {ds es : List PyData} {b : Bool} : LtA ds es b → LtR (.tuple ds) (.tuple es) b
inductive LtA : List PyData → List PyData → Bool → Prop
  | nn : LtA [] [] false
  | nc {e : PyData} {es : List PyData} : LtA [] (e :: es) true
  | cn {d : PyData} {ds : List PyData} : LtA (d :: ds) [] false
  | eq {d e : PyData} {ds es : List PyData} {b : Bool} : PyData.eqv d e = true → LtA ds es b → LtA (d :: ds) (e :: es) b
  | ne {d e : PyData} {ds es : List PyData} {b : Bool} : PyData.eqv d e = false → LtR d e b → LtA (d :: ds) (e :: es) b
end
def LtAt (A : Around) (s : Shared) (u v : Value) (b : Bool) : Prop := ∀ (prog : Program) (w : World) (E : Value → Shared → Prop) (Q : Value → Shared → Prop), Q (.bool b) s → wpAny (model prog w) A (richCompare .Lt u v) Q E s
section
open PySem.SeqAt
open PySem.AutoSeq1 (wpAny_loadPart')
open PySem.MeetsSeq PySem.MeetsSeq2 PySem.MeetsSeq3
inductive Two (A : Around) (s : Shared) : List Value → List Value → Bool → Prop
  | nn : Two A s [] [] false
  | nc {v : Value} {vs : List Value} : Two A s [] (v :: vs) true
  | cn {v : Value} {vs : List Value} : Two A s (v :: vs) [] false
  | eq {u v : Value} {us vs : List Value} {b : Bool} : EqAt A s u v true → Two A s us vs b → Two A s (u :: us) (v :: vs) b
  | ne {u v : Value} {us vs : List Value} {b : Bool} : EqAt A s u v false → LtAt A s u v b → Two A s (u :: us) (v :: vs) b
variable {X : Cx}
end
end L2
namespace L2
open PySem PySem.Spec PyProof.Rows
mutual
inductive LeR : PyData → PyData → Bool → Prop
  | int (i j : Int) : LeR (.int i) (.int j) (decide (i ≤ j))
  | tup {ds es : List PyData} {b : Bool} : LeA ds es b → LeR (.tuple ds) (.tuple es) b
inductive LeA : List PyData → List PyData → Bool → Prop
  | nn : LeA [] [] true
  | nc {e : PyData} {es : List PyData} : LeA [] (e :: es) true
  | cn {d : PyData} {ds : List PyData} : LeA (d :: ds) [] false
  | eq {d e : PyData} {ds es : List PyData} {b : Bool} : PyData.eqv d e = true → LeA ds es b → LeA (d :: ds) (e :: es) b
  | ne {d e : PyData} {ds es : List PyData} {b : Bool} : PyData.eqv d e = false → LeR d e b → LeA (d :: ds) (e :: es) b
end
def LeAt (A : Around) (s : Shared) (u v : Value) (b : Bool) : Prop := ∀ (prog : Program) (w : World) (E : Value → Shared → Prop) (Q : Value → Shared → Prop), Q (.bool b) s → wpAny (model prog w) A (richCompare .LtE u v) Q E s
section
open PySem.SeqAt
open PySem.AutoSeq1 (wpAny_loadPart')
open PySem.MeetsSeq PySem.MeetsSeq2 PySem.MeetsSeq3
inductive TwoE (A : Around) (s : Shared) : List Value → List Value → Bool → Prop
  | nn : TwoE A s [] [] true
  | nc {v : Value} {vs : List Value} : TwoE A s [] (v :: vs) true
  | cn {v : Value} {vs : List Value} : TwoE A s (v :: vs) [] false
  | eq {u v : Value} {us vs : List Value} {b : Bool} : EqAt A s u v true → TwoE A s us vs b → TwoE A s (u :: us) (v :: vs) b
  | ne {u v : Value} {us vs : List Value} {b : Bool} : EqAt A s u v false → LeAt A s u v b → TwoE A s (u :: us) (v :: vs) b
variable {X : Cx}
variable {K : PySem.W.Frag}
end
end L2
namespace L2
open PySem
mutual
inductive KD : PyData → Prop
  | int (i : Int) : KD (.int i)
  | tup {ds : List PyData} : KDs ds → KD (.tuple ds)
inductive KDs : List PyData → Prop
  | nil : KDs []
  | cons {d : PyData} {ds : List PyData} : KD d → KDs ds → KDs (d :: ds)
end
mutual
inductive KLt : PyData → PyData → Prop
  | int {i j : Int} : i < j → KLt (.int i) (.int j)
  | mix {i : Int} {ds : List PyData} : KLt (.int i) (.tuple ds)
  | tup {ds es : List PyData} : KLs ds es → KLt (.tuple ds) (.tuple es)
inductive KLs : List PyData → List PyData → Prop
  | nil {e : PyData} {es : List PyData} : KLs [] (e :: es)
  | here {d e : PyData} {ds es : List PyData} : KLt d e → KLs (d :: ds) (e :: es)
  | there {d : PyData} {ds es : List PyData} : KLs ds es → KLs (d :: ds) (d :: es)
end
mutual
inductive Sim : PyData → PyData → Prop
  | int (i j : Int) : Sim (.int i) (.int j)
  | tup {ds es : List PyData} : Sims ds es → Sim (.tuple ds) (.tuple es)
inductive Sims : List PyData → List PyData → Prop
  | nil {es : List PyData} : Sims [] es
  | end_ {ds : List PyData} : Sims ds []
  | cons {d e : PyData} {ds es : List PyData} : Sim d e → (d = e → Sims ds es) → Sims (d :: ds) (e :: es)
end
end L2
namespace L2
open PySem
section
variable {src : List (Option Nat)} {te : TE} {σ : St} {H : Hp} {Q : VK}
theorem lc_relD {J : It} {P : Hp → Prop} {xs : List V} (hJ : ItSeq J P xs) {H1 : Hp} {D : Addr} (Rl : Nat → V → Hp → Prop) (st : ∀ i y H H', Rl i y H → Same H H' → Rl i y H') (su : ∀ i y H zs zs', Rl i y H → H D = some (.lst zs) → Rl i y (upd H D (.lst zs')))
    (hP : ∀ H', Same H1 H' → P H') (hD : H1 D = none) (hlen : xs.length ≤ 100000)
    (step : ∀ (i : Nat) x H' zs, xs[i]? = some x → Same H1 H' → H' D = some (.lst zs) → ∀ R : VK, (∀ y H'', Same H' H'' → Rl i y H'' → R y H'') → te (some x :: capSt src σ) H' R)
    (fin : ∀ (ys : List V) H', Same H1 H' → H' D = some (.lst ys) → ys.length = xs.length → (∀ (j : Nat) y, ys[j]? = some y → Rl j y H') → Q (.ref D) H') : LC (none :: src) J (gName 0) tYes te σ H1 Q D := by
  have h6 : 100000 < sizeLine := by decide
  refine lc_on hJ (fun i zs σ' H' => zs.length = i ∧ (∃ o, σ' = o :: capSt src σ) ∧ Same H1 H' ∧ H' D = some (.lst zs) ∧ ∀ (j : Nat) y, zs[j]? = some y → Rl j y H')
    ⟨rfl, ⟨none, rfl⟩, .upd_new hD _, upd_same, fun j y h => by simp at h⟩ (fun i zs σ' H' ⟨_, _, p1, p2, _⟩ => ⟨hP _ p1, p2⟩) (gName_mono 0) ?_ ?_
  · rintro i zs σ' H' x hx ⟨hi', ⟨o, rfl⟩, sm, hd, hts⟩
    have hi := (List.getElem?_eq_some_iff.mp hx).1
    show te (some x :: capSt src σ) H' _
    refine step i x H' zs hx sm hd _ fun y H'' s2 hy => ⟨s2 _ _ hd, by omega, by simp [hi'], ⟨_, rfl⟩, .upd_over hD (sm.trans s2) _, upd_same, fun j z hj => su _ _ _ _ _ ?_ (s2 _ _ hd)⟩
    rcases Nat.lt_trichotomy j zs.length with h1 | h1 | h1
    · rw [List.getElem?_append_left h1] at hj
      exact st _ _ _ _ (hts j z hj) s2
    · have hb : y = z := by subst h1; simpa using hj
      subst hb
      rw [h1, hi']
      exact hy
    · rw [List.getElem?_eq_none (by rw [List.length_append, List.length_singleton]; omega)] at hj; cases hj
  · rintro zs σ' H' ⟨hn, _, sm, hd, hts⟩
    exact fin zs H' sm hd hn hts
theorem tLC_relD {K : PySem.W.Frag} {tl : TE} {xs : List V} {b : Addr} (Rl : Addr → Nat → V → Hp → Prop) (st : ∀ D i y H H', Rl D i y H → Same H H' → Rl D i y H') (su : ∀ D i y H zs zs', Rl D i y H → H D = some (.lst zs) → Rl D i y (upd H D (.lst zs')))
    (ha : ∀ R : V → Hp → Prop, R (.ref b) H → tl σ H R) (hS : SqL K H b xs) (hlen : xs.length ≤ 100000)
    (step : ∀ D (i : Nat) x H' zs, xs[i]? = some x → Same H H' → H' D = some (.lst zs) → ∀ R : VK, (∀ y H'', Same H' H'' → Rl D i y H'' → R y H'') → te (some x :: capSt src σ) H' R)
    (fin : ∀ D (ys : List V) H', H D = none → Same H H' → H' D = some (.lst ys) → ys.length = xs.length → (∀ (j : Nat) y, ys[j]? = some y → Rl D j y H') → Q (.ref D) H') : tLC (none :: src) (iList K tl) (gName 0) tYes te σ H Q :=
  ha _ ⟨b, rfl, ⟨xs, hS⟩, fun D hD => lc_relD (itseq_list.imp fun H' (e : Same H H') => e.seq hS) (Rl D) (st D) (su D) (fun _ e => e) hD hlen (fun i x H' zs hx sm hd R r => step D i x H' zs hx sm hd R r) fun ys H' sm => fin D ys H' hD sm⟩
end
end L2
namespace L2
open PySem
mutual
inductive VL (H : Hp) : V → PyData → List Addr → Prop
  | int (i : Int) : VL H (.int i) (.int i) []
  | str (x : Str) (h : PyData.strOk x = true) : VL H (.str x) (.str x) []
  | lst {a : Addr} {vs : List V} {ds : List PyData} {L : List Addr} : H a = some (.lst vs) → vs.length ≤ 10000 → VLs H vs ds L → VL H (.ref a) (.list ds) (a :: L)
  | tup {a : Addr} {vs : List V} {ds : List PyData} {L : List Addr} : H a = some (.tup vs) → vs.length ≤ 10000 → VLs H vs ds L → VL H (.ref a) (.tuple ds) L
inductive VLs (H : Hp) : List V → List PyData → List Addr → Prop
  | nil : VLs H [] [] []
  | cons {v : V} {d : PyData} {L : List Addr} {vs : List V} {ds : List PyData} {L' : List Addr} : VL H v d L → VLs H vs ds L' → VLs H (v :: vs) (d :: ds) (L ++ L')
end
def Tps (H H' : Hp) : Prop := ∀ a vs, H a = some (.tup vs) → H' a = some (.tup vs)
structure Own (H0 H : Hp) (v : V) (d : PyData) (L : List Addr) : Prop where
  vl : VL H v d L
  nd : L.Nodup
  new : ∀ a ∈ L, H0 a = none
structure Owns (H0 H : Hp) (vs : List V) (ds : List PyData) (L : List Addr) : Prop where
  vl : VLs H vs ds L
  nd : L.Nodup
  new : ∀ a ∈ L, H0 a = none
section
variable {src : List (Option Nat)} {te : TE} {σ : St} {H : Hp} {Q : VK}
def UpTo (n c m : Nat) : Prop := (∀ i, i < m → i * c < n) ∧ n ≤ m * c
def sel (p : Nat → Bool) (ds : List PyData) (n : Nat) : List PyData := ((List.range n).filter p).filterMap (ds[·]?)
end
end L2
namespace L2
open PySem PySem.Spec PyProof.Rows
section
variable {X : Cx} {pos : Pos}
def rStarts : V → List V → Hp → VK → Prop := fun x vs H Q => ∃ (z y : Str), x = .str z ∧ vs = [.str y] ∧ Q (.bl (Txt.startswith z y)) H
end
def dg (i : Int) : List Nat := (Str.ofString (toString i)).cps.toList
end L2
namespace L2
open PySem
section
variable {src : List (Option Nat)} {te : TE} {σ : St} {H : Hp} {Q : VK}
theorem tLC_rangeI {ta : TA} {n : Nat} (I : Addr → Nat → List V → Hp → Prop) (ha : ∀ R : List V → Hp → Prop, R [.int n] H → ta σ H R) (hlen : n ≤ 100000)
    (i0 : ∀ D, H D = none → I D 0 [] (upd H D (.lst []))) (dl : ∀ D i zs H', I D i zs H' → zs.length = i ∧ H' D = some (.lst zs))
    (step : ∀ D (i : Nat) zs H', H D = none → i < n → I D i zs H' → ∀ R : VK, (∀ y H'', H'' D = some (.lst zs) → I D (i + 1) (zs ++ [y]) (upd H'' D (.lst (zs ++ [y]))) → R y H'') → te (some (.int i) :: capSt src σ) H' R)
    (fin : ∀ D zs H', H D = none → I D n zs H' → Q (.ref D) H') : tLC (none :: src) (iRng1 ta) (gName 0) tYes te σ H Q := by
  refine ha _ ⟨n, rfl, by omega, by omega, fun D hD => ?_⟩
  have h6 : 100000 < sizeLine := by decide
  refine lc_on (itseq_range (lo := 0) (n := n) (P := fun _ => True)) (fun i zs σ' H' => (∃ o, σ' = o :: capSt src σ) ∧ i ≤ n ∧ I D i zs H') ⟨⟨none, rfl⟩, Nat.zero_le _, i0 D hD⟩ (fun i zs σ' H' q => ⟨trivial, (dl _ _ _ _ q.2.2).2⟩) (gName_mono 0) ?_ ?_
  · rintro i zs σ' H' x hx ⟨⟨o, rfl⟩, _, hI⟩
    have hi : i < n := by have := (List.getElem?_eq_some_iff.mp hx).1; simpa using this
    rw [List.getElem?_map, List.getElem?_range hi] at hx
    have e : V.int (0 + (i : Int)) = x := Option.some.inj hx
    rw [Int.zero_add] at e
    subst e
    have hl := (dl _ _ _ _ hI).1
    show te (some (.int i) :: capSt src σ) H' _
    exact step D i zs H' hD hi hI _ fun y H'' hd hI' => ⟨hd, by omega, ⟨_, rfl⟩, hi, hI'⟩
  · rintro zs σ' H' ⟨_, _, hI⟩
    exact fin D zs H' hD (by simpa using hI)
end
end L2
namespace L2
open PySem PySem.Spec PyProof.Rows
def Gx.MeX (g : Gx) (k : Nat) (C : Addr) (m : Str) (ps : List Str) (sp : Sp) : Prop := ∃ f fd, FnOk g.P g.w g.K g.mg g.base (CXF g.P g.w) k f fd ps sp ∧ Binds g.K fd ps [] ∧ Meth g.K C m f
section
variable {g : Gx} {k : Nat} {x qual m : Str} {st : Stmt} {N ps : List Str} {sp : Sp} {C : Addr}
end
section
variable {g : Gx} {X : Cx} {k j : Nat} {x m : Str} {ps : List Str} {sp : Sp} {E : XK} {C : Addr} {e o : Expr} {es : List Expr} {t : TA} {ta : TE} {p pos apos : Pos}
end
def tNo : TE := fun _ _ _ => False
def tTryE (K : PySem.W.Frag) (cv : Value) (sp : Sp) (t : TA) (j : Nat) (ts : TS) : TS := fun D σ H => t σ H fun vs H1 => sp (vs ++ []) H1 (fun v H2 => D.nx σ H2) (fun cls _ H2 => PySem.W.exmOne K cls cv = some true ∧ ∀ a, H2 a = none → ts (D.gone j) (σ.set j (some (.ref a))) (upd H2 a (ExcO a cls)))
section
variable {g : Gx} {X : Cx} {k jj j : Nat} {f c n : Str} {ps : List Str} {sp : Sp} {e : Expr} {es : List Expr} {t : TA} {ts : TS} {b₀ : Stmt} {suite : List Stmt} {cv : Value} {fp cp hpos apos cpos pos : Pos}
end
end L2
namespace L2
open PySem PySem.Spec PyProof.Rows
def addOnce (l : List Str) (v : Str) : List Str := if l.any (· == v) then l else l ++ [v]
def met (val : Nat → Str) (i : Nat) : List Str := ((List.range i).map val).foldl addOnce []
section
variable {prog : Program} {w : World} {A : Around} {R : Result → Shared → Prop} {I : Addr} {fp wr : List Addr} {G : Array GenState → Array GenState → Prop} {n : Nat} {P : Nat → Value → Prop} {St : Nat → Shared → Prop}
end
end L2
namespace L2
open PySem PySem.Spec PyProof.Rows
def sg (x : Str) (i : Nat) : Str := ⟨#[x.cps.getD i 0]⟩
section
variable {prog : Program} {w : World} {A : Around} {E : Value → Shared → Prop} {s : Shared}
end
def SetO (a : Addr) (n : Nat) : HO := .ext fun h => ∃ (o : Obj) (es : Array (Int × Value)) (ep : Nat) (t : SetTable), h.get? a = some o ∧ o.ExactSet ∧ o.data = .set es ep t ∧ t.fits es.size = true ∧ es.size = n ∧ n < scanBound
section
variable {X : Cx}
end
end L2
namespace L2
open PySem PySem.Spec PyProof.Rows
def tNoT : TT := fun _ _ _ => False
section
variable {X : Cx}
end
end L2
namespace L2
open PySem PySem.Spec PyProof.Rows
section
variable {X : Cx}
def rSplit : V → List V → Hp → VK → Prop := fun x vs H Q => ∃ (z : Str) (c : Nat), x = .str z ∧ vs = [.str ⟨#[c]⟩] ∧ z.length ≤ 100000 ∧ ∀ l, H l = none → Q (.ref l) (upd H l (.lst ((Txt.split z ⟨#[c]⟩).map V.str)))
end
end L2
namespace L2
open PySem PySem.Spec PyProof.Rows
section
variable {X : Cx}
end
end L2
namespace L2
open PySem PySem.Spec PyProof.Rows
theorem pick_vals {xs : List V} {its : List Value} (r : Vals xs its) : ∀ idx : List Nat, ∃ ys, Vals ys (idx.filterMap (its.toArray[·]?)) ∧ (∀ v ∈ ys, v ∈ xs) ∧ ys.length ≤ idx.length
  | [] => ⟨[], .nil, (fun v h => absurd h (by simp)), Nat.le_refl _⟩
  | i :: idx => by
    obtain ⟨ys, h1, h2, h3⟩ := pick_vals r idx
    cases hx : xs[i]? with
    | none =>
      have hn := r.none_of hx
      refine ⟨ys, ?_, h2, by rw [List.length_cons]; omega⟩
      rw [List.filterMap_cons, show its.toArray[i]? = none by simpa using hn]
      exact h1
    | some x =>
      obtain ⟨u, hu, ru⟩ := r.get hx
      refine ⟨x :: ys, ?_, ?_, by rw [List.length_cons, List.length_cons]; omega⟩
      · rw [List.filterMap_cons, show its.toArray[i]? = some u by simpa using hu]
        exact .cons ru h1
      · intro v hv
        rcases List.mem_cons.mp hv with rfl | hv
        · exact List.mem_of_getElem? hx
        · exact h2 v hv
section
variable {X : Cx} {e lo st : Expr} {te tl ts : TE} {pos p2 : Pos}
def tSlStep (K : PySem.W.Frag) (te tl ts : TE) : TE := fun σ H Q => te σ H fun x H1 => tl σ H1 fun y H2 => ts σ H2 fun z H3 =>
  ∃ (a : Addr) (xs : List V) (k n : Int), x = .ref a ∧ y = .int k ∧ z = .int n ∧ 0 ≤ k ∧ 0 < n ∧ SqL K H3 a xs ∧ ∀ p ys, H3 p = none → (∀ v ∈ ys, v ∈ xs) → ys.length ≤ xs.length → Q (.ref p) (upd H3 p (.lst ys))
theorem pe_slStep (he : PE X e te) (hl : PE X lo tl) (hs : PE X st ts) : PE X (.Subscript e (.Slice (some lo) none (some st) p2) pos) (tSlStep X.K te tl ts) := by
  intro pins s σ H Q I h
  refine Subscript_ (thn (he pins s σ H _ I h) fun v s1 ⟨x, H1, I1, r1, q1⟩ => ?_)
  refine wpAny_Slice ?_
  rw [evalPart_some]
  refine thn (hl pins s1 σ H1 _ I1 q1) fun ul s2 ⟨y, H2, I2, r2, q2⟩ => ?_
  rw [evalPart_none]
  refine wpAny_pure ?_
  rw [evalPart_some]
  refine thn (hs pins s2 σ H2 _ I2 q2) fun u s3 ⟨z, H3, I3, r3, q3⟩ => ?_
  obtain ⟨a, xs, k, n, rfl, rfl, rfl, hk, hn, hx, q⟩ := q3
  obtain ⟨t1, rfl⟩ := r2
  obtain ⟨t2, rfl⟩ := r3
  cases r1
  have I4 : Inv X pins σ H3 { s3 with heap := s3.heap.push { cls := .type "slice", data := .fields #[.int k t1, .none, .int n t2] } } := I3.kept (t' := s3.toks) fun b ob q => Heap.get?_push_of_some _ q
  obtain ⟨its, r, ht, hz⟩ := I4.list hx
  have hlen := r.length
  obtain ⟨ys, v1, v2, v3⟩ := pick_vals r (sliceRange (sliceBounds (some k) none (some n) its.toArray.size).1 (sliceBounds (some k) none (some n) its.toArray.size).2.1 (sliceBounds (some k) none (some n) its.toArray.size).2.2)
  have hb : sliceBounds (some k) none (some n) its.toArray.size = (max 0 (min k its.length), (its.length : Int), n) := by
    simp only [sliceBounds, Option.getD_some, List.size_toArray]
    rw [if_neg (show ¬ k < 0 by omega), if_pos (show n > 0 by omega), if_pos (show n > 0 by omega)]
  have hle : ys.length ≤ its.length := by
    refine Nat.le_trans v3 ?_
    rw [hb]
    exact sliceRange_length_le _ _ _ _ (fun _ => ⟨by dsimp only; omega, by dsimp only; omega⟩) (fun z => absurd (show n > 0 by omega) z)
  have hg := wpAny_getItem_list_slice (prog := X.prog) (w := X.w) (A := X.A) (E := X.xe) (Q := EP X pins σ Q) ht.isList (Heap.IsSliceOf.new ..) (.int k t1) .none (.int n t2) (by intro z; have := Option.some.inj z; omega) (by
    refine ⟨.ref _, _, I4.laid (t' := _) (o := .lst ys) (fun b ob q => Heap.get?_push_of_some _ q) (Nat.le_refl _) ?_, rfl, q _ _ (I4.hok.fresh (Nat.le_refl _)) v2 (by omega)⟩
    exact ⟨by omega, _, 0, v1, Heap.get?_push_size _ rfl⟩) (by rw [List.size_toArray] <;> omega)
  exact tail_any (ops := [.ref a, .ref s3.heap.objs.size]) ht.isList.typeIs slot_list_getitem.lookup hg (by with_unfolding_all rfl)
end
structure ClsFn (K : PySem.W.Frag) (B : Addr) (m : Str) (f : Addr) : Prop where
  ga : PySem.W.specialIn K (.ref B) "__getattribute__" = some (some (.builtin "type.__getattribute__"))
  rd : PySem.W.readsIn K B (.type "type") = true
  at_ : PySem.W.findCls K (.ref B) (.type "type") m = some (.val (.ref f))
  kp : PySem.W.keepIn K (.ref f) = true
def Gx.Cf (g : Gx) (k : Nat) (x m : Str) (ps : List Str) (sp : Sp) : Prop := ∃ B f fd, FnOk g.P g.w g.K g.mg g.base CX0 k f fd ps sp ∧ Binds g.K fd ps [] ∧ ClsFn g.K B m f ∧ g.mg x = some (.ref B)
def Gx.RawC (g : Gx) (x m qual : Str) (st : Stmt) (ps : List Str) : Prop := ∃ B f fd, Fun g.K m qual st f fd ∧ Binds g.K fd ps [] ∧ ClsFn g.K B m f ∧ g.mg x = some (.ref B)
theorem Gx.Cf.mono {g : Gx} {j k : Nat} {x m : Str} {ps : List Str} {sp : Sp} (F : g.Cf j x m ps sp) (h : j ≤ k) : g.Cf k x m ps sp := by
  obtain ⟨B, f, fd, F, r⟩ := F
  exact ⟨B, f, fd, F.mono h, r⟩
section
variable {g : Gx} {X : Cx} {k j : Nat} {x m : Str} {ps : List Str} {sp : Sp} {e : Expr} {es : List Expr} {t : TA} {p pos apos : Pos}
theorem pe_cf {pl : Sem Bool} (F : g.Cf j x m ps sp) (hr : Room k X.A) (ha : PA X (e :: es) t) (hj : j ≤ k := by omega) (hX : X.gx = g := by rfl) (hg : Gl X x := by rfl) (hdb : (x == ("__debug__" : Str)) = false := by decide)
    (hst : starEach (e :: es) X.env = (false, eval e X.env) :: starEach es X.env := by rfl) (hpl : (backTo pos (starEach es X.env)).any (·.1) = false := by rfl)
    (ht : eval (.Call (.Attribute (.Name x p) m apos) (e :: es) [] pos) X.env = (do
      let ov ← eval (.Name x p) X.env
      standAt apos.atName
      let (f, first) ← holding [ov] (getMethod ov m pl)
      callWith pos f first (backTo pos (starEach (e :: es) X.env)) (backToKw pos (keywordEach [] X.env))) := by rfl) : PE X (.Call (.Attribute (.Name x p) m apos) (e :: es) [] pos) (tCall sp [] E0 t) := by
  subst hX
  obtain ⟨B, f, fd, F, b, c, hm⟩ := F
  intro pins s σ H Q I h
  refine PySem.W.methodCall_KW (pl := pl) (thn (pe_cla (g := X.gx) (pos := p) hm rfl hg hdb pins s σ H (fun v H1 => v = .ref B ∧ H1 = H) I ⟨rfl, rfl⟩) fun u s1 ⟨v, H1, I1, rv, e1, e2⟩ => ?_) ht
  subst e1 e2
  obtain rfl : u = Value.ref B := rv
  refine PySem.W.method_cls I1.kIn c.ga (PySem.W.cls_value I1.kIn c.rd c.at_ rfl ?_)
  have I2 := I1.tok (s1.toks + 1)
  refine PySem.W.callWith_K (h₀ := X.base) I.ok.mod.kin c.kp (thn (ha pos pins _ σ H1 _ I2 h) fun us s2 ⟨vs, H2, I3, r, q2⟩ => ⟨I3.kIn, ?_⟩) hst hpl
  exact run_fn (dvs := []) (ds := []) F (hr.mono hj) b .nil pass0 I3 r q2
end
end L2
namespace L2
open PySem PySem.Spec PyProof.Rows
def rNotInD : R2 := fun y x H Q => ∃ a o, x = .ref a ∧ DGet H a y o ∧ Q (.bl (!o.isSome)) H
def rInD : R2 := fun y x H Q => ∃ a o, x = .ref a ∧ DGet H a y o ∧ Q (.bl o.isSome) H
section
variable {X : Cx}
end
section
variable {K : PySem.W.Frag} {h : Heap} {mg : Str → Option Value} {P : Program} {w : World} {base : Heap} {f B : Addr} {x qual m : Str} {st : Stmt} {ps N : List Str} {oc kV dc pm cd ct : Value} {od an : Option Addr} {sl : Array (Option Value)} {g : Gx} {k : Nat} {sp : Sp}
theorem Gx.RawC.cf (R : g.RawC x m qual st ps) (S : FnScope N ps (defScope st)) (len : ∀ vs H Q E, sp vs H Q E → vs.length = ps.length) (b : Body g k N qual st sp) : g.Cf (k + 1) x m ps sp := by
  obtain ⟨B, f, fd, F, bd, c, hm⟩ := R
  exact ⟨B, f, fd, F.ok S len fun cdv A outer s H vs Q E hr h => b f cdv A outer s H vs Q E hr h, bd, c, hm⟩
theorem rawC_mk (X : K.In h) (G : h.Ns mainGlobals mg) (ps : List Str) (aB : PySem.W.nsIn K mainGlobals x = some (some (.ref B))) (ga : PySem.W.specialIn K (.ref B) "__getattribute__" = some (some (.builtin "type.__getattribute__")))
    (rd : PySem.W.readsIn K B (.type "type") = true) (a : PySem.W.findCls K (.ref B) (.type "type") m = some (.val (.ref f)))
    (l : K.lookup f = some ⟨oc, od, .func (PySem.W.fnOf m qual (defArgs st) (defBody st) (defScope st) .none kV dc pm an cd ct), sl⟩) (c : PySem.W.codeIn K cd qual = true) (k : PySem.W.keepIn K (.ref f) = true)
    (b : ∀ (kV doc pm : Value) (an : Option Addr) (cdv ct : Value) (us : List Value), us.length = ps.length → bindArgs (PySem.W.fnOf m qual (defArgs st) (defBody st) (defScope st) .none kV doc pm an cdv ct) ⟨us, []⟩ = pure (ps.zip us)) :
    ∀ P w base, (Gx.mk P w K mg base).RawC x m qual st ps := fun P w base =>
  have F := fun_mk (st := st) l c k
  ⟨B, f, _, F, F.binds b, ⟨ga, rd, a, k⟩, PySem.W.mg_of X G aB⟩
end
end L2
namespace L2
def tEither (a b : TE) : TE := fun σ H Q => a σ H Q ∨ b σ H Q
theorem pe_either {X : Cx} {e : PySem.Expr} {a b : TE} (ha : PE X e a) (hb : PE X e b) : PE X e (tEither a b) := fun pins s σ H Q I h => h.elim (fun z => ha pins s σ H Q I z) (fun z => hb pins s σ H Q I z)
end L2
namespace L2
open PySem PySem.Spec PyProof.Rows
section
variable {g : TG} {tb : TS} {D : Ends} {σ : St} {H : Hp}
end
def V0s (H : Hp) (us : List V) (ds : List PyData) : Prop := us.length = ds.length ∧ ∀ (i : Nat) u d, us[i]? = some u → ds[i]? = some d → VL H u d []
end L2
namespace L2
open PySem
end L2
namespace L2
open PySem
end L2
namespace L2
open PySem PySem.Spec PyProof.Rows
def iZipM (K : PySem.W.Frag) (ta : TA) : TI := fun σ H R => ta σ H fun vs H1 => ∃ a b xs ys, vs = [.ref a, .ref b] ∧ SqL K H1 a xs ∧ SqT K H1 b ys ∧ R (Itz (fun H xs => SqL K H a xs) (fun H ys => SqT K H b ys)) H1
section
variable {X : Cx} {elts : List Expr} {kk : Nat} {tpos : Pos}
end
section
variable {tb : TS} {D : Ends} {σ : St} {H : Hp}
end
end L2
namespace L2
open PySem
end L2
namespace L2
open PySem PySem.Spec PyProof.Rows
abbrev FnO (f : Addr) (fd : FuncData) : HO := .ext fun h => h.get? f = some { cls := .type "function", data := .func fd }
abbrev CdO (c : Addr) (q : Str) : HO := .ext fun h => h.CodeRec (.ref c) q
abbrev CellO (c : Addr) (v : V) : HO := .ext fun h => ∃ u, RelV v u ∧ h.IsCell c (some u)
section
variable {P : Program} {w : World} {H H' : Hp} {h h' : Heap}
end
def off (H : Hp) (cs : List Addr) : Hp := fun b => if b ∈ cs then none else H b
def on (H' H : Hp) (cs : List Addr) : Hp := fun b => if b ∈ cs then H b else H' b
section
variable {H H' : Hp} {cs : List Addr} {b : Addr} {o : HO}
end
abbrev Caps := List (Str × Addr × V)
def Caps.cl (l : Caps) : List (Str × Addr) := l.map fun p => (p.1, p.2.1)
def Caps.as (l : Caps) : List Addr := l.map fun p => p.2.1
def Caps.vs (l : Caps) : List V := l.map fun p => p.2.2
def Caps.In (l : Caps) (H : Hp) : Prop := ∀ p ∈ l, H p.2.1 = some (CellO p.2.1 p.2.2)
section
variable {l : Caps} {H : Hp}
end
def cxCl (P : Program) (w : World) (K : PySem.W.Frag) (mg : Str → Option Value) (base : Heap) (N : List Str) (qual : Str) (scope : Scope) (f : Addr) (cd : Value) (cl : List (Str × Addr)) (A : Around) (outer : List Env) (s : Shared) (H : Hp) : Cx where
  prog := P
  w := w
  K := K
  mg := mg
  base := base
  A := A.deeper (PySem.W.envX qual scope s.heap.objs.size f cd cl)
  N := N
  s₀ := s
  H₀ := H
  env := PySem.W.envX qual scope s.heap.objs.size f cd cl
  outer := outer
  stack := PySem.W.envX qual scope s.heap.objs.size f cd cl :: outer
  ex := []
  calm := true
  fn := fun _ => false
  pn := []
  xe := fun _ _ => False
structure ClScope (N ps : List Str) (l : List Str) (sc : Scope) : Prop where
  kind : sc.kind = .function
  co : sc.isCoroutine = false
  gen : sc.isGenerator = false
  nd : N.Nodup
  pre : N.take ps.length = ps
  suf : N.drop (N.length - l.length) = l
  len : ps.length + l.length ≤ N.length
  par : ∀ x ∈ ps, sc.names.lookup x = some .local
  fre : ∀ x ∈ l, sc.names.lookup x = some .free
  nocell : ∀ y ∈ sc.names, y.2 ≠ .cell
  all : ∀ y ∈ sc.names, y.2 = .free → y.1 ∈ l
def startC (N : List Str) (vs fv : List V) : St := vs.map some ++ List.replicate (N.length - vs.length - fv.length) none ++ fv.map some
section
variable {P : Program} {w : World} {K : PySem.W.Frag} {mg : Str → Option Value} {base : Heap} {N ps : List Str} {qual name : Str} {scope : Scope} {f c : Addr} {A : Around} {outer : List Env} {s : Shared} {H : Hp} {us : List Value} {vs : List V} {l : Caps} {cd : Value}
end
def ClIn (H : Hp) (f c : Addr) (fd : FuncData) (qual : Str) (l : Caps) : Prop := H f = some (FnO f fd) ∧ H c = some (CdO c qual) ∧ l.In H
end L2
namespace L2
open PySem PySem.Spec PyProof.Rows
def Bm (mg : Str → Option Value) (base : Heap) : Prop := ∃ bm ob, mg "__builtins__" = some (.ref bm) ∧ bm ≠ builtinsNs ∧ bm ≠ mainGlobals ∧ base.get? bm = some ob ∧ ob.cls = .type "module" ∧ ob.dict = some builtinsNs ∧ ob.data = .plain
section
variable {X : Cx} {pins : List (Addr × Obj)} {σ : St} {H : Hp} {s : Shared}
end
def Made (P : Addr) (pos : Pos) (q : Str) (mk : Addr → FuncData → Prop) (H : Hp) (Q : VK) : Prop := ∃ ps, H P = some (.tbl ps) ∧ TriplesOk ps.toList ∧
  ((codeAmong pos ps.toList = none ∧ ∀ f c fd, H f = none → H c = none → f ≠ c → mk c fd → Q (.ref f) (upd (upd (upd H P (.tbl (ps ++ #[rawInt pos.line, rawInt pos.col, .ref c]))) c (CdO c q)) f (FnO f fd))) ∨
   ∃ c, codeAmong pos ps.toList = some (.ref c) ∧ ∀ f fd, H f = none → mk c fd → Q (.ref f) (upd H f (FnO f fd)))
section
variable {X : Cx} {c P : Addr} {name qual : Str} {params : Arguments} {body : List Stmt} {eb : Expr} {scope : Scope} {clos : List (Str × Addr)} {pos : Pos} {ln : Nat}
abbrev FnMk (name qual : Str) (params : Arguments) (body : List Stmt) (scope : Scope) (clos : List (Str × Addr)) (c : Addr) (fd : FuncData) : Prop := ∃ doc pm ctv, fd = PySem.W.fnX name qual params body scope clos .none .none doc pm none (.ref c) ctv
abbrev LamMk (qual : Str) (params : Arguments) (body : Expr) (scope : Scope) (clos : List (Str × Addr)) (c : Addr) (fd : FuncData) : Prop := ∃ pm ctv, fd = PySem.W.kla_fn "<lambda>" qual params body scope clos pm (.ref c) ctv
def tDef (i : Nat) (P : Addr) (pos : Pos) (q : Str) (mk : Addr → FuncData → Prop) : TS := fun D σ H => Made P pos q mk H fun v H' => D.nx (σ.set i (some v)) H'
def tLam (P : Addr) (pos : Pos) (q : Str) (mk : Addr → FuncData → Prop) : TE := fun _ H Q => Made P pos q mk H Q
end
def lay (H : Hp) : Caps → Hp
  | [] => H
  | p :: l => upd (lay H l) p.2.1 (CellO p.2.1 p.2.2)
def CellsOf (X : Cx) (σ : St) (l : Caps) : Prop := l.as.Nodup ∧ ∀ p ∈ l, ∃ i : Nat, X.N[i]? = some p.1 ∧ σ[i]? = some (some p.2.2) ∧ X.env.kindOf p.1 = some .cell ∧ X.env.cells.lookup p.1 = some p.2.1
def PR (X : Cx) (b : List Stmt) (t : (St → V → Hp → Prop) → St → Hp → Prop) : Prop := ∀ (pins : List (Addr × Obj)) (s : Shared) (σ : St) (H : Hp) (R : St → V → Hp → Prop), Inv X pins σ H s → t R σ H →
  wpAny (model X.prog X.w) X.A (execs b X.env) (fun fl s' => ∃ u, fl = .ret u ∧ ∃ v σ' H', Inv X pins σ' H' s' ∧ RelV v u ∧ R σ' v H') X.xe s
section
variable {X : Cx} {st : Stmt} {rest : List Stmt} {t : TS} {u : (St → V → Hp → Prop) → St → Hp → Prop} {e : Expr} {te : TE} {pos : Pos}
def rRet (te : TE) : (St → V → Hp → Prop) → St → Hp → Prop := fun R σ H => te σ H fun v H' => R σ v H'
def rSeq (t : TS) (u : (St → V → Hp → Prop) → St → Hp → Prop) : (St → V → Hp → Prop) → St → Hp → Prop := fun R σ H => t { nx := u R, rt := fun _ _ => False } σ H
end
end L2
namespace L2
open PySem PySem.Spec PyProof.Rows
def tCallC (g : Gx) (k i : Nat) (t : TA) : TE := fun σ H Q => ∃ f fd ps sp, σ[i]? = some (some (.ref f)) ∧ FnOk g.P g.w g.K g.mg g.base CX0 k f fd ps sp ∧ (∀ us : List Value, us.length = ps.length → bindArgs fd ⟨us, []⟩ = pure (ps.zip us)) ∧ H f = some (FnO f fd) ∧ t σ H fun vs H1 => H1 f = some (FnO f fd) ∧ sp vs H1 Q E0
section
variable {X : Cx} {g : Gx} {k j i : Nat} {x : Str} {p pos : Pos} {e : Expr} {es : List Expr} {t : TA}
end
abbrev Tbs := List (Str × Addr × Addr)
def spTrueT (K : PySem.W.Frag) (tabs : Tbs) : Sp := fun vs H Q _ => ∃ (a : Addr) (ns : List Int), vs = [.ref a] ∧ SqL K H a (ns.map V.int) ∧ ns.length ≤ 63 ∧ (∀ q ∈ tabs, H q.2.2 = some (.tbl #[])) ∧ ∀ H', Q (.bl true) H'
def inDef (s : Stmt) (j : Nat) : Stmt := (defBody s).getD j (.Pass ⟨0, 0, 0, 0⟩)
def Gx.RawT (g : Gx) (x qual : Str) (st : Stmt) (ps : List Str) (c : Addr) : Prop := ∃ f fd, Fun g.K x qual st f fd ∧ Binds g.K fd ps [] ∧ g.mg x = some (.ref f) ∧ fd.code = .ref c
end L2
namespace HT
open PySem PySem.Spec PyProof.Rows
variable {prog : Program} {w : World} {A : Around} {E : Value → Shared → Prop} {s : Shared}
end HT
namespace L2
open PySem PySem.Spec PyProof.Rows
def rSlTA (K : PySem.W.Frag) : V → Option Int → Option Int → Hp → VK → Prop := fun x lo hi H Q => ∃ a xs, x = .ref a ∧ SqT K H a xs ∧ (HT.sIx xs.length 0 lo = 0 ∧ HT.sIx xs.length xs.length hi = xs.length) ∧ Q (.ref a) H
def rSlT2 (K : PySem.W.Frag) : V → Option Int → Option Int → Hp → VK → Prop := fun x lo hi H Q => ∃ a xs, x = .ref a ∧ SqT K H a xs ∧ (∀ p, H p = none → Q (.ref p) (upd H p (.tup (cutV xs lo hi)))) ∧ (cutV xs lo hi = xs → Q (.ref a) H)
end L2
namespace L2
open PySem PySem.Spec PyProof.Rows
section
variable {tb : TS} {D : Ends} {σ : St} {H : Hp}
end
section
variable {src : List (Option Nat)} {te : TE} {tt : TT} {σ : St} {H : Hp} {Q : VK}
end
end L2
namespace L2
open PySem PySem.Spec PyProof.Rows
def retE (s : Stmt) : Expr := match s with
  | .Return (some e) _ => e
  | _ => .Constant .none 0 ⟨0, 0, 0, 0⟩
def lamArgs (e : Expr) : Arguments := match e with
  | .Lambda a _ _ _ => a
  | _ => { posonlyargs := [], args := [], vararg := none, kwonlyargs := [], kw_defaults := [], kwarg := none, defaults := [] }
def lamBody (e : Expr) : Expr := match e with
  | .Lambda _ b _ _ => b
  | e => e
def lamScope (e : Expr) : Scope := match e with
  | .Lambda _ _ sc _ => sc
  | _ => { kind := .function, names := [], isGenerator := false, isCoroutine := false }
end L2
namespace L2
open PySem PySem.Spec PyProof.Rows
structure FunD (K : PySem.W.Frag) (x qual : Str) (st : Stmt) (f : Addr) (fd : FuncData) (T : Addr) : Prop where
  ex : ∃ (oc : Value) (od : Option Addr) (kV doc pm : Value) (an : Option Addr) (cdv ct : Value) (osl : Array (Option Value)),
    fd = PySem.W.fnOf x qual (defArgs st) (defBody st) (defScope st) (.ref T) kV doc pm an cdv ct ∧ K.lookup f = some ⟨oc, od, .func fd, osl⟩ ∧ PySem.W.codeIn K cdv qual = true
  kp : PySem.W.keepIn K (.ref f) = true
def Gx.RawD (g : Gx) (x qual : Str) (st : Stmt) (ps : List Str) (dvs : List V) : Prop := ∃ f fd T ds, FunD g.K x qual st f fd T ∧ Vals dvs ds ∧ Binds g.K fd ps ds ∧ g.mg x = some (.ref f)
def Gx.FnD (g : Gx) (k : Nat) (x : Str) (ps : List Str) (dvs : List V) (sp : Sp) : Prop := ∃ f fd ds, FnOk g.P g.w g.K g.mg g.base CX0 k f fd ps sp ∧ Vals dvs ds ∧ Binds g.K fd ps ds ∧ PySem.W.keepIn g.K (.ref f) = true ∧ g.mg x = some (.ref f)
section
variable {g : Gx} {x qual : Str} {st : Stmt} {N ps : List Str} {dvs : List V} {sp : Sp} {j k : Nat}
variable {X : Cx} {p pos : Pos} {e : Expr} {es : List Expr} {t : TA}
end
section
variable {X : Cx}
def tLR (ta : TA) : TE := fun σ H Q => ta σ H fun vs H1 => ∃ n : Nat, vs = [.int n] ∧ n ≤ 10000 ∧ ∀ l, H1 l = none → Q (.ref l) (upd H1 l (.lst ((List.range n).map fun (i : Nat) => V.int (i : Int))))
end
section
variable {src : List (Option Nat)} {te : TE} {σ : St} {H : Hp} {Q : VK}
theorem tLC_listI {K : PySem.W.Frag} {tl : TE} {xs : List V} {b : Addr} (I : Addr → Nat → List V → Hp → Prop) (ha : ∀ R : V → Hp → Prop, R (.ref b) H → tl σ H R) (hS : SqL K H b xs) (hlen : xs.length ≤ 100000)
    (i0 : ∀ D, H D = none → I D 0 [] (upd H D (.lst []))) (dl : ∀ D i zs H', H D = none → I D i zs H' → zs.length = i ∧ H' D = some (.lst zs) ∧ SqL K H' b xs)
    (step : ∀ D (i : Nat) x zs H', H D = none → xs[i]? = some x → I D i zs H' → ∀ R : VK, (∀ y H'', H'' D = some (.lst zs) → I D (i + 1) (zs ++ [y]) (upd H'' D (.lst (zs ++ [y]))) → R y H'') → te (some x :: capSt src σ) H' R)
    (fin : ∀ D zs H', H D = none → I D xs.length zs H' → Q (.ref D) H') : tLC (none :: src) (iList K tl) (gName 0) tYes te σ H Q := by
  refine ha _ ⟨b, rfl, ⟨xs, hS⟩, fun D hD => ?_⟩
  have h6 : 100000 < sizeLine := by decide
  refine lc_on itseq_list (fun i zs σ' H' => (∃ o, σ' = o :: capSt src σ) ∧ i ≤ xs.length ∧ I D i zs H') ⟨⟨none, rfl⟩, Nat.zero_le _, i0 D hD⟩ (fun i zs σ' H' q => ⟨(dl _ _ _ _ hD q.2.2).2.2, (dl _ _ _ _ hD q.2.2).2.1⟩) (gName_mono 0) ?_ ?_
  · rintro i zs σ' H' x hx ⟨⟨o, rfl⟩, _, hI⟩
    have hi : i < xs.length := (List.getElem?_eq_some_iff.mp hx).1
    have hl := (dl _ _ _ _ hD hI).1
    show te (some x :: capSt src σ) H' _
    exact step D i x zs H' hD hx hI _ fun y H'' hd hI' => ⟨hd, by omega, ⟨_, rfl⟩, hi, hI'⟩
  · rintro zs σ' H' ⟨_, _, hI⟩
    exact fin D zs H' hD hI
theorem tLC_rangeG {ta : TA} {n : Nat} (f : Nat → V) (ha : ∀ R : List V → Hp → Prop, (∀ H1, Same H H1 → R [.int n] H1) → ta σ H R) (hlen : n ≤ 100000)
    (step : ∀ (i : Nat) H', i < n → Same H H' → ∀ R : VK, (∀ H'', Same H' H'' → R (f i) H'') → te (some (.int i) :: capSt src σ) H' R)
    (fin : ∀ D H', H D = none → Same H H' → H' D = some (.lst ((List.range n).map f)) → Q (.ref D) H') : tLC (none :: src) (iRng1 ta) (gName 0) tYes te σ H Q := by
  refine ha _ fun H1 s1 => ⟨n, rfl, by omega, by omega, fun D hD => ?_⟩
  refine lc_map (itseq_range (lo := 0) (n := n) (P := fun _ => True)) ((List.range n).map f) (fun _ _ => trivial) hD (by simp) (by simpa using hlen) (fun i x y H' hx hy sm R r => ?_) fun H' sm hd => fin D H' (s1.free hD) (s1.trans sm) hd
  have hi : i < n := by have := (List.getElem?_eq_some_iff.mp hx).1; simpa using this
  rw [List.getElem?_map, List.getElem?_range hi] at hx hy
  have e : V.int (0 + (i : Int)) = x := Option.some.inj hx
  rw [Int.zero_add] at e
  have e2 : f i = y := Option.some.inj hy
  subst e e2
  exact step i H' hi (s1.trans sm) R r
end
end L2
namespace L2
open PySem PySem.Spec PyProof.Rows
mutual
inductive RK (h : Heap) : Value → PyData → Prop
  | int (i : Int) (t : Tok) : RK h (.int i t) (.int i)
  | str (x : Str) (t : Tok) (hx : PyData.strOk x = true) : RK h (.str x t) (.str x)
  | tup {a : Addr} {o : Obj} {vs : Array Value} {n : Nat} {ds : List PyData} : h.get? a = some o → o.cls = .type "tuple" → o.data = .seq vs n → RKs h vs.toList ds → RK h (.ref a) (.tuple ds)
inductive RKs (h : Heap) : List Value → List PyData → Prop
  | nil : RKs h [] []
  | cons {v : Value} {d : PyData} {vs : List Value} {ds : List PyData} : RK h v d → RKs h vs ds → RKs h (v :: vs) (d :: ds)
end
mutual
inductive KO : PyData → Prop
  | int (i : Int) : KO (.int i)
  | str (x : Str) : KO (.str x)
  | tup {ds : List PyData} : KOs ds → KO (.tuple ds)
inductive KOs : List PyData → Prop
  | nil : KOs []
  | cons {d : PyData} {ds : List PyData} : KO d → KOs ds → KOs (d :: ds)
end
mutual
theorem RK.ko {h : Heap} : ∀ {v : Value} {d : PyData}, RK h v d → KO d
  | _, _, .int i t => .int i
  | _, _, .str x t _ => .str x
  | _, _, .tup _ _ _ hs => .tup hs.ko
theorem RKs.ko {h : Heap} : ∀ {vs : List Value} {ds : List PyData}, RKs h vs ds → KOs ds
  | _, _, .nil => .nil
  | _, _, .cons a b => .cons a.ko b.ko
end
mutual
theorem RK.reads {h : Heap} : ∀ {v : Value} {d : PyData}, RK h v d → (∃ as, Reads h v d as) ∧ d.canLay0 = true
  | _, _, .int i t => ⟨⟨_, .int i t⟩, rfl⟩
  | _, _, .str x t hx => ⟨⟨_, .str x t⟩, by simpa [PyData.canLay0] using hx⟩
  | _, _, .tup h1 h2 h3 hs => by
    obtain ⟨⟨as, r⟩, l⟩ := hs.reads
    exact ⟨⟨_, .tuple h1 h2 h3 r⟩, by rw [PyData.canLay0]; exact l⟩
theorem RKs.reads {h : Heap} : ∀ {vs : List Value} {ds : List PyData}, RKs h vs ds → (∃ as, ReadsAll h vs ds as) ∧ PyData.canLayAll0 ds = true
  | _, _, .nil => ⟨⟨_, .nil⟩, rfl⟩
  | _, _, .cons a b => by
    obtain ⟨⟨as, r⟩, l⟩ := a.reads
    obtain ⟨⟨bs, r'⟩, l'⟩ := b.reads
    exact ⟨⟨_, .cons r r'⟩, by rw [PyData.canLayAll0, l, l']; rfl⟩
end
mutual
theorem RK.of {h : Heap} : ∀ {d : PyData} {v : Value} {as : List Addr}, KO d → Reads h v d as → d.canLay0 = true → RK h v d
  | .int _, _, _, _, .int i t, _ => .int i t
  | .str _, _, _, _, .str x t, l => .str x t (by simpa [PyData.canLay0] using l)
  | .tuple _, _, _, .tup k, .tuple h1 h2 h3 hs, l => .tup h1 h2 h3 (RKs.of k hs (by rw [PyData.canLay0] at l; exact l))
theorem RKs.of {h : Heap} : ∀ {ds : List PyData} {vs : List Value} {as : List Addr}, KOs ds → ReadsAll h vs ds as → PyData.canLayAll0 ds = true → RKs h vs ds
  | [], _, _, _, .nil, _ => .nil
  | _ :: _, _, _, .cons k ks, .cons r rs, l => by
    rw [PyData.canLayAll0, Bool.and_eq_true] at l
    exact .cons (RK.of k r l.1) (RKs.of ks rs l.2)
end
mutual
theorem RK.inj {h : Heap} : ∀ {d : PyData} {v : Value} {e : PyData}, RK h v d → RK h v e → d = e
  | .int _, _, _, .int i t, .int _ _ => rfl
  | .str _, _, _, .str x t _, .str _ _ _ => rfl
  | .tuple _, _, _, .tup h1 _ h3 hs, .tup k1 _ k3 ks => by
    rw [h1] at k1
    cases k1
    rw [h3] at k3
    cases k3
    rw [RKs.inj hs ks]
theorem RKs.inj {h : Heap} : ∀ {ds : List PyData} {vs : List Value} {es : List PyData}, RKs h vs ds → RKs h vs es → ds = es
  | [], _, _, .nil, .nil => rfl
  | _ :: _, _, _, .cons a b, .cons c d => by rw [RK.inj a c, RKs.inj b d]
end
mutual
theorem RK.keeps {h h' : Heap} {x : Addr} {o : Obj} {es : Array DictEntry} {ep : Nat} (ho : h.get? x = some o) (hd : o.data = .dict es ep) (hs : Heap.SameBut x h h') : ∀ {v : Value} {d : PyData}, RK h v d → RK h' v d
  | _, _, .int i t => .int i t
  | _, _, .str y t hy => .str y t hy
  | _, _, .tup (a := a) h1 h2 h3 ks => by
    have hne : a ≠ x := by
      rintro rfl
      rw [ho] at h1
      cases h1
      rw [hd] at h3
      exact nomatch h3
    exact .tup ((hs.2 a hne).trans h1) h2 h3 (RKs.keeps ho hd hs ks)
theorem RKs.keeps {h h' : Heap} {x : Addr} {o : Obj} {es : Array DictEntry} {ep : Nat} (ho : h.get? x = some o) (hd : o.data = .dict es ep) (hs : Heap.SameBut x h h') : ∀ {vs : List Value} {ds : List PyData}, RKs h vs ds → RKs h' vs ds
  | _, _, .nil => .nil
  | _, _, .cons a b => .cons (RK.keeps ho hd hs a) (RKs.keeps ho hd hs b)
end
noncomputable instance decPy : DecidableEq PyData := fun a b => Classical.propDecidable (a = b)
mutual
theorem KO.eqv : ∀ {d e : PyData}, KO d → KO e → d.eqv e = decide (d = e)
  | .int a, .int b, _, _ => by
    by_cases h : a = b
    · subst h; simp [PyData.eqv]
    · simp [PyData.eqv, h]
  | .str a, .str b, _, _ => by
    by_cases h : a = b
    · subst h; simp [PyData.eqv]
    · simp [PyData.eqv, h]
  | .int a, .str b, _, _ => by simp [PyData.eqv]
  | .str a, .int b, _, _ => by simp [PyData.eqv]
  | .int a, .tuple b, _, _ => by simp [PyData.eqv]
  | .str a, .tuple b, _, _ => by simp [PyData.eqv]
  | .tuple a, .int b, _, _ => by simp [PyData.eqv]
  | .tuple a, .str b, _, _ => by simp [PyData.eqv]
  | .tuple a, .tuple b, .tup x, .tup y => by
    rw [PyData.eqv, KOs.eqv x y]
    by_cases h : a = b
    · subst h; simp
    · simp [h]
theorem KOs.eqv : ∀ {ds es : List PyData}, KOs ds → KOs es → PyData.eqvAll ds es = decide (ds = es)
  | [], [], _, _ => by simp [PyData.eqvAll]
  | [], _ :: _, _, _ => by simp [PyData.eqvAll]
  | _ :: _, [], _, _ => by simp [PyData.eqvAll]
  | d :: ds, e :: es, .cons x xs, .cons y ys => by
    rw [PyData.eqvAll, KO.eqv x y, KOs.eqv xs ys]
    by_cases h : d = e
    · subst h
      by_cases h2 : ds = es
      · subst h2; simp
      · simp [h2]
    · simp [h]
end
section
variable {P : Program} {w : World}
mutual
def kh (P : Program) (w : World) : PyData → Int
  | .int i => (mixKind P w).hash (.inl i)
  | .str x => (mixKind P w).hash (.inr x)
  | .tuple ds => reduceHash (Builtin.Tuple.tupleHashOf (khs P w ds))
  | _ => 0
def khs (P : Program) (w : World) : List PyData → List Int
  | [] => []
  | d :: ds => kh P w d :: khs P w ds
end
mutual
def kdr : PyData → Nat
  | .int _ => 1
  | .str _ => 1
  | .tuple ds => kdrs ds + 1
  | _ => 0
def kdrs : List PyData → Nat
  | [] => 0
  | d :: ds => kdr d + kdrs ds
end
theorem khs_app (a b : List PyData) : khs P w (a ++ b) = khs P w a ++ khs P w b := by
  induction a with
  | nil => simp [khs]
  | cons x a ih => simp [khs, ih]
theorem kdrs_app (a b : List PyData) : kdrs (a ++ b) = kdrs a + kdrs b := by
  induction a with
  | nil => simp [kdrs]
  | cons x a ih => simp [kdrs, ih, Nat.add_assoc]
theorem dall_app (a b : List PyData) : PyData.depthAll (a ++ b) = max (PyData.depthAll a) (PyData.depthAll b) := by
  induction a with
  | nil => simp [PyData.depthAll]
  | cons x a ih => simp [PyData.depthAll, ih, Nat.max_assoc]
theorem typeIs_tup {s : Shared} {a : Addr} {o : Obj} (h1 : s.heap.get? a = some o) (h2 : o.cls = .type "tuple") : s.TypeIs (.ref a) "tuple" := ⟨o, h1, h2⟩
theorem hash_ok : ∀ (n : Nat) {A : Around} {E : Value → Shared → Prop} {s : Shared} {v : Value} {d : PyData} {Q : Int → Shared → Prop}, RK s.heap v d → d.depth ≤ n → A.units + n < cLine → Q (kh P w d) { s with toks := s.toks + kdr d } → wpAny (model P w) A (pyHash v) Q E s
  | n, A, E, s, _, _, Q, .int i t, _, _, h => (mixKind P w).pyHash (kV_is (k := .inl i) (show RelV (.int i) (.int i t) from ⟨t, rfl⟩)) (by simpa [kh, kdr] using h)
  | n, A, E, s, _, _, Q, .str x t _, _, _, h => (mixKind P w).pyHash (kV_is (k := .inr x) (show RelV (.str x) (.str x t) from ⟨t, rfl⟩)) (by simpa [kh, kdr] using h)
  | 0, A, E, s, _, _, Q, .tup _ _ _ _, hd, _, h => by simp [PyData.depth] at hd
  | n + 1, A, E, s, _, _, Q, .tup (a := a) (ds := ds) h1 h2 h3 ks, hd, hu, h => by
    have hT := typeIs_tup h1 h2
    unfold pyHash
    first | unfold pyHashByItsType | skip
    first | refine wpAny_bind (wpAny_cRoomFor_or (.inr (by omega)) ?_) | skip
    refine wpAny_bind (wpAny_specialOf hT F.slot_tuple_hash.lookup ?_)
    show wpAny _ _ (if (some (Value.builtin "tuple.__hash__") == some Value.none) = true then _ else _) Q E s
    rw [if_neg (by rw [beq_builtin_none]; exact Bool.false_ne_true)]
    refine wpAny_bind (wpAny_specialOf hT F.slot_tuple_hash.lookup ?_)
    refine wpAny_bind (wpAny_callSpecialIfBoundUnlessNone?_slot hT F.slot_tuple_hash (wpAny_call_entry F.slot_tuple_hash hT F.entry_tuple_hash ?_ (F.args_tuple_hash_1 _)))
    show wpAny _ _ (Builtin.Tuple.tupleItemsOf (.ref a) >>= _) _ _ s
    refine wpAny_bind (wpAny_tupleItemsOf h1 h3 ?_)
    refine wpAny_bind ?_
    rw [← Array.forIn_toList]
    have hdd : PyData.depthAll ds ≤ n := by simp only [PyData.depth] at hd; omega
    refine wpAny_forIn_list _ (fun rest (b : Array Int) s' => ∃ done left, ds = done ++ left ∧ RKs s.heap rest left ∧ b.toList = khs P w done ∧ s' = { s with toks := s.toks + kdrs done }) _ ?_ ?_ _ _ ⟨[], ds, rfl, ks, by simp [khs], by simp [kdrs]⟩
    · rintro x rest b s' ⟨done, left, e, hl, hb, rfl⟩
      cases hl with
      | @cons _ d _ ds' hk hl' =>
        have hdk : d.depth ≤ n := by
          rw [e, dall_app] at hdd
          simp only [PyData.depthAll] at hdd
          omega
        have hin : A.in1.units + n < cLine := by
          have : A.in1.units = A.units + 1 := rfl
          omega
        refine wpAny_bind (hash_ok n (s := { s with toks := s.toks + kdrs done }) hk hdk hin ?_)
        have fin : ∃ done' left', ds = done' ++ left' ∧ RKs s.heap rest left' ∧ (b.push (kh P w d)).toList = khs P w done' ∧ ({ s with toks := s.toks + kdrs done + kdr d } : Shared) = { s with toks := s.toks + kdrs done' } :=
          ⟨done ++ [d], ds', by rw [e]; simp, hl', by rw [khs_app, Array.toList_push, hb]; simp [khs], by rw [kdrs_app]; simp [kdrs, Nat.add_assoc]⟩
        first
          | exact wpAny_pure fin
          | exact wpAny_bind (wpAny_pure (wpAny_pure fin))
    · rintro b s' ⟨done, left, e, hl, hb, rfl⟩
      cases hl
      rw [List.append_nil] at e
      subst e
      show wpAny _ _ (retInt (Builtin.Tuple.tupleHashOf b.toList)) _ _ _
      rw [hb]
      refine wpAny_ret_mkInt ?_
      simp only [kh, kdr] at h
      unfold reduceHash at h
      show wpAny _ _ (if (decide (-(2 : Int) ^ 63 ≤ Builtin.Tuple.tupleHashOf (khs P w ds)) && decide (Builtin.Tuple.tupleHashOf (khs P w ds) < 2 ^ 63)) = true then _ else _) Q E _
      by_cases hr : (decide (-(2 : Int) ^ 63 ≤ Builtin.Tuple.tupleHashOf (khs P w ds)) && decide (Builtin.Tuple.tupleHashOf (khs P w ds) < 2 ^ 63)) = true
      · rw [if_pos hr]
        rw [if_pos hr] at h
        exact wpAny_pure (by simpa [Nat.add_assoc] using h)
      · rw [if_neg hr]
        rw [if_neg hr] at h
        exact wpAny_bind (wpAny_rule (wpAny_pure (by simpa [Nat.add_assoc] using h)))
theorem quiet_ok : ∀ (n : Nat) {A : Around} {E : Value → Shared → Prop} {s : Shared} {v : Value} {d : PyData} {Q : Bool → Shared → Prop}, RK s.heap v d → d.depth ≤ n → Q true s → wpAny (model P w) A (eqIsQuiet n v) Q E s
  | n, A, E, s, _, _, Q, .int i t, _, h => by rw [eqIsQuiet_byValue _ (by rfl)]; exact wpAny_pure h
  | n, A, E, s, _, _, Q, .str x t _, _, h => by rw [eqIsQuiet_byValue _ (by rfl)]; exact wpAny_pure h
  | 0, A, E, s, _, _, Q, .tup _ _ _ _, hd, h => by simp [PyData.depth] at hd
  | n + 1, A, E, s, _, _, Q, .tup (a := a) (ds := ds) h1 h2 h3 ks, hd, h => by
    have hT := typeIs_tup h1 h2
    have hdd : PyData.depthAll ds ≤ n := by simp only [PyData.depth] at hd; omega
    unfold eqIsQuiet
    refine wpAny_bind (wpAny_specialOf hT F.slot_tuple_eq.lookup ?_)
    refine wpAny_bind (wpAny_isInstance hT isSubtype_tuple_tuple ?_)
    simp only [Bool.not_true, Bool.false_eq_true, if_false]
    refine wpAny_bind (wpAny_seqItems h1 h3 ?_)
    refine wpAny_bind ?_
    rw [Option.getD_some, ← Array.forIn_toList]
    refine wpAny_forIn_list _ (fun rest r s' => r.1 = none ∧ s' = s ∧ ∃ left, RKs s.heap rest left ∧ PyData.depthAll left ≤ n) _ ?_ ?_ _ _ ⟨rfl, rfl, ds, ks, hdd⟩
    · rintro v rest r s' ⟨hr, rfl, left, hl, hdl⟩
      cases hl with
      | @cons _ d _ ds' hk hl' =>
        simp only [PyData.depthAll] at hdl
        refine wpAny_bind (quiet_ok n hk (by omega) ?_)
        simp only [Bool.not_true, Bool.false_eq_true, if_false]
        exact wpAny_pure ⟨rfl, rfl, ds', hl', by omega⟩
    · rintro ⟨r1, r2⟩ s' ⟨hr, rfl, _⟩
      simp only at hr
      subst hr
      exact wpAny_pure h
noncomputable def deepKind (P : Program) (w : World) : HeapKind P w PyData where
  is := fun h d a => RK h (.ref a) d ∧ d.depth ≤ 8
  hash := kh P w
  draws := kdr
  room := fun A => A.units + 8 < cLine
  inj := fun hx hy => hx.1.inj hy.1
  keeps := fun x ho hd hs => ⟨x.1.keeps ho hd hs, x.2⟩
  pyHash := fun hu hk h => hash_ok 8 hk.1 hk.2 hu h
  eqBool := fun {A E s x y a b Q} hu hx hy h => by
    obtain ⟨⟨as, r1⟩, l1⟩ := hx.1.reads
    obtain ⟨⟨bs, r2⟩, l2⟩ := hy.1.reads
    have hm : min x.depth y.depth ≤ 8 := Nat.le_trans (Nat.min_le_left _ _) hx.2
    exact SeqAt.eqAt_reads x y A s _ _ _ _ r1 r2 l1 l2 (by omega) P w E Q (by rw [KO.eqv hx.1.ko hy.1.ko]; exact h)
  quiet := fun hk h => quiet_ok 8 hk.1 hk.2 h
end
abbrev Dx := List (PyData × Addr × Addr)
def dconv (x : PyData × Addr × Addr) : PyData × Addr × Value := (x.1, x.2.1, .ref x.2.2)
noncomputable def DDi (P : Program) (w : World) (a : Addr) (xs : Dx) : HO := .ext fun h => (a == sysModules) = false ∧ ∃ o es ep, h.get? a = some o ∧ o.ExactDict ∧ o.data = .dict es ep ∧ es.toList = (xs.map dconv).map (entryOfKey (deepKind P w))
theorem ddi_mk {P : Program} {w : World} {H : Hp} {h : Heap} {a : Addr} {xs : Dx} (hd : (a == sysModules) = false) (e : ∃ o es ep, h.get? a = some o ∧ o.ExactDict ∧ o.data = .dict es ep ∧ es.toList = (xs.map dconv).map (entryOfKey (deepKind P w))) : ObjOk P w H h a (DDi P w a xs) := by
  refine ⟨⟨hd, e⟩, ?_, fun h1 h2 p k => ?_⟩
  · obtain ⟨o, es, ep, h1, _⟩ := e
    exact ⟨o, h1⟩
  · obtain ⟨q, o, es, ep, g1, g2⟩ := p
    exact ⟨q, o, es, ep, k _ g1, g2⟩
structure DK (K : PySem.W.Frag) (H : Hp) (b : Addr) (d : PyData) : Prop where
  den : Den K H (.ref b) d
  ko : KO d
  dp : d.depth ≤ 8
theorem DK.keep {K : PySem.W.Frag} {H H' : Hp} {b : Addr} {d : PyData} (h : DK K H b d) (s : Same H H') : DK K H' b d := ⟨h.den.keep s, h.ko, h.dp⟩
noncomputable def lookD (xs : Dx) (d : PyData) : Option Addr := (xs.find? fun x => decide (x.1 = d)).map (·.2.2)
structure DictD (P : Program) (w : World) (K : PySem.W.Frag) (H : Hp) (a : Addr) (xs : Dx) : Prop where
  at_ : H a = some (DDi P w a xs)
  nd : (xs.map (·.1)).Nodup
  len : xs.length ≤ 1000
  keys : ∀ x ∈ xs, DK K H x.2.1 x.1
section
variable {X : Cx} {pins : List (Addr × Obj)} {σ : St} {H : Hp} {s : Shared} {a b : Addr} {d : PyData} {xs : Dx} {u r : Value} {A : Around} {E : Value → Shared → Prop}
theorem dk_is (I : Inv X pins σ H s) (h : DK X.K H b d) : (deepKind X.prog X.w).is s.heap d b := by
  obtain ⟨as, r⟩ := h.den.reads I (show RelV (.ref b) (.ref b) from rfl)
  exact ⟨RK.of h.ko r h.den.lay, h.dp⟩
theorem dd_of (I : Inv X pins σ H s) (h : DictD X.prog X.w X.K H a xs) : (a == sysModules) = false ∧ s.heap.DictOfH (deepKind X.prog X.w) a (xs.map dconv) := by
  obtain ⟨⟨hd, o, es, ep, h1, h2, h3, h4⟩, _⟩ := (show ObjOk X.prog X.w H s.heap a (DDi X.prog X.w a xs) from I.hok a _ h.at_)
  refine ⟨hd, o, es, ep, h1, h2, h3, h4, fun x hx => ?_, ?_⟩
  · obtain ⟨y, hy, rfl⟩ := List.mem_map.mp hx
    exact dk_is I (h.keys y hy)
  · have : (xs.map dconv).map (·.1) = xs.map (·.1) := by rw [List.map_map]; rfl
    rw [this]; exact h.nd
theorem atKey_dconv (xs : Dx) (d : PyData) : (atKey (xs.map dconv) d).map (·.2) = (lookD xs d).map Value.ref := by
  induction xs with
  | nil => rfl
  | cons x xs ih =>
    by_cases h : x.1 = d
    · simp [atKey, lookD, List.find?_cons, dconv, h]
    · simp only [atKey, lookD, List.map_cons, List.find?_cons, dconv, h] at ih ⊢
      simpa using ih
theorem dd_getItem {p : Addr} {Q : Value → Shared → Prop} (hu : A.units + 9 < cLine) (I : Inv X pins σ H s) (g : DictD X.prog X.w X.K H a xs) (k : DK X.K H b d) (l : lookD xs d = some p) (h : ∀ s', Inv X pins σ H s' → Q (.ref p) s') :
    wpAny (model X.prog X.w) A (getItem (.ref a) (.ref b)) Q E s := by
  obtain ⟨hd, dd⟩ := dd_of I g
  have e := atKey_dconv xs d
  rw [l] at e
  obtain ⟨q, hq, hq2⟩ := Option.map_eq_some_iff.mp e
  refine wpAny_getItem_heap (show A.in1.units + 8 < cLine from by have : A.in1.units = A.units + 1 := rfl; omega) (dk_is I k) dd hq ?_
  rw [hq2]
  exact h _ (I.tok _)
theorem dd_notIn {Q : Value → Shared → Prop} (hu : A.units + 9 < cLine) (I : Inv X pins σ H s) (g : DictD X.prog X.w X.K H a xs) (k : DK X.K H b d) (h : ∀ s', Inv X pins σ H s' → Q (.bool (!(lookD xs d).isSome)) s') :
    wpAny (model X.prog X.w) A (compareOp .NotIn (.ref b) (.ref a)) Q E s := by
  obtain ⟨hd, dd⟩ := dd_of I g
  refine wpAny_notIn_heap (show A.in1.units + 8 < cLine from by have : A.in1.units = A.units + 1 := rfl; omega) (dk_is I k) hd dd ?_
  have e := congrArg Option.isSome (atKey_dconv xs d)
  rw [Option.isSome_map, Option.isSome_map] at e
  rw [e]
  exact h _ (I.tok _)
theorem dd_setItem {p : Addr} {Q : Unit → Shared → Prop} (hu : A.units + 9 < cLine) (I : Inv X pins σ H s) (g : DictD X.prog X.w X.K H a xs) (k : DK X.K H b d) (l : lookD xs d = none) (hl : xs.length < 1000) (h : ∀ s', Inv X pins σ (upd H a (DDi X.prog X.w a (xs ++ [(d, b, p)]))) s' → Q () s') :
    wpAny (model X.prog X.w) A (setItem (.ref a) (.ref b) (.ref p)) Q E s := by
  obtain ⟨hd, dd⟩ := dd_of I g
  have hz : (xs.map dconv).length ≤ sizeLine := by rw [List.length_map]; exact Nat.le_trans (Nat.le_of_lt hl) (by decide)
  refine wpAny_setItem_heap (hsz := hz) (show A.in1.units + 8 < cLine from by have : A.in1.units = A.units + 1 := rfl; omega) (dk_is I k) dd fun h' dd' hs => h _ ?_
  have e : atKey (xs.map dconv) d = none := by
    have e := atKey_dconv xs d
    rw [l] at e
    cases q : atKey (xs.map dconv) d with
    | none => rfl
    | some z => rw [q] at e; cases e
  rw [storedH_new e] at dd'
  obtain ⟨q, es, ep, hq, h2, h3, h4, _, h5⟩ := dd'
  refine d_write I (by rw [g.at_]; exact True.intro) hs ⟨q, hq⟩ (ddi_mk hd ⟨q, es, ep, hq, h2, h3, ?_⟩)
  rw [h4, List.map_append (f := dconv)]
  rfl
end
def tDGetD (P : Program) (w : World) (K : PySem.W.Frag) (td ty : TE) : TE := fun σ H Q => td σ H fun x H1 => ty σ H1 fun y H2 => ∃ a b xs d p, x = .ref a ∧ y = .ref b ∧ DictD P w K H2 a xs ∧ DK K H2 b d ∧ lookD xs d = some p ∧ Q (.ref p) H2
def tDNotInD (P : Program) (w : World) (K : PySem.W.Frag) (ty td : TE) : TE := fun σ H Q => ty σ H fun y H1 => td σ H1 fun x H2 => ∃ a b xs d, x = .ref a ∧ y = .ref b ∧ DictD P w K H2 a xs ∧ DK K H2 b d ∧ Q (.bl (!(lookD xs d).isSome)) H2
def sDPutD (P : Program) (w : World) (K : PySem.W.Frag) (td ty tv : TE) : TS := fun D σ H => tv σ H fun v H1 => td σ H1 fun x H2 => ty σ H2 fun y H3 => ∃ a b xs d p, v = .ref p ∧ x = .ref a ∧ y = .ref b ∧ DictD P w K H3 a xs ∧ DK K H3 b d ∧ lookD xs d = none ∧ xs.length < 1000 ∧ D.nx σ (upd H3 a (DDi P w a (xs ++ [(d, b, p)])))
def tDNewD (P : Program) (w : World) : TE := fun _ H Q => ∀ p, H p = none → Q (.ref p) (upd H p (DDi P w p []))
section
variable {X : Cx} {o i e value : Expr} {pos pos' tpos : Pos} {td ty tv : TE} {k : Nat}
theorem hu9_of {A : Around} {k : Nat} (hr : Room k A) : A.units + 9 < cLine := Nat.lt_of_le_of_lt (Nat.add_le_add_left (by decide : 9 ≤ 64) _) hr.units
theorem pe_dgetD (hr : Room k X.A) (ho : PE X o td) (hi : PE X i ty) (hs : NoSl i) : PE X (.Subscript o i pos) (tDGetD X.prog X.w X.K td ty) := by
  intro pins s σ H Q I h
  refine subD_of PySem.F.slot_dict_getitem.lookup hs (thn (ho pins s σ H _ I h) fun u s1 ⟨x, H1, I1, rx, q1⟩ => thn (hi pins s1 σ H1 _ I1 q1) fun iv s2 ⟨y, H2, I2, ry, a, b, xs, d, p, ex, ey, g, kk, l, q2⟩ => ?_)
  subst ex ey
  obtain rfl : u = Value.ref a := rx
  obtain rfl : iv = Value.ref b := ry
  exact ⟨(dd_of I2 g).2.typeIs, dd_getItem (hu9_of hr) I2 g kk l fun s3 I3 => ⟨.ref p, H2, I3, rfl, q2⟩⟩
theorem ps_dputD (hr : Room k X.A) (ho : PE X o td) (hi : PE X i ty) (hv : PE X value tv) (hs : swapsWith value (some (.Subscript o i pos')) pos.line X.env = pure false) :
    PS X (.Assign [.Subscript o i pos'] value pos) (sDPutD X.prog X.w X.K td ty tv) := by
  intro pins s σ H D I h
  refine wpAny_Assign_Subscript (thn (hv pins s σ H _ I h) fun r s1 ⟨v, H1, I1, rv, q1⟩ => thn (ho pins s1 σ H1 _ I1 q1) fun u s2 ⟨x, H2, I2, rx, q2⟩ => thn (hi pins s2 σ H2 _ I2 q2) fun iv s3 ⟨y, H3, I3, ry, a, b, xs, d, p, ev, ex, ey, g, kk, l, hl, q3⟩ => ?_) hs
  subst ex ey ev
  obtain rfl : u = Value.ref a := rx
  obtain rfl : iv = Value.ref b := ry
  obtain rfl : r = Value.ref p := rv
  exact dd_setItem (hu9_of hr) I3 g kk l hl fun s4 I4 => ⟨σ, _, I4, q3⟩
theorem pe_dnewD : PE X (.Dict [] [] pos) (tDNewD X.prog X.w) := fun pins s σ H Q I h =>
  wpAny_Dict_empty ⟨.ref s.heap.objs.size, _, I.laid (a := s.heap.objs.size) (o := DDi X.prog X.w s.heap.objs.size []) (t' := s.toks) (fun _ _ q => Heap.get?_push_of_some _ q) (Nat.le_refl _) (ddi_mk (beq_eq_false_iff_ne.mpr (Ne.symm (Nat.ne_of_lt I.big))) ⟨_, #[], 0, Heap.get?_push_size _ rfl, ⟨rfl, rfl, rfl⟩, rfl, rfl⟩), rfl, h _ (I.hok.fresh (Nat.le_refl _))⟩
end
def TupK (H H' : Hp) : Prop := ∀ b xs, Rd H b (.tup xs) → Rd H' b (.tup xs)
theorem TupK.sq {K : PySem.W.Frag} {H H' : Hp} (t : TupK H H') {b : Addr} {xs : List V} (h : SqT K H b xs) : SqT K H' b xs := by
  rcases h with h | h
  · exact .inl (t _ _ h)
  · exact .inr h
theorem tupK_of {H H' : Hp} (s : Same H H') : TupK H H' := fun b xs h => by
  rcases h with h | ⟨o, h⟩
  · exact .inl (s _ _ h)
  · exact .inr ⟨o, s _ _ h⟩
theorem tupK_but {H H' : Hp} {P : Addr} {u : HO} (hk : ∀ b o, b ≠ P → H b = some o → H' b = some o) (hP : H P = some u) (h1 : ∀ xs, u ≠ .tup xs) (h2 : ∀ o v, u ≠ .frz o v) : TupK H H' := fun b xs h => by
  rcases h with h | ⟨o, h⟩
  · exact .inl (hk _ _ (ne_of h hP (fun z => h1 _ z.symm)) h)
  · exact .inr ⟨o, hk _ _ (ne_of h hP (fun z => h2 _ _ z.symm)) h⟩
mutual
theorem den_tupk {K : PySem.W.Frag} {H H' : Hp} (t : TupK H H') : ∀ {d : PyData} {v : V}, KO d → Den K H v d → Den K H' v d
  | .int _, _, _, .int i => .int i
  | .str _, _, _, .str x h => .str x h
  | .tuple _, _, .tup k, .tup h hs => .tup (t.sq h) (dens_tupk t k hs)
theorem dens_tupk {K : PySem.W.Frag} {H H' : Hp} (t : TupK H H') : ∀ {ds : List PyData} {vs : List V}, KOs ds → Dens K H vs ds → Dens K H' vs ds
  | [], _, _, .nil => .nil
  | _ :: _, _, .cons k ks, .cons a b => .cons (den_tupk t k a) (dens_tupk t ks b)
end
theorem DK.tupk {K : PySem.W.Frag} {H H' : Hp} {b : Addr} {d : PyData} (h : DK K H b d) (t : TupK H H') : DK K H' b d := ⟨den_tupk t h.ko h.den, h.ko, h.dp⟩
theorem DictD.keep {P : Program} {w : World} {K : PySem.W.Frag} {H H' : Hp} {a : Addr} {xs : Dx} (h : DictD P w K H a xs) (t : TupK H H') (e : H' a = some (DDi P w a xs)) : DictD P w K H' a xs := ⟨e, h.nd, h.len, fun x hx => (h.keys x hx).tupk t⟩
theorem lookD_none {xs : Dx} {d : PyData} (h : lookD xs d = none) : d ∉ xs.map (·.1) := by
  intro hm
  obtain ⟨x, hx, rfl⟩ := List.mem_map.mp hm
  unfold lookD at h
  rw [Option.map_eq_none_iff, List.find?_eq_none] at h
  exact h x hx (by simp)
theorem lookD_snoc (xs : Dx) (d e : PyData) (b p : Addr) (h : lookD xs d = none) : lookD (xs ++ [(d, b, p)]) e = if e = d then some p else lookD xs e := by
  unfold lookD
  rw [List.find?_append]
  by_cases c : e = d
  · subst c
    have h' : xs.find? (fun x => decide (x.1 = e)) = none := by
      unfold lookD at h
      rwa [Option.map_eq_none_iff] at h
    rw [h', if_pos rfl]
    simp
  · rw [if_neg c]
    have : ([(d, b, p)] : Dx).find? (fun x => decide (x.1 = e)) = none := by simp [Ne.symm c]
    rw [this]
    simp
theorem DictD.put {P : Program} {w : World} {K : PySem.W.Frag} {H : Hp} {a b p : Addr} {d : PyData} {xs : Dx} (h : DictD P w K H a xs) (k : DK K H b d) (l : lookD xs d = none) (hl : xs.length < 1000) : DictD P w K (upd H a (DDi P w a (xs ++ [(d, b, p)]))) a (xs ++ [(d, b, p)]) := by
  have t : TupK H (upd H a (DDi P w a (xs ++ [(d, b, p)]))) := tupK_but (fun b o hb e => by rw [upd_ne hb]; exact e) h.at_ (by intro xs z; cases z) (by intro o v z; cases z)
  refine ⟨upd_same, ?_, by rw [List.length_append, List.length_singleton]; omega, fun x hx => ?_⟩
  · rw [List.map_append]
    refine List.nodup_append.mpr ⟨h.nd, by simp, fun x hx y hy e => ?_⟩
    subst e
    have : x = d := by simpa using hy
    subst this
    exact lookD_none l hx
  · rcases List.mem_append.mp hx with hx | hx
    · exact (h.keys x hx).tupk t
    · have : x = (d, b, p) := by simpa using hx
      subst this
      exact k.tupk t
theorem dictD_new {P : Program} {w : World} {K : PySem.W.Frag} {H : Hp} {a : Addr} (h : H a = some (DDi P w a [])) : DictD P w K H a [] := ⟨h, by simp, by simp, fun x hx => by cases hx⟩
section
variable {X : Cx} {k : Nat}
theorem op_notInDD (hr : Room k X.A) : OpR X (compareOp .NotIn) (fun y x H Q => ∃ a b xs d, x = .ref a ∧ y = .ref b ∧ DictD X.prog X.w X.K H a xs ∧ DK X.K H b d ∧ Q (.bl (!(lookD xs d).isSome)) H) := by
  intro pins s σ H y x u v Q I ry rx h
  obtain ⟨a, b, xs, d, rfl, rfl, g, kk, q⟩ := h
  cases (show u = Value.ref b from ry)
  cases (show v = Value.ref a from rx)
  exact dd_notIn (hu9_of hr) I g kk fun s' I' => ⟨.bl (!(lookD xs d).isSome), H, I', rfl, q⟩
end
section
variable {X : Cx} {e : Expr} {f : Str} {pos : Pos} {ta : TE}
theorem pe_fldK {K : PySem.W.Frag} (he : PE X e ta) (hb : attributeBase e f X.env (eval e X.env) = eval e X.env) (h : X.K = K := by rfl) : PE X (.Attribute e f pos) (tFld K ta f) := by subst h; exact pe_fld he hb
end
end L2
namespace L2
open PySem PySem.Spec PyProof.Rows
end L2
namespace L2
open PySem PySem.Spec PyProof.Rows
theorem pe_ma0 {X : Cx} {g : Gx} {j k : Nat} {x : Str} {C : Addr} {ps : List Str} {sp : Sp} {p pos : Pos} (F : g.Ma j x C ps sp) (hr : Room k X.A) (hj : j + 1 ≤ k := by omega) (hX : X.gx = g := by rfl) (hg : Gl X x := by rfl) (hdb : (x == ("__debug__" : Str)) = false := by decide) :
    PE X (.Call (.Name x p) [] [] pos) (tMake C sp [] E0 tNil) := by
  subst hX
  obtain ⟨f, fd, F, b, M, hm⟩ := F
  exact pe_make0 M F (hr.mono hj) hg hm b .nil pass0 hdb
end L2
namespace L2
open PySem PySem.Spec PyProof.Rows
section
variable {M : Model} {A : Around} {E : Value → Shared → Prop} {s : Shared}
theorem newEnv_cell {scope : Scope} {globals : Addr} {cl : List (Str × Addr)} {qual : Str} {outer : Env} {Q : Env → Shared → Prop} {y : Str} (hcf : ∀ n acc, cellsFrom n scope.names acc = (y, n) :: acc)
    (h : ∀ h', (∀ b o, s.heap.get? b = some o → h'.get? b = some o) → h'.Ns s.heap.objs.size (fun _ => none) → h'.IsCell (s.heap.objs.size + 1) none → Q (newEnv scope s.heap.objs.size globals ((y, s.heap.objs.size + 1) :: cl) qual none .none (some outer) builtinsNs) { s with heap := h' }) :
    wpAny M A (newFunctionEnv scope globals cl [] qual none .none (some outer)) Q E s := by
  obtain ⟨hh, g, d, t, os⟩ := s
  unfold newFunctionEnv
  refine wpAny_bind (wpAny_alloc' ?_)
  refine wpAny_bind (wpAny_forIn_list _ (fun rest b s' => (cellsFrom s'.heap.objs.size rest b = (y, hh.objs.size + 1) :: cl ∧ (∀ a o, (hh.push { cls := .type (if (some outer).isSome = true then "dict" else "frame"), data := .dict #[] }).get? a = some o → s'.heap.get? a = some o) ∧ (∃ own : List (Str × Addr), b = own ++ cl ∧ ∀ p ∈ own, s'.heap.IsCell p.2 none) ∧ s' = { heap := s'.heap, gens := g, drawn := d, toks := t, os := os })) _ ?_ ?_ _ _ ⟨?_, fun _ _ e => e, ⟨[], rfl, fun p hp => (by cases hp)⟩, rfl⟩)
  · rintro ⟨nm, kd⟩ rest b s' ⟨h1, h2, ⟨own, rfl, h3⟩, h4⟩
    rw [cellsFrom] at h1
    dsimp only
    by_cases c : (kd == NameKind.cell) = true
    · rw [if_pos c] at h1 ⊢
      rw [h4]
      refine wpAny_bind (wpAny_alloc' (wpAny_pure ⟨?_, fun a o e => Heap.get?_push_of_some _ (h2 a o e), ⟨(nm, s'.heap.objs.size) :: own, rfl, fun p hp => ?_⟩, rfl⟩))
      · show cellsFrom (s'.heap.push _).objs.size rest _ = _
        rw [Heap.size_push]
        exact h1
      · rcases List.mem_cons.mp hp with rfl | hp
        · exact ⟨_, Heap.get?_push_at rfl rfl, rfl⟩
        · obtain ⟨o, e1, e2⟩ := h3 p hp
          exact ⟨o, Heap.get?_push_of_some _ e1, e2⟩
    · rw [if_neg c] at h1 ⊢
      exact wpAny_pure ⟨h1, h2, ⟨own, rfl, h3⟩, h4⟩
  · rintro b s' ⟨h1, h2, ⟨own, rfl, h3⟩, h4⟩
    have h1 : own ++ cl = (y, hh.objs.size + 1) :: cl := by
      have : cellsFrom s'.heap.objs.size [] (own ++ cl) = own ++ cl := by rw [cellsFrom]
      rw [← this]; exact h1
    have eo : own = [(y, hh.objs.size + 1)] := List.append_cancel_right (bs := cl) (by simpa using h1)
    subst eo
    rw [h4]
    exact wpAny_bind (wpAny_pure (wpAny_pure (h s'.heap (fun b o e => h2 b o (Heap.get?_push_of_some _ e)) ((Heap.Ns.new hh _).keeps h2) (h3 _ (.head _)))))
  · show cellsFrom (hh.push _).objs.size _ _ = _
    rw [Heap.size_push]
    exact hcf _ _
end
def cxD (X : Cx) (scope : Scope) (N' : List Str) (y : Str) (cl : List (Str × Addr)) (C : Addr) (s₀ : Shared) (H₀ : Hp) (fp : List Addr) (pn : List (Addr × Obj)) : Cx :=
  { X with N := N', s₀ := s₀, H₀ := H₀, env := compEnvC scope ((y, C + 1) :: cl) C X.env, outer := X.stack, ex := fp, fn := fun z => z == y, pn := pn, xe := fun _ _ => False }
section
variable {X : Cx}
theorem inv_compD {y : Str} {scope : Scope} {N' : List Str} {src : List (Option Nat)} {cl : List (Str × Addr)} {pins : List (Addr × Obj)} {σ : St} {H : Hp} {s s' : Shared} {h' : Heap} {tk : Nat} {fp : List Addr} {m : Str → Option Value}
    (hk : scope.kind = .function) (hyc : scope.names.lookup y = some .cell) (hone : ∀ z ∈ scope.names, z.2 = .cell → z.1 = y) (hcap : Cap X scope src N')
    (a : ∀ x c, cl.lookup x = some c → X.env.cells.lookup x = some c) (b : ∀ x, (x, NameKind.free) ∈ scope.names → ∃ c, cl.lookup x = some c)
    (I : Inv X pins σ H s) (hf : ∀ b ∈ fp, FpOk X pins H b) (hfl : ∀ b ∈ fp, b < s.heap.objs.size) (es' : s' = { s with heap := h', toks := tk })
    (keep : ∀ b o, s.heap.get? b = some o → h'.get? b = some o) (hn : h'.Ns s.heap.objs.size m) (hce : h'.IsCell (s.heap.objs.size + 1) none) :
    Inv (cxD X scope N' y cl s.heap.objs.size s H fp (X.pn ++ pins)) [] (capSt src σ) H s' := by
  subst es'
  have kindOf : ∀ x, (compEnvC scope ((y, s.heap.objs.size + 1) :: cl) s.heap.objs.size X.env).kindOf x = (scope.names.lookup x).map fun k => if (k == NameKind.free && X.env.scope.kind == .function && X.env.kindOf x == some .cell) then NameKind.cell else k := fun x => lookup_relabel X.env x
  have freeOf : ∀ x, ((compEnvC scope ((y, s.heap.objs.size + 1) :: cl) s.heap.objs.size X.env).kindOf x = some .cell ∨ (compEnvC scope ((y, s.heap.objs.size + 1) :: cl) s.heap.objs.size X.env).kindOf x = some .free) → scope.names.lookup x = some .free ∨ x = y := fun x h => by
    rw [kindOf] at h
    cases q : scope.names.lookup x with
    | none => rw [q] at h; simp at h
    | some k =>
      rw [q] at h
      by_cases hkf : k = NameKind.free
      · rw [hkf]; exact .inl rfl
      · have hkf' : (k == NameKind.free) = false := by simpa using hkf
        simp only [Option.map_some, hkf', Bool.false_and, Bool.false_eq_true, if_false] at h
        rcases h with h | h
        · exact .inr (hone _ (PySem.mem_of_lookup q) (Option.some.inj h))
        · exact absurd (Option.some.inj h) hkf
  have split : ∀ {x : Str} {c : Addr}, List.lookup x ((y, s.heap.objs.size + 1) :: cl) = some c → (x = y ∧ c = s.heap.objs.size + 1) ∨ (x ≠ y ∧ cl.lookup x = some c) := fun {x c} h => by
    rw [List.lookup_cons] at h
    by_cases e : (x == y) = true
    · rw [e] at h
      exact .inl ⟨by simpa using e, (Option.some.inj h).symm⟩
    · rw [Bool.eq_false_iff.mpr e] at h
      exact .inr ⟨by simpa using e, h⟩
  have old : ∀ {x : Str} {c : Addr}, cl.lookup x = some c → c < s.heap.objs.size := fun {x c} h => by
    obtain ⟨v, o, ho, _⟩ := I.cell x c (a x c h)
    exact Heap.lt_size ho
  have ny : ∀ {x : Str}, scope.names.lookup x = some .free → x ≠ y := fun h z => by rw [z, hyc] at h; cases h
  have intoc : ∀ {x : Str} {c : Addr}, x ≠ y → cl.lookup x = some c → List.lookup x ((y, s.heap.objs.size + 1) :: cl) = some c := fun {x c} n h => by
    rw [List.lookup_cons, show (x == y) = false by simpa using n]
    exact h
  refine ⟨⟨I.ok.mod, hk, I.ok.glob, I.ok.blt, Nat.le_refl _, fun x z c h1 h2 => ?_, fun x hx => ?_, fun x c z h => ?_, I.ok.hd, I.ok.frames, .inl rfl, fun b' hb => ?_, I.bs, Nat.le_trans I.ok.bsz I.sz, fun b' o e hb => ?_, fun b' hb z => ?_, I.stack, I.stkFree⟩,
    rfl, I.bare, Un.kept keep, ⟨m, hn, fun j x v h1 h2 h3 => ?_⟩, fun x c h => ?_, I.hok.fresh (Nat.le_refl _), fun x c h => ?_, fun p hp => ?_, I.hok.kept keep, ?_⟩
  · rcases split h1 with ⟨e1, e2⟩ | ⟨e1, e2⟩
    · rcases split h2 with ⟨e3, _⟩ | ⟨_, e4⟩
      · rw [e1, e3]
      · have hlt := old e4
        rw [e2] at hlt
        exact absurd hlt (Nat.not_lt.mpr (Nat.le_succ _))
    · rcases split h2 with ⟨_, e4⟩ | ⟨_, e4⟩
      · have hlt := old e2
        rw [e4] at hlt
        exact absurd hlt (Nat.not_lt.mpr (Nat.le_succ _))
      · exact I.ok.inj x z c (a x c e2) (a z c e4)
  · rcases freeOf x hx with h | h
    · obtain ⟨c, hc⟩ := b x (lookup_mem_free h)
      exact ⟨c, intoc (ny h) hc⟩
    · subst h
      exact ⟨_, List.lookup_cons_self⟩
  · rcases split h with ⟨_, e⟩ | ⟨e, _⟩
    · rw [e]
      exact Nat.le_succ _
    · exact absurd (by simpa [cxD] using z) e
  · obtain ⟨f0, f1, f2, f3, f4, f5⟩ := hf b' hb
    refine ⟨Nat.ne_of_lt (hfl b' hb), fun x c h => ?_⟩
    rcases split h with ⟨_, e⟩ | ⟨_, e⟩
    · have hlt := hfl b' hb
      rw [e]
      exact fun z => absurd (z ▸ hlt) (Nat.not_lt.mpr (Nat.le_succ _))
    · exact f4 x c (a x c e)
  · obtain ⟨f0, f1, f2, f3, f4, f5⟩ := hf b' hb
    rcases f3 with z | z
    · exact I.ok.noex b' o e z
    · exact absurd (Nat.lt_of_lt_of_le (Heap.lt_size e) (Nat.le_trans I.ok.bsz z)) (Nat.lt_irrefl _)
  · obtain ⟨f0, f1, f2, f3, f4, f5⟩ := hf b' hb
    rcases List.mem_cons.mp (I.stkSub b' z) with e | e
    · exact f1 e
    · exact f2 e
  · obtain ⟨i, e1, e2, e3, e4⟩ := hcap.get j x v h1 h2
    obtain ⟨m0, hn0, hl⟩ := I.loc
    obtain ⟨u, r, l⟩ := hl i x v e1 e2 (by rcases e4 with e4 | e4; exact .inr (.inl e4); exact .inr (.inr e4))
    refine ⟨u, r, ?_⟩
    rcases l with ⟨l, _⟩ | ⟨k, c, e, z⟩
    · have l' : X.env.scope.names.lookup x = some NameKind.local := l
      rcases e4 with e4 | e4 <;> (rw [e4] at l'; cases l')
    · refine .inr ⟨?_, ?_⟩
      · show (compEnvC scope ((y, s.heap.objs.size + 1) :: cl) s.heap.objs.size X.env).kindOf x = some .cell ∨ (compEnvC scope ((y, s.heap.objs.size + 1) :: cl) s.heap.objs.size X.env).kindOf x = some .free
        rw [kindOf, e3]
        simp only [Option.map_some]
        split
        · exact .inl rfl
        · exact .inr rfl
      · obtain ⟨c', hc'⟩ := b x (lookup_mem_free e3)
        have := a x c' hc'
        rw [e] at this
        cases this
        obtain ⟨o, ho, hd⟩ := z
        exact ⟨c, intoc (ny e3) hc', o, keep _ _ ho, hd⟩
  · rcases split h with ⟨_, e⟩ | ⟨_, e⟩
    · rw [e]; exact ⟨none, hce⟩
    · obtain ⟨v, o, ho, hd⟩ := I.cell x c (a x c e)
      exact ⟨v, o, keep _ _ ho, hd⟩
  · rcases split h with ⟨_, e⟩ | ⟨_, e⟩
    · rw [e]; exact I.hok.fresh (Nat.le_succ _)
    · exact I.freeC x c (a x c e)
  · have hp' : p ∈ X.pn ++ pins := by simpa [cxD] using hp
    obtain ⟨e, n, ne, nf, d⟩ := I.pin p hp'
    refine ⟨keep _ _ e, n, Nat.ne_of_lt (Heap.lt_size e), fun z => ?_, d⟩
    rcases List.mem_cons.mp (I.stkSub p.1 z) with q | q
    · exact ne q
    · exact nf q
  · show (capSt src σ).length = N'.length
    rw [← hcap.length]
    simp [capSt]
end
section
variable {X : Cx}
theorem pe_lcD {yc : Str} {elt tg iter : Expr} {ifs : List Expr} {scope : Scope} {pos : Pos} {src : List (Option Nat)} {N' : List Str} {wi : TI} {g : TG} {tt : TT} {te : TE} (hcap : Cap X scope src N') (hc : X.calm = true) (hi : PI X tg iter wi)
    (hg : ∀ cl C s₀ H₀ fp pn, PG (cxD X scope N' yc cl C s₀ H₀ fp pn) tg g) (ht : ∀ cl C s₀ H₀ fp pn, PTs (cxD X scope N' yc cl C s₀ H₀ fp pn) ifs tt) (he : ∀ cl C s₀ H₀ fp pn, PE (cxD X scope N' yc cl C s₀ H₀ fp pn) elt te)
    (hfree : ∀ x, (x, NameKind.free) ∈ scope.names → X.env.scope.names.lookup x = some NameKind.cell ∨ X.env.scope.names.lookup x = some NameKind.free)
    (hk : scope.kind = .function := by rfl) (hcf : ∀ n acc, cellsFrom n scope.names acc = (yc, n) :: acc := by intro _ _; rfl) (hyc : scope.names.lookup yc = some .cell := by rfl) (hone : ∀ z ∈ scope.names, z.2 = .cell → z.1 = yc := by decide +kernel) (hnames : ∀ y ∈ scope.names, y.2 = .local → scope.names.lookup y.1 = some .local := by decide +kernel)
    (hs : ∀ x, foldedSetIterable iter X.env x = pure x := by intro _; rfl) : PE X (.ListComp elt [⟨tg, iter, ifs, 0⟩] scope pos) (tLC src wi g tt te) := by
  intro pins s σ H Q I h
  have no : ∀ {E : Value → Shared → Prop}, ∀ (e : Value) (s' : Shared), False → E e s' := fun _ _ f => f.elim
  obtain ⟨cl, hcl, a, b⟩ := closure_ok X.env scope fun x hx => I.ok.has x (hfree x hx)
  rw [eval_ListComp]
  refine wpAny_comprehension_free (use := none) rfl hs hcl hk hnames (thn (hi pins s σ H _ I h) fun v s1 h1 => thn h1 fun itv s2 h2 => ?_)
  obtain ⟨it, fp, tn, J, H2, e, I2, T, st2, f2, q⟩ := h2
  subst e
  have hD : H2 s2.heap.objs.size = none := I2.hok.fresh (Nat.le_refl _)
  obtain ⟨W, ⟨m0, w0⟩, turn⟩ := q s2.heap.objs.size hD
  have I3 := I2.lnew (t' := s2.toks) (ys := []) (its := []) .nil (Nat.zero_le _)
  have fl2 : ∀ b ∈ fp, b < s2.heap.objs.size := fun b hb => by
    obtain ⟨o, e, _⟩ := T.obj _ _ st2 b hb
    exact Heap.lt_size e
  refine wpAny_newObj_type ?_
  generalize es3 : ({ s2 with heap := s2.heap.push { cls := .type "list", dict := none, data := .seq ([] : List Value).toArray } } : Shared) = s3
  have I3' : Inv X pins σ (upd H2 s2.heap.objs.size (.lst [])) s3 := es3 ▸ I3
  have keep3 : ∀ b o, s2.heap.get? b = some o → s3.heap.get? b = some o := fun b o e => by rw [← es3]; exact Heap.get?_push_of_some _ e
  have st3 : tn 0 s3.heap := T.keep _ _ _ st2 fun b _ o e => keep3 b o e
  have fl3 : ∀ b ∈ fp, b < s3.heap.objs.size := fun b hb => by
    obtain ⟨o, e, _⟩ := T.obj _ _ st3 b hb
    exact Heap.lt_size e
  have f3 : ∀ b ∈ fp, FpOk X pins (upd H2 s2.heap.objs.size (.lst [])) b := fun b hb => ⟨by rw [upd_ne (Nat.ne_of_lt (fl2 b hb))]; exact (f2 b hb).1, (f2 b hb).2⟩
  generalize eD : s2.heap.objs.size = D at *
  generalize eH3 : upd H2 D (.lst []) = H3 at *
  refine newEnv_cell hcf fun h₁ keep4 hns₁ hce₁ => ?_
  have I4 := inv_compD (N' := N') (src := src) (tk := s3.toks) hk hyc hone hcap a b I3' f3 fl3 rfl keep4 hns₁ hce₁
  -- the iterator's objects, through the block
  have stat : ∀ {H' : Hp}, (∀ b ∈ fp, H' b = none) → ∀ b ∈ fp, FpOk (cxD X scope N' yc cl s3.heap.objs.size s3 H3 fp (X.pn ++ pins)) [] H' b := fun hn b' hb => by
    obtain ⟨f0, f1, fs, fe, f4, f5⟩ := f3 b' hb
    refine ⟨hn b' hb, Nat.ne_of_lt (fl3 b' hb), fun z => ?_, .inl hb, fun x c h => ?_, fun p hp => f5 p (by simpa [cxD] using hp)⟩
    rotate_left
    · have h : List.lookup x ((yc, s3.heap.objs.size + 1) :: cl) = some c := h
      rw [List.lookup_cons] at h
      by_cases e : (x == yc) = true
      · rw [e] at h
        have h := Option.some.inj h
        have hlt := fl3 b' hb
        rw [← h]
        exact fun z => absurd (z ▸ hlt) (Nat.not_lt.mpr (Nat.le_succ _))
      · rw [Bool.eq_false_iff.mpr e] at h
        exact f4 x c (a x c h)
    rcases List.mem_cons.mp (I3'.stkSub b' z) with e | e
    · exact f1 e
    · exact fs e
  -- behind the block
  have fin : ∀ {H' : Hp} {s' : Shared} {σ' : St} {pins' : List (Addr × Obj)}, Inv (cxD X scope N' yc cl s3.heap.objs.size s3 H3 fp (X.pn ++ pins)) pins' σ' H' s' → ∀ h', Heap.SameBut s3.heap.objs.size s'.heap h' → Inv X pins σ H' { s' with heap := h' } := fun {H' s' σ' pins'} J' h' sb => by
    have same : ∀ b o, b ≠ s3.heap.objs.size → s'.heap.get? b = some o → h'.get? b = some o := fun b o hb e => sb.extBut b o hb e
    have u : Un (frs X.stack) fp H3 H' s3.heap s'.heap := J'.base
    refine I3'.call' (s' := { s' with heap := h' }) (ch := fp) J'.os ⟨fun b o e n hb hx => ?_, fun b o e n hb hx => ?_, u.free, fun b o e hx => ?_, u.tups, u.frzs, u.tbls⟩ (fun b o e => ?_) J'.bare fun b hb => ?_
    · exact same b o (Nat.ne_of_lt (Heap.lt_size e)) (u.keep b o e n hb hx)
    · obtain ⟨sl, z⟩ := u.slot b o e n hb hx
      exact ⟨sl, same b _ (Nat.ne_of_lt (Heap.lt_size e)) z⟩
    · obtain ⟨o', z⟩ := u.there b o e hx
      exact ⟨o', same b o' (Nat.ne_of_lt (Heap.lt_size e)) z⟩
    · have nC : ∀ c v, H' c = some v → c ≠ s3.heap.objs.size := fun c v z q => by
        have := J'.free
        rw [show (cxD X scope N' yc cl s3.heap.objs.size s3 H3 fp (X.pn ++ pins)).env.locals = s3.heap.objs.size from rfl, ← q, z] at this
        cases this
      refine (J'.hok b o e).stay (fun c v hc q => same c v ?_ q) (fun _ q => q) fun _ _ q => q
      rcases hc with z | z
      · rw [z]; exact nC b o e
      · exact nC c _ z
    · obtain ⟨f0, f1, fs, fe, f4, f5⟩ := f3 b hb
      exact ⟨fe, f1, f4, f5⟩
  have loop : codeAny (model X.prog X.w) X.A (.compLoop (.ListComp elt [⟨tg, iter, ifs, 0⟩] scope pos) 0 (.ref it) (.ref D) (compEnvC scope ((yc, s3.heap.objs.size + 1) :: cl) s3.heap.objs.size X.env))
      (compPost (model X.prog X.w) X.A X.xe none (EP X pins σ Q) (.ref D) s3.heap.objs.size) { s3 with heap := h₁ } := by
    refine comp_loop (fun n s' => ∃ i ys σ' H', Inv (cxD X scope N' yc cl s3.heap.objs.size s3 H3 fp (X.pn ++ pins)) [] σ' H' s' ∧ tn i s'.heap ∧ (∀ b ∈ fp, H' b = none) ∧ W i n ys σ' H') ?_ m0 ⟨0, [], capSt src σ, H3, I4, T.keep _ _ _ st3 fun b _ o e => keep4 b o e, fun b hb => (f3 b hb).1, w0⟩
    rintro n s5 ⟨i, ys, σ5, H5, I5, st5, fr5, w5⟩
    obtain ⟨hDs, stop | go⟩ := turn i n ys σ5 H5 w5
    · obtain ⟨stop, qn⟩ := stop
      refine thn (T.done (cxD X scope N' yc cl s3.heap.objs.size s3 H3 fp (X.pn ++ pins)) rfl rfl rfl hc i [] s5 σ5 H5 _ I5 (stat fr5) st5 stop) fun r s6 ⟨hr, I6⟩ => ?_
      subst hr
      obtain ⟨m, hn, _⟩ := id I6.loc
      exact ⟨m, hn, fun h' sb => ⟨.ref D, H5, fin I6 h' sb, rfl, qn⟩⟩
    · obtain ⟨go, N, hN, step⟩ := go
      refine thn (T.item (cxD X scope N' yc cl s3.heap.objs.size s3 H3 fp (X.pn ++ pins)) rfl rfl rfl hc i [] s5 σ5 H5 _ I5 (stat fr5) st5 go) fun r s6 ⟨u, hr, h6⟩ => ?_
      subst hr
      refine thn h6 fun _ s7 ⟨x, H7, I7, r7, y7, st7, fr7⟩ => ?_
      have I7' := I7.pinned (stat fr7) (T.obj _ _ st7)
      have again : ∀ {s8 : Shared} {σ8 : St} {H8 : Hp} {ys' : List V}, Inv (cxD X scope N' yc cl s3.heap.objs.size s3 H3 fp (X.pn ++ pins)) ([] ++ pinsAt fp s7.heap) σ8 H8 s8 → (∃ m', m' < n ∧ W (i + 1) m' ys' σ8 H8) →
          ∃ m, m < n ∧ ∃ i ys σ' H', Inv (cxD X scope N' yc cl s3.heap.objs.size s3 H3 fp (X.pn ++ pins)) [] σ' H' s8 ∧ tn i s8.heap ∧ (∀ b ∈ fp, H' b = none) ∧ W i m ys σ' H' := fun {s8 σ8 H8 ys'} I8 ⟨m', hm, w8⟩ => by
        refine ⟨m', hm, i + 1, ys', σ8, H8, I8.unpinned, T.keep _ _ _ st7 fun b hb o e => (I8.pin (b, o) (List.mem_append_right _ (List.mem_append_right _ (mem_pinsAt hb e)))).1, fun b hb => ?_, w8⟩
        obtain ⟨o, e, d⟩ := T.obj _ _ st7 b hb
        exact (I8.pin (b, o) (List.mem_append_right _ (List.mem_append_right _ (mem_pinsAt hb e)))).2.1
      refine thn (hg cl _ s3 H3 fp _ _ s7 σ5 H7 x u _ I7' r7 (step x H7 y7)) fun _ s8 ⟨σ8, H8, I8, q8⟩ => ?_
      refine thn (ht cl _ s3 H3 fp _ _ s8 σ8 H8 _ I8 q8) fun ok s9 ⟨H9, I9, q9⟩ => ?_
      cases ok with
      | false => exact again I9 (hN _ _ _ q9)
      | true =>
        rw [if_pos rfl]
        refine thn (he cl _ s3 H3 fp _ _ s9 σ8 H9 _ I9 q9) fun y s10 ⟨yv, H10, I10, r10, q10⟩ => ?_
        obtain ⟨hDy, hlen, w10⟩ := q10
        refine thn (mt_append (X := cxD X scope N' yc cl s3.heap.objs.size s3 H3 fp (X.pn ++ pins)) _ s10 σ8 H10 (.ref D) [yv] (.ref D) [y] (fun _ H' => H' = upd H10 D (.lst (ys ++ [yv]))) I10 rfl (.cons r10 .nil) ⟨D, ys, yv, rfl, rfl, hDy, hlen, rfl⟩) fun _ s11 ⟨_, H11, I11, _, e11⟩ => ?_
        subst e11
        exact again I11 (hN _ _ _ w10)
  exact codeAny_compStart_list loop (T.self _ 0 _ _ _ (T.keep _ _ _ st3 fun b _ o e => keep4 b o e) loop)
end
theorem call_sum_intsK {X : Cx} {K : PySem.W.Frag} (hc : X.calm = true) (h : X.K = K := by rfl) : CallR X (.builtin "sum") (fun xs H Q => ∃ (p : Addr) (ns : List Int), xs = [.ref p] ∧ SqL K H p (ns.map V.int) ∧ Q (.int ns.sum) H) := by subst h; exact call_sum_ints hc
end L2
set_option maxHeartbeats 8000000
namespace KW
open PySem L2
def top (i : Nat) : Stmt := PySem.Challenge.pw_countgen_k31_rows_and_lists_counted.main.body.getD i (.Pass ⟨0, 0, 0, 0⟩)
abbrev s_wall : Stmt := top 0
abbrev Z2E : Stmt := top 6
theorem Z3O : FnScope ["shape", "kind"] ["shape"] (defScope Z2E) := ⟨rfl, rfl, rfl, by decide +kernel, rfl, by decide +kernel, by decide +kernel⟩
abbrev Z2F : Stmt := top 8
theorem Z3P : FnScope ["book", "name", "pair"] ["book", "name"] (defScope Z2F) := ⟨rfl, rfl, rfl, by decide +kernel, rfl, by decide +kernel, by decide +kernel⟩
abbrev s_sets_among : Stmt := top 10
abbrev s_bags_among : Stmt := top 11
abbrev Z3o : Stmt := top 13
theorem sc_ways_of : FnScope ["blocks"] ["blocks"] (defScope Z3o) := ⟨rfl, rfl, rfl, by decide +kernel, rfl, by decide +kernel, by decide +kernel⟩
abbrev Z13 : Stmt := top 18
theorem Z3E : FnScope ["size"] ["size"] (defScope Z13) := ⟨rfl, rfl, rfl, by decide +kernel, rfl, by decide +kernel, by decide +kernel⟩
abbrev Z25 : Stmt := top 29
theorem sc_maker_for : FnScope ["book", "shape"] ["book", "shape"] (defScope Z25) := ⟨rfl, rfl, rfl, by decide +kernel, rfl, by decide +kernel, by decide +kernel⟩
abbrev Z3p : Stmt := top 31
theorem sc_counted : FnScope ["book", "shape", "size"] ["book", "shape", "size"] (defScope Z3p) := ⟨rfl, rfl, rfl, by decide +kernel, rfl, by decide +kernel, by decide +kernel⟩
abbrev Z26 : Stmt := top 32
theorem Z3q : FnScope ["book", "shape", "size", "maker"] ["book", "shape", "size"] (defScope Z26) := ⟨rfl, rfl, rfl, by decide +kernel, rfl, by decide +kernel, by decide +kernel⟩
abbrev Z27 : Stmt := top 34
theorem sc_law_whole : FnScope ["_law_found"] ["_law_found"] (defScope Z27) := ⟨rfl, rfl, rfl, by decide +kernel, rfl, by decide +kernel, by decide +kernel⟩
abbrev Z3r : Stmt := top 35
theorem Z1T : FnScope ["_law_script", "_law_k", "_law_step", "_law_found", "_law_cell"] ["_law_script", "_law_k", "_law_step"] (defScope Z3r) := ⟨rfl, rfl, rfl, by decide +kernel, rfl, by decide +kernel, by decide +kernel⟩
abbrev Z2G : Stmt := top 36
theorem sc_law_feed : FnScope ["_law_script", "_law_many"] ["_law_script", "_law_many"] (defScope Z2G) := ⟨rfl, rfl, rfl, by decide +kernel, rfl, by decide +kernel, by decide +kernel⟩
abbrev Z2H : Stmt := top 37
theorem sc_law_next : FnScope ["_law_feed_here"] ["_law_feed_here"] (defScope Z2H) := ⟨rfl, rfl, rfl, by decide +kernel, rfl, by decide +kernel, by decide +kernel⟩
abbrev Z0T : Stmt := top 38
theorem ZP : FnScope ["_law_feed_here", "_law_cell", "_law_low", "_law_span"] ["_law_feed_here"] (defScope Z0T) := ⟨rfl, rfl, rfl, by decide +kernel, rfl, by decide +kernel, by decide +kernel⟩
abbrev Z14 : Stmt := top 39
theorem Z01 : FnScope ["_law_feed_here", "_law_some", "_law_cell", "_law_many", "_law_step", "_law_start"] ["_law_feed_here"] (defScope Z14) := ⟨rfl, rfl, rfl, by decide +kernel, rfl, by decide +kernel, by decide +kernel⟩
abbrev Z20 : Stmt := top 40
theorem Z1M : FnScope ["_law_found", "_law_due", "_law_one", "_law_other"] ["_law_found", "_law_due"] (defScope Z20) := ⟨rfl, rfl, rfl, by decide +kernel, rfl, by decide +kernel, by decide +kernel⟩
abbrev Z2I : Stmt := top 41
theorem sc_law_leaf : FnScope ["_law_feed_here"] ["_law_feed_here"] (defScope Z2I) := ⟨rfl, rfl, rfl, by decide +kernel, rfl, by decide +kernel, by decide +kernel⟩
abbrev Z2J : Stmt := top 42
theorem Z3Q : FnScope ["_law_feed_here", "_law_way"] ["_law_feed_here"] (defScope Z2J) := ⟨rfl, rfl, rfl, by decide +kernel, rfl, by decide +kernel, by decide +kernel⟩
abbrev Z1N : Stmt := top 43
theorem Z0R : FnScope ["_law_counts_here", "_law_size", "_law_due", "_law_some"] ["_law_counts_here", "_law_size"] (defScope Z1N) := ⟨rfl, rfl, rfl, by decide +kernel, rfl, by decide +kernel, by decide +kernel⟩
abbrev Z1G : Stmt := top 44
theorem Z1l : FnScope ["_law_some", "_law_size", "_law_due", "_law_k"] ["_law_some", "_law_size"] (defScope Z1G) := ⟨rfl, rfl, rfl, by decide +kernel, rfl, by decide +kernel, by decide +kernel⟩
abbrev s_law : Stmt := top 45
theorem sc_law : FnScope ["_law_script", "_law_feed_here", "_law_cell", "_law_many", "_law_size", "_law_book", "_law_parts", "_law_counts_here", "_law_some", "_law_due", "_law_first"] ["_law_script"] (defScope s_law) := ⟨rfl, rfl, rfl, by decide +kernel, rfl, by decide +kernel, by decide +kernel⟩
abbrev Z0U : Stmt := inClass (top 28) 0
theorem Z3s : FnScope ["self", "book"] ["self", "book"] (defScope Z0U) := ⟨rfl, rfl, rfl, by decide +kernel, rfl, by decide +kernel, by decide +kernel⟩
abbrev Z0V : Stmt := inClass (top 28) 1
theorem Z3t : FnScope ["self", "shape"] ["self", "shape"] (defScope Z0V) := ⟨rfl, rfl, rfl, by decide +kernel, rfl, by decide +kernel, by decide +kernel⟩
abbrev Z15 : Stmt := inClass (top 28) 2
theorem Z1P : FnScope ["self", "shape", "maker"] ["self", "shape"] (defScope Z15) := ⟨rfl, rfl, rfl, by decide +kernel, rfl, by decide +kernel, by decide +kernel⟩
abbrev Z0O : Stmt := inClass (top 28) 3
theorem Z0C : FnScope ["self", "shape", "kind", "parts"] ["self", "shape"] (defScope Z0O) := ⟨rfl, rfl, rfl, by decide +kernel, rfl, by decide +kernel, by decide +kernel⟩
abbrev Z0i : Stmt := inClass (top 19) 0
theorem Z28 : FnScope ["self", "low", "high"] ["self", "low", "high"] (defScope Z0i) := ⟨rfl, rfl, rfl, by decide +kernel, rfl, by decide +kernel, by decide +kernel⟩
abbrev Z0j : Stmt := inClass (top 19) 1
theorem Z0Y : FnScope ["self", "size", "greatest"] ["self", "size"] (defScope Z0j) := ⟨rfl, rfl, rfl, by decide +kernel, rfl, by decide +kernel, by decide +kernel⟩
abbrev Z0o : Stmt := inClass (top 20) 0
theorem Z2j : FnScope ["self", "signs"] ["self", "signs"] (defScope Z0o) := ⟨rfl, rfl, rfl, by decide +kernel, rfl, by decide +kernel, by decide +kernel⟩
abbrev Z0p : Stmt := inClass (top 20) 1
theorem Z2k : FnScope ["self", "size"] ["self", "size"] (defScope Z0p) := ⟨rfl, rfl, rfl, by decide +kernel, rfl, by decide +kernel, by decide +kernel⟩
abbrev Z0D : Stmt := inClass (top 14) 0
theorem Z2K : FnScope ["self", "parts"] ["self", "parts"] (defScope Z0D) := ⟨rfl, rfl, rfl, by decide +kernel, rfl, by decide +kernel, by decide +kernel⟩
abbrev Z0P : Stmt := inClass (top 14) 1
theorem Z3d : FnScope ["self", "place", "left"] ["self", "place", "left"] (defScope Z0P) := ⟨rfl, rfl, rfl, by decide +kernel, rfl, by decide +kernel, by decide +kernel⟩
abbrev Z0E : Stmt := inClass (top 14) 2
theorem Z1m : FnScope ["self", "size", "place"] ["self", "size"] (defScope Z0E) := ⟨rfl, rfl, rfl, by decide +kernel, rfl, by decide +kernel, by decide +kernel⟩
abbrev Z0q : Stmt := inClass (top 14) 3
theorem Z1a : FnScope ["self", "place", "left", "part"] ["self", "place", "left"] (defScope Z0q) := ⟨rfl, rfl, rfl, by decide +kernel, rfl, by decide +kernel, by decide +kernel⟩
abbrev Z0F : Stmt := inClass (top 21) 0
theorem Z2L : FnScope ["self", "parts"] ["self", "parts"] (defScope Z0F) := ⟨rfl, rfl, rfl, by decide +kernel, rfl, by decide +kernel, by decide +kernel⟩
abbrev Z0G : Stmt := inClass (top 21) 1
theorem Z2M : FnScope ["self", "size"] ["self", "size"] (defScope Z0G) := ⟨rfl, rfl, rfl, by decide +kernel, rfl, by decide +kernel, by decide +kernel⟩
abbrev Z0r : Stmt := inClass (top 22) 0
theorem Z2l : FnScope ["self", "part"] ["self", "part"] (defScope Z0r) := ⟨rfl, rfl, rfl, by decide +kernel, rfl, by decide +kernel, by decide +kernel⟩
abbrev Z0k : Stmt := inClass (top 22) 1
theorem Z29 : FnScope ["self", "left"] ["self", "left"] (defScope Z0k) := ⟨rfl, rfl, rfl, by decide +kernel, rfl, by decide +kernel, by decide +kernel⟩
abbrev Z0s : Stmt := inClass (top 22) 2
theorem Z2m : FnScope ["self", "size"] ["self", "size"] (defScope Z0s) := ⟨rfl, rfl, rfl, by decide +kernel, rfl, by decide +kernel, by decide +kernel⟩
abbrev Z0t : Stmt := inClass (top 25) 0
theorem Z2n : FnScope ["self", "marks", "parts"] ["self", "marks", "parts"] (defScope Z0t) := ⟨rfl, rfl, rfl, by decide +kernel, rfl, by decide +kernel, by decide +kernel⟩
abbrev Z0l : Stmt := inClass (top 25) 1
theorem Z2a : FnScope ["self", "size"] ["self", "size"] (defScope Z0l) := ⟨rfl, rfl, rfl, by decide +kernel, rfl, by decide +kernel, by decide +kernel⟩
abbrev Z0u : Stmt := inClass (top 25) 2
theorem Z2o : FnScope ["self", "size"] ["self", "size"] (defScope Z0u) := ⟨rfl, rfl, rfl, by decide +kernel, rfl, by decide +kernel, by decide +kernel⟩
abbrev Z0H : Stmt := inClass (top 26) 0
theorem Z2N : FnScope ["self"] ["self"] (defScope Z0H) := ⟨rfl, rfl, rfl, by decide +kernel, rfl, by decide +kernel, by decide +kernel⟩
abbrev Z0I : Stmt := inClass (top 26) 1
theorem Z2O : FnScope ["self", "size"] ["self", "size"] (defScope Z0I) := ⟨rfl, rfl, rfl, by decide +kernel, rfl, by decide +kernel, by decide +kernel⟩
abbrev Z16 : Stmt := inClass (top 17) 0
theorem Z3F : FnScope ["self"] ["self"] (defScope Z16) := ⟨rfl, rfl, rfl, by decide +kernel, rfl, by decide +kernel, by decide +kernel⟩
abbrev Z0m : Stmt := inClass (top 17) 1
theorem Z2b : FnScope ["self", "size"] ["self", "size"] (defScope Z0m) := ⟨rfl, rfl, rfl, by decide +kernel, rfl, by decide +kernel, by decide +kernel⟩
abbrev Z0v : Stmt := inClass (top 17) 1
theorem Z2p : FnScope ["self", "size"] ["self", "size"] (defScope Z0v) := ⟨rfl, rfl, rfl, by decide +kernel, rfl, by decide +kernel, by decide +kernel⟩
abbrev Z0J : Stmt := inClass (top 17) 1
theorem Z2P : FnScope ["self", "size"] ["self", "size"] (defScope Z0J) := ⟨rfl, rfl, rfl, by decide +kernel, rfl, by decide +kernel, by decide +kernel⟩
abbrev Z0w : Stmt := inClass (top 17) 1
theorem Z2q : FnScope ["self", "size"] ["self", "size"] (defScope Z0w) := ⟨rfl, rfl, rfl, by decide +kernel, rfl, by decide +kernel, by decide +kernel⟩
abbrev Z0x : Stmt := inClass (top 17) 1
theorem Z2r : FnScope ["self", "size"] ["self", "size"] (defScope Z0x) := ⟨rfl, rfl, rfl, by decide +kernel, rfl, by decide +kernel, by decide +kernel⟩
abbrev Z0K : Stmt := inClass (top 17) 1
theorem Z2Q : FnScope ["self", "size"] ["self", "size"] (defScope Z0K) := ⟨rfl, rfl, rfl, by decide +kernel, rfl, by decide +kernel, by decide +kernel⟩
variable {g : Gx}
local macro_rules | `(tactic| walk_at "gn") => `(tactic| simp only [gName, List.set_cons_zero, List.set_cons_succ])
local macro_rules | `(tactic| walk_at "rd") => `(tactic| simp (config := { failIfUnchanged := false, maxSteps := 10000000 }) only [L2.start, cxOf_K, nox_K, List.map_cons, List.map_nil, List.length_cons, List.length_nil, List.cons_append, List.nil_append, List.replicate_succ, List.replicate_zero, Nat.zero_add, Nat.reduceAdd, Nat.reduceSub, Nat.sub_self, tSeq, tIfS, tTest, tOp, tC, tVar, rI0, rI, rU, tUn, tRet, tRetN, tDrop, tNext, tBreak, tCont, tAsg, gName, gNil, gCons, tCons, tNil, tCB, tCall, tTry, tTryAs, tRaise, sFld, tFld, tMake, tMeth, Ends.gone, caught_K, tB, tAnd, tOr, tNot, tAndV, tOrV, tNotV, tIf, tChain, tNoPart, tPart, tSl, tNever, tAug, rIxL, rIxT, rSlL, tLst, tTup, gTup, tRev, tLZ, tConT, tDict0, tDNewT, tDGet, sDPut, rNotInD, rInD, tEither, tSlStep, rBits, rFind, rIn, tBM, tBM0, rAppend, rReverse, rEq, rNe, scal_ii, scal_ss, rCat, rSetL, gSub, ipI, capSt, List.getD_cons_zero, List.getD_cons_succ, decide_true, not_true_eq_false, not_false_eq_true,
  exists_eq_left', exists_eq_left, exists_eq', exists_eq, exists_and_left, and_assoc, Option.some.injEq, V.int.injEq, V.bl.injEq, V.ref.injEq, V.str.injEq, List.getElem?_cons_zero, List.getElem?_cons_succ, List.set_cons_zero, List.set_cons_succ, List.cons.injEq, and_true, true_and, List.append_nil, decide_eq_true_eq, Bool.not_eq_true', decide_eq_false_iff_not, Bool.not_not, Bool.not_true, Bool.not_false, Bool.true_eq_false, Bool.false_eq_true, if_true, if_false, ite_true, ite_false])
theorem cm {i j : Int} {m n : Nat} (h1 : i.natAbs < 2 ^ m) (h2 : j.natAbs < 2 ^ n) (h : m + n ≤ 100000000 := by decide) : CMulB i j := ⟨m, n, h1, h2, h⟩
theorem cpow {i j : Int} (h : 0 ≤ j ∧ j ≤ 1000000 ∧ i.natAbs < 2 ^ 64 := by decide) : CPow i j := h
theorem few {n : Nat} (h : n ≤ 100000) : n ≤ sizeLine := Nat.le_trans h (by decide)
theorem mod_nat (x : Int) {j : Int} (h : 0 < j) : ∃ r : Nat, x % j = r ∧ (r : Int) < j := ⟨(x % j).toNat, by have := Int.emod_nonneg x (Int.ne_of_gt h); omega, by have := Int.emod_lt_of_pos x h; have := Int.emod_nonneg x (Int.ne_of_gt h); omega⟩
def SameBut (p : Addr) (H H' : Hp) : Prop := ∀ q o, q ≠ p → H q = some o → H' q = some o
theorem SameBut.refl (p : Addr) (H : Hp) : SameBut p H H := fun _ _ _ h => h
theorem SameBut.trans {p : Addr} {H H1 H2 : Hp} (a : SameBut p H H1) (b : SameBut p H1 H2) : SameBut p H H2 := fun q o n h => b q o n (a q o n h)
inductive Sh | w (lo : Int) (span : Nat) | t (sg : List Nat) | row (ps : List Sh) | pick (mk : List (List Nat)) (ps : List Sh) | many (p : Sh) | alike (p : Sh) (n : Nat) | use (x : List Nat)
def wc (span : Int) (k : Nat) : Int := if (if (1 * 2 ^ k - 1 : Int) < span then (1 * 2 ^ k - 1 : Int) else span) - 1 * 2 ^ k / 2 ^ 1 + 1 > 0 then (if (1 * 2 ^ k - 1 : Int) < span then (1 * 2 ^ k - 1 : Int) else span) - 1 * 2 ^ k / 2 ^ 1 + 1 else 0
mutual
def dep : Sh → Nat
  | .row ps => deps ps + 1
  | .pick _ ps => deps ps + 1
  | .many p => dep p + 1
  | .alike p _ => dep p + 1
  | _ => 0
def deps : List Sh → Nat
  | [] => 0
  | p :: ps => max (dep p) (deps ps)
end
theorem dep_mem {p : Sh} : ∀ {ps : List Sh}, p ∈ ps → dep p ≤ deps ps
  | q :: ps, h => by
    rw [deps]
    rcases List.mem_cons.mp h with rfl | h
    · omega
    · have := dep_mem h
      omega
mutual
def cnt (bk : List Nat → Sh) : Sh → Nat → Int
  | .w _ span, s => wc span s
  | .t sg, s => (sg.length : Int) ^ s
  | .row ps, s => rowc bk ps s
  | .pick _ ps, s => pickc bk ps s
  | .many p, s => if s = 0 then 1 else ((List.range s).attach.map fun ⟨f, hf⟩ => cnt bk p f * cnt bk (.many p) (s - 1 - f)).sum
  | .alike p n, s => if s < n ∨ n = 0 ∨ s % n ≠ 0 then 0 else cnt bk p (s / n - 1)
  | .use x, s => if h : s = 0 then 0 else cnt bk (bk x) (s - 1)
termination_by sh s => (s, sizeOf sh)
decreasing_by
  · simp only [Prod.lex_def]; right; simp
  · simp only [Prod.lex_def]; right; simp; omega
  · have := List.mem_range.mp hf; simp only [Prod.lex_def]; left; omega
  · have := List.mem_range.mp hf; simp only [Prod.lex_def]; left; omega
  · simp only [Prod.lex_def]
    have h1 : s / n ≤ s := Nat.div_le_self _ _
    by_cases c : s / n - 1 < s
    · left; exact c
    · right; refine ⟨by omega, by simp; omega⟩
  · simp only [Prod.lex_def]; left; omega
def rowc (bk : List Nat → Sh) : List Sh → Nat → Int
  | [], s => if s = 0 then 1 else 0
  | p :: ps, s => ((List.range (s + 1)).attach.map fun ⟨f, hf⟩ => cnt bk p f * rowc bk ps (s - f)).sum
termination_by ps s => (s, sizeOf ps)
decreasing_by
  · have := List.mem_range.mp hf
    simp only [Prod.lex_def]
    by_cases c : f < s
    · left; exact c
    · right; exact ⟨by omega, by simp; omega⟩
  · simp only [Prod.lex_def]
    by_cases c : s - f < s
    · left; exact c
    · right; exact ⟨by omega, by simp; omega⟩
def pickc (bk : List Nat → Sh) : List Sh → Nat → Int
  | [], _ => 0
  | p :: ps, s => cnt bk p s + pickc bk ps s
termination_by ps s => (s, sizeOf ps)
decreasing_by
  · simp only [Prod.lex_def]; right; exact ⟨trivial, by simp; omega⟩
  · simp only [Prod.lex_def]; right; exact ⟨trivial, by simp; omega⟩
end
theorem cnt_w (bk : List Nat → Sh) (lo : Int) (span s : Nat) : cnt bk (.w lo span) s = wc span s := by rw [cnt]
theorem cnt_t (bk : List Nat → Sh) (sg : List Nat) (s : Nat) : cnt bk (.t sg) s = (sg.length : Int) ^ s := by rw [cnt]
theorem cnt_row (bk : List Nat → Sh) (ps : List Sh) (s : Nat) : cnt bk (.row ps) s = rowc bk ps s := by rw [cnt]
theorem cnt_pick (bk : List Nat → Sh) (mk : List (List Nat)) (ps : List Sh) (s : Nat) : cnt bk (.pick mk ps) s = (ps.map fun p => cnt bk p s).sum := by
  rw [cnt]
  induction ps with
  | nil => rw [pickc]; rfl
  | cons p ps ih => rw [pickc, ih]; rfl
theorem cnt_many0 (bk : List Nat → Sh) (p : Sh) : cnt bk (.many p) 0 = 1 := by rw [cnt, if_pos rfl]
theorem cnt_many (bk : List Nat → Sh) (p : Sh) (s : Nat) : cnt bk (.many p) (s + 1) = ((List.range (s + 1)).map fun f => cnt bk p f * cnt bk (.many p) (s + 1 - 1 - f)).sum := by
  rw [cnt, if_neg (by omega)]
  congr 1
  exact List.attach_map_val (f := fun f => cnt bk p f * cnt bk (.many p) (s + 1 - 1 - f))
theorem cnt_use0 (bk : List Nat → Sh) (x : List Nat) : cnt bk (.use x) 0 = 0 := by rw [cnt, dif_pos rfl]
theorem cnt_use (bk : List Nat → Sh) (x : List Nat) (s : Nat) : cnt bk (.use x) (s + 1) = cnt bk (bk x) s := by rw [cnt, dif_neg (by omega)]; rfl
theorem rowc_nil (bk : List Nat → Sh) (s : Nat) : rowc bk [] s = if s = 0 then 1 else 0 := by rw [rowc]
theorem rowc_cons (bk : List Nat → Sh) (p : Sh) (ps : List Sh) (s : Nat) : rowc bk (p :: ps) s = ((List.range (s + 1)).map fun f => cnt bk p f * rowc bk ps (s - f)).sum := by
  rw [rowc]
  congr 1
  exact List.attach_map_val (f := fun f => cnt bk p f * rowc bk ps (s - f))
mutual
def kd : Sh → PyData
  | .w lo span => .tuple [.str "whole", .int lo, .int (lo + span)]
  | .t sg => .tuple [.str "text", .str (S sg)]
  | .row ps => .tuple [.str "row", .tuple (kds ps)]
  | .pick mk ps => .tuple [.str "pick", .tuple (kdp mk ps)]
  | .many p => .tuple [.str "many", kd p]
  | .alike p n => .tuple [.str "alike", kd p, .int n]
  | .use x => .tuple [.str "use", .str (S x)]
def kds : List Sh → List PyData
  | [] => []
  | p :: ps => kd p :: kds ps
def kdp : List (List Nat) → List Sh → List PyData
  | m :: mk, p :: ps => .tuple [.str (S m), kd p] :: kdp mk ps
  | _, _ => []
end
variable {m : Nat}
variable {src : List (Option Nat)} {te : TE} {σ : St} {H : Hp} {Q : VK}
variable {P0 : Program} {w0 : World} {K : PySem.W.Frag} {C : Cs} {CL : Addr} {prs : Prs} {w : Wo} {U O : Addr → Prop} {H H' : Hp} {ls dx d B : Addr} {xs : Dx}
variable {P0 : Program} {w0 : World} {K : PySem.W.Frag} {C : Cs} {CL : Addr} {prs : Prs} {w w1 : Wo} {U U1 O : Addr → Prop} {H H1 H3 : Hp} {ls dx d B : Addr} {xs xs1 : Dx}
variable {P0 : Program} {w0 : World} {K : PySem.W.Frag} {C : Cs} {CL : Addr} {prs : Prs} {w : Wo} {U O O' : Addr → Prop} {H H' : Hp} {ls dx d B : Addr} {xs : Dx}
def cnts (f : Nat → Int) (n : Nat) : List V := (List.range n).map fun k => V.int (f k)
theorem cnts_len (f : Nat → Int) (n : Nat) : (cnts f n).length = n := by simp [cnts]
theorem cnts_succ (f : Nat → Int) (n : Nat) : cnts f (n + 1) = cnts f n ++ [.int (f n)] := by simp [cnts, List.range_succ]
theorem cnts_at (f : Nat → Int) {n i : Nat} (h : i < n) : atI (cnts f n) (i : Int) = some (.int (f i)) := atI_nat (by simp [cnts, h])
theorem dle (x k : Nat) : decide ((x : Int) ≤ (k : Int)) = decide (x ≤ k) := decide_eq_decide.mpr (by omega)
structure Cs where
  (w t row tab many pick use : Addr)
structure Wo where
  bk : List Nat → Sh
  reg : Addr → Option Sh
  D : Addr → Option (Addr × Nat)
  M : Nat
structure Sw where
  ns : Addr → Nat
  ms : Addr → Nat → Nat
  U : Addr → Prop
def clsO (C : Cs) : Sh → Addr
  | .w _ _ => C.w
  | .t _ => C.t
  | .row _ => C.row
  | .pick _ _ => C.pick
  | .many _ => C.many
  | .alike _ _ => C.many
  | .use _ => C.use
def RegAll (reg : Addr → Option Sh) (as : List Addr) (ps : List Sh) : Prop := as.length = ps.length ∧ ∀ (i : Nat) a p, as[i]? = some a → ps[i]? = some p → reg a = some p
def sm (x : Int) : Prop := ∃ n : Nat, n ≤ 10000000 ∧ x.natAbs < 2 ^ n
def Un (w : Wo) (t : Sw) (b : Addr) : Prop := w.D b = none ∧ t.U b
def fW (lo : Int) (span : Nat) : List (Str × V) := [("low", .int lo), ("span", .int span)]
def fT (sg : List Nat) : List (Str × V) := [("signs", .str (S sg))]
def fR (P T : Addr) : List (Str × V) := [("parts", .ref P), ("table", .ref T)]
def fTab (P L : Addr) : List (Str × V) := [("parts", .ref P), ("ways", .ref L)]
def fP (M P : Addr) : List (Str × V) := [("marks", .ref M), ("parts", .ref P)]
def fM (a : Addr) : List (Str × V) := [("part", .ref a)]
def fU (a : V) : List (Str × V) := [("named", a)]
def mf (c : Addr) (fs : List (Str × V)) : List (Str × V) := ("counts", .ref c) :: fs
def Sub (C : Cs) (w : Wo) (t : Sw) (H : Hp) (p : Addr) : Sh → List (Str × V) → Prop
  | .w lo span, fs => fs = fW lo span
  | .t sg, fs => fs = fT sg ∧ sg.length ≤ 62
  | .row ps, fs => ∃ (P T dt L : Addr) (as ws : List Addr), fs = fR P T ∧ Un w t P ∧ Un w t T ∧ Un w t L ∧ H P = some (.lst (as.map V.ref)) ∧ RegAll w.reg as ps ∧ ps.length ≤ 100 ∧
      H T = some (.ins C.tab dt (fTab P L)) ∧ H L = some (.lst (ws.map V.ref)) ∧ ws.length = ps.length + 1 ∧
      (∀ (i : Nat) x, ws[i]? = some x → w.D x = some (p, i + 1) ∧ t.ns p ≤ t.ms p i ∧ t.ms p i ≤ 60 ∧ H x = some (.lst (cnts (rowc w.bk (ps.drop i)) (t.ms p i)))) ∧ ∀ i s, s ≤ 45 → sm (rowc w.bk (ps.drop i) s)
  | .pick mk ps, fs => ∃ (M P : Addr) (as : List Addr), fs = fP M P ∧ Un w t M ∧ Un w t P ∧ H M = some (.lst (mk.map fun m => V.str (S m))) ∧ H P = some (.lst (as.map V.ref)) ∧ RegAll w.reg as ps ∧ ps.length ≤ 100
  | .many q, fs => ∃ a, fs = fM a ∧ w.reg a = some q
  | .alike _ _, _ => False
  | .use x, fs => ∃ a, fs = fU (.ref a) ∧ w.reg a = some (w.bk x)
def MkAt (C : Cs) (w : Wo) (t : Sw) (H : Hp) (p : Addr) (sh : Sh) : Prop := ∃ (dx c : Addr) (fs : List (Str × V)), Un w t p ∧ dep sh ≤ w.M ∧ (∀ s, s ≤ 45 → sm (cnt w.bk sh s)) ∧ t.ns p ≤ 60 ∧ H p = some (.ins (clsO C sh) dx (mf c fs)) ∧ w.D c = some (p, 0) ∧ H c = some (.lst (cnts (cnt w.bk sh) (t.ns p))) ∧ Sub C w t H p sh fs
structure WI (C : Cs) (w : Wo) (t : Sw) (H : Hp) : Prop where
  at_ : ∀ p sh, w.reg p = some sh → MkAt C w t H p sh
  al : ∀ b, t.U b → H b ≠ none
  ow : ∀ b x, w.D b = some x → t.U b
  inj : ∀ b b' x, w.D b = some x → w.D b' = some x → b = b'
theorem Sub.keep {C : Cs} {w : Wo} {t : Sw} {H H' : Hp} {p : Addr} (ow : ∀ b x, w.D b = some x → t.U b) (hk : ∀ b o, t.U b → H b = some o → H' b = some o) : ∀ {sh : Sh} {fs : List (Str × V)}, Sub C w t H p sh fs → Sub C w t H' p sh fs
  | .w lo span, fs, h => h
  | .t sg, fs, h => h
  | .row ps, fs, h => by
    obtain ⟨P, T, dt, L, as, ws, h1, h2, h3, h4, h5, h6, h7, h8, h9, h10, h11, h12⟩ := h
    exact ⟨P, T, dt, L, as, ws, h1, h2, h3, h4, hk _ _ h2.2 h5, h6, h7, hk _ _ h3.2 h8, hk _ _ h4.2 h9, h10, fun i x hx => ⟨(h11 i x hx).1, (h11 i x hx).2.1, (h11 i x hx).2.2.1, hk _ _ (ow _ _ (h11 i x hx).1) (h11 i x hx).2.2.2⟩, h12⟩
  | .pick mk ps, fs, h => by
    obtain ⟨M, P, as, h1, h2, h3, h4, h5, h6, h7⟩ := h
    exact ⟨M, P, as, h1, h2, h3, hk _ _ h2.2 h4, hk _ _ h3.2 h5, h6, h7⟩
  | .many q, fs, h => h
  | .alike _ _, fs, h => h
  | .use x, fs, h => h
theorem WI.keep {C : Cs} {w : Wo} {t : Sw} {H H' : Hp} (h : WI C w t H) (hk : ∀ b o, t.U b → H b = some o → H' b = some o) : WI C w t H' := by
  refine ⟨fun p sh hr => ?_, fun b hb => ?_, h.ow, h.inj⟩
  · obtain ⟨dx, c, fs, h1, h2, h3, h4, h5, h6, h7, h8⟩ := h.at_ p sh hr
    exact ⟨dx, c, fs, h1, h2, h3, h4, hk _ _ h1.2 h5, h6, hk _ _ (h.ow _ _ h6) h7, h8.keep h.ow hk⟩
  · have := h.al b hb
    cases e : H b with
    | none => exact absurd e this
    | some o => rw [hk b o hb e]; intro z; cases z
theorem WI.same {C : Cs} {w : Wo} {t : Sw} {H H' : Hp} (h : WI C w t H) (s : Same H H') : WI C w t H' := h.keep fun b o _ e => s _ _ e
theorem WI.new {C : Cs} {w : Wo} {t : Sw} {H : Hp} (h : WI C w t H) {a : Addr} (ha : H a = none) : w.D a = none ∧ ¬ t.U a := by
  have n : ¬ t.U a := fun z => h.al a z ha
  refine ⟨?_, n⟩
  cases e : w.D a with
  | none => rfl
  | some x => exact absurd (h.ow a x e) n
theorem WI.loc {C : Cs} {w : Wo} {t : Sw} {H : Hp} (h : WI C w t H) {a : Addr} (ha : ¬ t.U a) (o : HO) : WI C w t (upd H a o) := h.keep fun b u hb e => by rw [upd_ne fun z => ha (by rw [← z]; exact hb)]; exact e
def Sw.setn (t : Sw) (p : Addr) (n : Nat) : Sw := { t with ns := fun q => if q = p then n else t.ns q }
def Sw.setm (t : Sw) (p : Addr) (i n : Nat) : Sw := { t with ms := fun q j => if q = p ∧ i ≤ j then n else t.ms q j }
theorem Sub.setn {C : Cs} {w : Wo} {t : Sw} {H : Hp} {p q c : Addr} {n : Nat} {o : HO} (hc : w.D c = some (q, 0)) : ∀ {sh : Sh} {fs : List (Str × V)}, (p = q → ∀ ps, sh = .row ps → ∀ i, n ≤ t.ms p i) → Sub C w t H p sh fs → Sub C w (t.setn q n) (upd H c o) p sh fs
  | .w lo span, fs, _, h => h
  | .t sg, fs, _, h => h
  | .row ps, fs, hful, h => by
    obtain ⟨P, T, dt, L, as, ws, h1, h2, h3, h4, h5, h6, h7, h8, h9, h10, h11, h12⟩ := h
    have ne : ∀ {b : Addr}, w.D b = none → b ≠ c := fun e z => by rw [z, hc] at e; cases e
    refine ⟨P, T, dt, L, as, ws, h1, h2, h3, h4, (upd_ne (ne h2.1)).trans h5, h6, h7, (upd_ne (ne h3.1)).trans h8, (upd_ne (ne h4.1)).trans h9, h10, fun i x hx => ⟨(h11 i x hx).1, ?_, (h11 i x hx).2.2.1, ?_⟩, h12⟩
    · show (if p = q then n else t.ns p) ≤ t.ms p i
      by_cases e : p = q
      · rw [if_pos e]; exact hful e ps rfl i
      · rw [if_neg e]; exact (h11 i x hx).2.1
    · rw [upd_ne fun z => by have := (h11 i x hx).1; rw [z, hc] at this; injection this with this; injection this with _ this; omega]
      exact (h11 i x hx).2.2.2
  | .pick mk ps, fs, _, h => by
    obtain ⟨M, P, as, h1, h2, h3, h4, h5, h6, h7⟩ := h
    have ne : ∀ {b : Addr}, w.D b = none → b ≠ c := fun e z => by rw [z, hc] at e; cases e
    exact ⟨M, P, as, h1, h2, h3, (upd_ne (ne h2.1)).trans h4, (upd_ne (ne h3.1)).trans h5, h6, h7⟩
  | .many q, fs, _, h => h
  | .alike _ _, fs, _, h => h
  | .use x, fs, _, h => h
theorem WI.count {C : Cs} {w : Wo} {t : Sw} {H : Hp} (h : WI C w t H) {p c : Addr} {sh : Sh} (hr : w.reg p = some sh) (hc : w.D c = some (p, 0)) (hn : t.ns p < 60) (hful : ∀ ps, sh = .row ps → ∀ i, t.ns p + 1 ≤ t.ms p i) : WI C w (t.setn p (t.ns p + 1)) (upd H c (.lst (cnts (cnt w.bk sh) (t.ns p + 1)))) := by
  refine ⟨fun q sh' hr' => ?_, fun b hb => ?_, h.ow, h.inj⟩
  · obtain ⟨dx, c', fs, h1, h2, h3, h4, h5, h6, h7, h8⟩ := h.at_ q sh' hr'
    have n1 : q ≠ c := fun z => by have := h1.1; rw [z, hc] at this; cases this
    refine ⟨dx, c', fs, h1, h2, h3, ?_, (upd_ne n1).trans h5, h6, ?_, h8.setn hc fun e ps e2 => ?_⟩
    · show (if q = p then _ else t.ns q) ≤ 60
      split <;> omega
    · show _ = some (HO.lst (cnts _ (if q = p then _ else t.ns q)))
      by_cases e : q = p
      · subst e
        rw [hr] at hr'
        have := Option.some.inj hr'
        subst this
        rw [if_pos rfl]
        rw [h.inj _ _ _ h6 hc, upd_same]
      · rw [if_neg e, upd_ne fun z => e (by rw [z, hc] at h6; injection h6 with h6; injection h6 with h6 _; exact h6.symm)]
        exact h7
    · subst e
      rw [hr] at hr'
      exact hful ps ((Option.some.inj hr').trans e2)
  · by_cases e : b = c
    · rw [e, upd_same]; intro z; cases z
    · rw [upd_ne e]; exact h.al b hb
theorem Sub.setm {C : Cs} {w : Wo} {t : Sw} {H : Hp} (inj : ∀ b b' x, w.D b = some x → w.D b' = some x → b = b') {p q y : Addr} {i : Nat} {qs : List Sh} {f : Nat → Int} (hq : w.reg q = some (.row qs)) (hc : w.D y = some (q, i + 1)) (hf : f = rowc w.bk (qs.drop i)) (hm : t.ms q i < 60) (hj : ∀ j, i < j → j ≤ qs.length → t.ms q j = t.ms q i + 1) : ∀ {sh : Sh} {fs : List (Str × V)}, w.reg p = some sh → Sub C w t H p sh fs → Sub C w (t.setm q i (t.ms q i + 1)) (upd H y (.lst (cnts f (t.ms q i + 1)))) p sh fs
  | .w lo span, fs, _, h => h
  | .t sg, fs, _, h => h
  | .row ps, fs, hp, h => by
    obtain ⟨P, T, dt, L, as, ws, h1, h2, h3, h4, h5, h6, h7, h8, h9, h10, h11, h12⟩ := h
    have ne : ∀ {b : Addr}, w.D b = none → b ≠ y := fun e z => by rw [z, hc] at e; cases e
    refine ⟨P, T, dt, L, as, ws, h1, h2, h3, h4, (upd_ne (ne h2.1)).trans h5, h6, h7, (upd_ne (ne h3.1)).trans h8, (upd_ne (ne h4.1)).trans h9, h10, fun j x hx => ⟨(h11 j x hx).1, ?_, ?_, ?_⟩, h12⟩
    · show t.ns p ≤ (if p = q ∧ i ≤ j then _ else t.ms p j)
      have := (h11 j x hx).2.1
      split
      · rename_i e
        obtain ⟨rfl, hij⟩ := e
        rw [hq] at hp
        have := Sh.row.inj (Option.some.inj hp)
        subst this
        have hl := (List.getElem?_eq_some_iff.mp hx).1
        by_cases e2 : j = i
        · subst e2; omega
        · rw [← hj j (by omega) (by omega)]; exact (h11 j x hx).2.1
      · exact this
    · show (if p = q ∧ i ≤ j then _ else t.ms p j) ≤ 60
      have := (h11 j x hx).2.2.1
      split <;> omega
    · show _ = some (HO.lst (cnts _ (if p = q ∧ i ≤ j then _ else t.ms p j)))
      by_cases e : p = q ∧ i ≤ j
      · obtain ⟨rfl, hij⟩ := e
        rw [hq] at hp
        have := Sh.row.inj (Option.some.inj hp)
        subst this
        rw [if_pos ⟨rfl, hij⟩]
        by_cases e2 : j = i
        · subst e2
          rw [inj _ _ _ (h11 j x hx).1 hc, upd_same, hf]
        · have hl := (List.getElem?_eq_some_iff.mp hx).1
          rw [upd_ne fun z => e2 ?_, ← hj j (by omega) (by omega)]
          · exact (h11 j x hx).2.2.2
          · have := (h11 j x hx).1
            rw [z, hc] at this
            injection this with this
            injection this with t1 t2
            omega
      · rw [if_neg e, upd_ne fun z => e ?_]
        · exact (h11 j x hx).2.2.2
        · have := (h11 j x hx).1
          rw [z, hc] at this
          injection this with this
          injection this with t1 t2
          exact ⟨t1.symm, by omega⟩
  | .pick mk ps, fs, _, h => by
    obtain ⟨M, P, as, h1, h2, h3, h4, h5, h6, h7⟩ := h
    have ne : ∀ {b : Addr}, w.D b = none → b ≠ y := fun e z => by rw [z, hc] at e; cases e
    exact ⟨M, P, as, h1, h2, h3, (upd_ne (ne h2.1)).trans h4, (upd_ne (ne h3.1)).trans h5, h6, h7⟩
  | .many q, fs, _, h => h
  | .alike _ _, fs, _, h => h
  | .use x, fs, _, h => h
theorem WI.way {C : Cs} {w : Wo} {t : Sw} {H : Hp} (h : WI C w t H) {q y : Addr} {i : Nat} {qs : List Sh} (hq : w.reg q = some (.row qs)) (hc : w.D y = some (q, i + 1)) (hm : t.ms q i < 60) (hj : ∀ j, i < j → j ≤ qs.length → t.ms q j = t.ms q i + 1) : WI C w (t.setm q i (t.ms q i + 1)) (upd H y (.lst (cnts (rowc w.bk (qs.drop i)) (t.ms q i + 1)))) := by
  refine ⟨fun p sh hp => ?_, fun b hb => ?_, h.ow, h.inj⟩
  · obtain ⟨dx, c, fs, h1, h2, h3, h4, h5, h6, h7, h8⟩ := h.at_ p sh hp
    have n1 : p ≠ y := fun z => by have := h1.1; rw [z, hc] at this; cases this
    have n2 : c ≠ y := fun z => by rw [z, hc] at h6; injection h6 with h6; injection h6 with _ h6; omega
    exact ⟨dx, c, fs, h1, h2, h3, h4, (upd_ne n1).trans h5, h6, (upd_ne n2).trans h7, h8.setm h.inj hq hc rfl hm hj hp⟩
  · by_cases e : b = y
    · rw [e, upd_same]; intro z; cases z
    · rw [upd_ne e]; exact h.al b hb
def bnd (s d : Nat) (sh : Sh) : Nat := if dep sh < d then s + 1 else s
def Uni (t : Sw) (p : Addr) : Prop := ∀ i, t.ms p i = t.ms p 0
structure Gr1 (t t' : Sw) (p : Addr) (b : Nat) : Prop where
  up : t.ns p ≤ t'.ns p
  le : t'.ns p ≤ max (t.ns p) b
  no : b ≤ t.ns p → t'.ms p = t.ms p
  un : Uni t p → Uni t' p
theorem Gr1.refl (t : Sw) (p : Addr) (b : Nat) : Gr1 t t p b := ⟨Nat.le_refl _, Nat.le_max_left _ _, fun _ => rfl, fun h => h⟩
theorem Gr1.trans {t t1 t2 : Sw} {p : Addr} {b : Nat} (a : Gr1 t t1 p b) (c : Gr1 t1 t2 p b) : Gr1 t t2 p b := by
  have h1 := a.up
  have h2 := c.up
  have h3 := a.le
  have h4 := c.le
  exact ⟨by omega, by omega, fun h => by rw [c.no (by omega), a.no h], fun h => c.un (a.un h)⟩
theorem Gr1.mono {t t1 : Sw} {p : Addr} {b b' : Nat} (a : Gr1 t t1 p b) (h : b ≤ b') : Gr1 t t1 p b' := ⟨a.up, by have := a.le; omega, fun z => a.no (by omega), a.un⟩
theorem bnd_mono {s d s' d' : Nat} (h : s' < s ∨ (s' = s ∧ d' ≤ d)) (sh : Sh) : bnd s' d' sh ≤ bnd s d sh := by
  unfold bnd
  split <;> split <;> omega
def Fr (w : Wo) (H H' : Hp) : Prop := ∀ b o, w.D b = none → H b = some o → H' b = some o
structure Tr (C : Cs) (w : Wo) (t : Sw) (H : Hp) (t' : Sw) (H' : Hp) (s d : Nat) : Prop where
  wi : WI C w t' H'
  fr : Fr w H H'
  gr : ∀ p sh, w.reg p = some sh → Gr1 t t' p (bnd s d sh)
  u1 : ∀ b, t.U b → t'.U b
  u2 : ∀ b, t'.U b → t.U b ∨ H b = none
def Ready (w : Wo) (t : Sw) (s d : Nat) : Prop := ∀ p sh, w.reg p = some sh → t.ns p < bnd s d sh → Uni t p
theorem Ready.mono {w : Wo} {t : Sw} {s d s' d' : Nat} (h : Ready w t s d) (c : s' < s ∨ (s' = s ∧ d' ≤ d)) : Ready w t s' d' := fun p sh hr hn => h p sh hr (Nat.lt_of_lt_of_le hn (bnd_mono c sh))
theorem Tr.refl {C : Cs} {w : Wo} {t : Sw} {H : Hp} (h : WI C w t H) (s d : Nat) : Tr C w t H t H s d := ⟨h, fun _ _ _ e => e, fun p sh _ => .refl _ _ _, fun _ h => h, fun _ h => .inl h⟩
theorem Tr.alloc {C : Cs} {w : Wo} {t t' : Sw} {H H' : Hp} {s d : Nat} (T : Tr C w t H t' H' s d) {b : Addr} {o : HO} (h : H b = some o) : H' b ≠ none := by
  cases e : w.D b with
  | none => rw [T.fr b o e h]; intro z; cases z
  | some x => exact T.wi.al b (T.wi.ow b x e)
theorem Tr.trans {C : Cs} {w : Wo} {t t1 t2 : Sw} {H H1 H2 : Hp} {s d : Nat} (a : Tr C w t H t1 H1 s d) (b : Tr C w t1 H1 t2 H2 s d) : Tr C w t H t2 H2 s d :=
  ⟨b.wi, fun c o e h => b.fr c o e (a.fr c o e h), fun p sh hr => (a.gr p sh hr).trans (b.gr p sh hr), fun c h => b.u1 c (a.u1 c h), fun c h => by
    rcases b.u2 c h with h | h
    · exact a.u2 c h
    · cases e : H c with
      | none => exact .inr rfl
      | some o => exact absurd h (a.alloc e)⟩
theorem Tr.mono {C : Cs} {w : Wo} {t t1 : Sw} {H H1 : Hp} {s d s' d' : Nat} (a : Tr C w t H t1 H1 s' d') (c : s' < s ∨ (s' = s ∧ d' ≤ d)) : Tr C w t H t1 H1 s d := ⟨a.wi, a.fr, fun p sh hr => (a.gr p sh hr).mono (bnd_mono c sh), a.u1, a.u2⟩
theorem Tr.same {C : Cs} {w : Wo} {t t1 : Sw} {H H1 H2 : Hp} {s d : Nat} (a : Tr C w t H t1 H1 s d) (b : Same H1 H2) : Tr C w t H t1 H2 s d := ⟨a.wi.same b, fun c o e h => b _ _ (a.fr c o e h), a.gr, a.u1, a.u2⟩
theorem Tr.put {C : Cs} {w : Wo} {t t1 : Sw} {H H1 : Hp} {s d : Nat} (a : Tr C w t H t1 H1 s d) {x : Addr} (h : H x = none) (n : ¬ t1.U x) (o : HO) : Tr C w t H t1 (upd H1 x o) s d := ⟨a.wi.loc n o, fun c u e z => by rw [upd_ne (ne_of_none z h)]; exact a.fr c u e z, a.gr, a.u1, a.u2⟩
theorem Tr.ready {C : Cs} {w : Wo} {t t1 : Sw} {H H1 : Hp} {s d s' d' : Nat} (a : Tr C w t H t1 H1 s' d') (r : Ready w t s d) : Ready w t1 s d := fun p sh hr hn => (a.gr p sh hr).un (r p sh hr (Nat.lt_of_le_of_lt (a.gr p sh hr).up hn))
theorem Tr.ours {C : Cs} {w : Wo} {t t1 : Sw} {H H1 : Hp} {s d : Nat} (a : Tr C w t H t1 H1 s d) {x : Addr} {o : HO} (n : ¬ t.U x) (h : H x = some o) : ¬ t1.U x := fun z => by
  rcases a.u2 x z with z | z
  · exact n z
  · rw [h] at z; cases z
structure TrB (C : Cs) (w : Wo) (t : Sw) (H : Hp) (t' : Sw) (H' : Hp) (s d : Nat) (p : Addr) : Prop where
  wi : WI C w t' H'
  fr : Fr w H H'
  gr : ∀ q sh, w.reg q = some sh → q ≠ p → Gr1 t t' q (bnd s d sh)
  own : t'.ns p = t.ns p
  u1 : ∀ b, t.U b → t'.U b
  u2 : ∀ b, t'.U b → t.U b ∨ H b = none
theorem Tr.b {C : Cs} {w : Wo} {t t' : Sw} {H H' : Hp} {s d : Nat} {p : Addr} (T : Tr C w t H t' H' s d) (h : t'.ns p = t.ns p) : TrB C w t H t' H' s d p := ⟨T.wi, T.fr, fun q sh hq _ => T.gr q sh hq, h, T.u1, T.u2⟩
theorem TrB.trans {C : Cs} {w : Wo} {t t1 t2 : Sw} {H H1 H2 : Hp} {s d : Nat} {p : Addr} (a : TrB C w t H t1 H1 s d p) (b : TrB C w t1 H1 t2 H2 s d p) : TrB C w t H t2 H2 s d p :=
  ⟨b.wi, fun c o e h => b.fr c o e (a.fr c o e h), fun q sh hr n => (a.gr q sh hr n).trans (b.gr q sh hr n), b.own.trans a.own, fun c h => b.u1 c (a.u1 c h), fun c h => by
    rcases b.u2 c h with h | h
    · exact a.u2 c h
    · cases e : H c with
      | none => exact .inr rfl
      | some o =>
        exfalso
        cases e2 : w.D c with
        | none => rw [a.fr c o e2 e] at h; cases h
        | some x => exact a.wi.al c (a.wi.ow c x e2) h⟩
theorem TrB.same {C : Cs} {w : Wo} {t t1 : Sw} {H H1 H2 : Hp} {s d : Nat} {p : Addr} (a : TrB C w t H t1 H1 s d p) (b : Same H1 H2) : TrB C w t H t1 H2 s d p := ⟨a.wi.same b, fun c o e h => b _ _ (a.fr c o e h), a.gr, a.own, a.u1, a.u2⟩
theorem TrB.ready {C : Cs} {w : Wo} {t t1 : Sw} {H H1 : Hp} {s d s' d' : Nat} {p : Addr} {sh : Sh} (a : TrB C w t H t1 H1 s' d' p) (hg : w.reg p = some sh) (hb : bnd s d sh ≤ t.ns p) (r : Ready w t s d) : Ready w t1 s d := fun q sh' hr hn => by
  by_cases e : q = p
  · subst e
    rw [hg] at hr
    have := Option.some.inj hr
    subst this
    have := a.own
    omega
  · exact (a.gr q sh' hr e).un (r q sh' hr (Nat.lt_of_le_of_lt (a.gr q sh' hr e).up hn))
theorem TrB.way {C : Cs} {w : Wo} {t t1 : Sw} {H H1 : Hp} {s d i : Nat} {p y : Addr} {ps : List Sh} (a : TrB C w t H t1 H1 s d p) (hg : w.reg p = some (.row ps)) (hc : w.D y = some (p, i + 1)) (hi : t1.ms p i = s) (hs : s < 60) (hj : ∀ j, i < j → j ≤ ps.length → t1.ms p j = s + 1) : TrB C w t H (t1.setm p i (s + 1)) (upd H1 y (.lst (cnts (rowc w.bk (ps.drop i)) (s + 1)))) s d p := by
  have W := a.wi.way hg hc (by omega) (fun j h1 h2 => by rw [hi]; exact hj j h1 h2)
  rw [hi] at W
  refine ⟨W, fun b o e h => ?_, fun q sh hq n => ?_, a.own, a.u1, a.u2⟩
  · rw [upd_ne fun z => by rw [z, hc] at e; cases e]
    exact a.fr b o e h
  · have g := a.gr q sh hq n
    have e : (t1.setm p i (s + 1)).ms q = t1.ms q := by
      funext j
      exact if_neg fun z => n z.1
    exact ⟨g.up, g.le, fun h => by rw [e]; exact g.no h, fun h j => by rw [e]; exact g.un h j⟩
theorem TrB.to {C : Cs} {w : Wo} {t t1 : Sw} {H H1 : Hp} {s d : Nat} {p : Addr} {sh : Sh} (a : TrB C w t H t1 H1 s d p) (hg : w.reg p = some sh) (hd : dep sh < d) (hn : t.ns p ≤ s) (hu : Uni t1 p) : Tr C w t H t1 H1 s d := by
  refine ⟨a.wi, a.fr, fun q sh' hq => ?_, a.u1, a.u2⟩
  by_cases e : q = p
  · subst e
    rw [hg] at hq
    have := Option.some.inj hq
    subst this
    have eb : bnd s d sh = s + 1 := if_pos hd
    rw [eb]
    have := a.own
    exact ⟨by omega, by omega, fun z => by omega, fun _ => hu⟩
  · exact a.gr q sh' hq e
def kind : Sh → Nat
  | .w _ _ => 0
  | .t _ => 1
  | .row _ => 2
  | .pick _ _ => 3
  | .many _ => 4
  | .use _ => 5
  | .alike _ _ => 6
def isF (m : Str) : Bool := (m == ("counts" : Str)) || (m == ("low" : Str)) || (m == ("span" : Str)) || (m == ("signs" : Str)) || (m == ("parts" : Str)) || (m == ("table" : Str)) || (m == ("ways" : Str)) || (m == ("marks" : Str)) || (m == ("part" : Str)) || (m == ("named" : Str))
theorem isF_no {m : Str} (h : isF m = false) : (m == ("counts" : Str)) = false ∧ (m == ("low" : Str)) = false ∧ (m == ("span" : Str)) = false ∧ (m == ("signs" : Str)) = false ∧ (m == ("parts" : Str)) = false ∧ (m == ("table" : Str)) = false ∧ (m == ("ways" : Str)) = false ∧ (m == ("marks" : Str)) = false ∧ (m == ("part" : Str)) = false ∧ (m == ("named" : Str)) = false := by
  unfold isF at h
  simp only [Bool.or_eq_false_iff] at h
  obtain ⟨⟨⟨⟨⟨⟨⟨⟨⟨a, b⟩, c⟩, d⟩, e⟩, f⟩, g⟩, i⟩, j⟩, k⟩ := h
  exact ⟨a, b, c, d, e, f, g, i, j, k⟩
theorem mf_counts (c : Addr) (fs : List (Str × V)) : (mf c fs).lookup ("counts" : Str) = some (.ref c) := rfl
theorem sub_no {C : Cs} {w : Wo} {t : Sw} {H : Hp} {p c : Addr} {m : Str} (hm : isF m = false) : ∀ {sh : Sh} {fs : List (Str × V)}, Sub C w t H p sh fs → (mf c fs).lookup m = none := by
  obtain ⟨a1, a2, a3, a4, a5, a6, a7, a8, a9, a10⟩ := isF_no hm
  intro sh fs h
  unfold mf
  rw [List.lookup_cons, a1]
  cases sh with
  | w lo span =>
    have h : fs = _ := h
    subst h
    unfold fW
    rw [List.lookup_cons, a2, List.lookup_cons, a3]; rfl
  | t sg =>
    obtain ⟨rfl, _⟩ := h
    unfold fT
    rw [List.lookup_cons, a4]; rfl
  | row ps =>
    obtain ⟨P, T, dt, L, as, ws, rfl, _⟩ := h
    unfold fR
    rw [List.lookup_cons, a5, List.lookup_cons, a6]; rfl
  | pick mk ps =>
    obtain ⟨M, P, as, rfl, _⟩ := h
    unfold fP
    rw [List.lookup_cons, a8, List.lookup_cons, a5]; rfl
  | many q =>
    obtain ⟨a, rfl, _⟩ := h
    unfold fM
    rw [List.lookup_cons, a9]; rfl
  | alike q n => cases h
  | use x =>
    obtain ⟨a, rfl, _⟩ := h
    unfold fU
    rw [List.lookup_cons, a10]; rfl
def fu (w : Wo) (s d : Nat) : Nat := 5 * (s * (w.M + 1) + d)
theorem fu_mono {w : Wo} {s d s' d' : Nat} (hd : d' ≤ w.M) (h : s' < s ∨ (s' = s ∧ d' < d)) : fu w s' d' + 5 ≤ fu w s d := by
  unfold fu
  rcases h with h | ⟨rfl, h⟩
  · have := Nat.mul_le_mul_right (w.M + 1) (show s' + 1 ≤ s from h)
    rw [Nat.add_mul] at this
    omega
  · omega
def Zt (C : Cs) (k l : Nat) : Sp := fun vs H Q _ => ∃ (w : Wo) (t : Sw) (p : Addr) (sh : Sh) (s : Nat), vs = [.ref p, .int s] ∧ kind sh = k ∧ WI C w t H ∧ w.reg p = some sh ∧ 1 ≤ l ∧ s ≤ 40 ∧ (s < t.ns p → Q (.int (cnt w.bk sh s)) H) ∧
  (t.ns p ≤ s → fu w s (dep sh) + 5 ≤ l ∧ Ready w t s (dep sh + 1) ∧ ∀ t' H', Tr C w t H t' H' s (dep sh + 1) → t'.ns p = s + 1 → Q (.int (cnt w.bk sh s)) H')
def sp_reck (C : Cs) (k l : Nat) : Sp := fun vs H Q _ => ∃ (w : Wo) (t : Sw) (p : Addr) (sh : Sh) (s : Nat), vs = [.ref p, .int s] ∧ kind sh = k ∧ WI C w t H ∧ w.reg p = some sh ∧ t.ns p = s ∧ s ≤ 40 ∧ fu w s (dep sh) + 4 ≤ l ∧ Ready w t s (dep sh + 1) ∧
  ∀ t' H', Tr C w t H t' H' s (dep sh + 1) → t'.ns p = s → (∀ ps, sh = .row ps → ∀ i, s + 1 ≤ t'.ms p i) → Q (.int (cnt w.bk sh s)) H'
theorem ZH {C : Cs} {k : Nat} {vs : List V} {H : Hp} {Q : VK} {E : XK} (h : Zt C k 0 vs H Q E) : False := by
  obtain ⟨w, t, p, sh, s, _, _, _, _, h, _⟩ := h
  omega
theorem no_reck {C : Cs} {k : Nat} {vs : List V} {H : Hp} {Q : VK} {E : XK} (h : sp_reck C k 0 vs H Q E) : False := by
  obtain ⟨w, t, p, sh, s, _, _, _, _, _, _, h, _⟩ := h
  omega
theorem Tr.own {C : Cs} {w : Wo} {t t' : Sw} {H H' : Hp} {s d : Nat} (T : Tr C w t H t' H' s d) {p : Addr} {sh : Sh} (hr : w.reg p = some sh) (hd : d ≤ dep sh) (hs : s ≤ t.ns p) : t'.ns p = t.ns p ∧ t'.ms p = t.ms p := by
  have g := T.gr p sh hr
  have e : bnd s d sh = s := if_neg (by omega)
  rw [e] at g
  have h1 := g.up
  have h2 := g.le
  exact ⟨by omega, g.no hs⟩
theorem Tr.count {C : Cs} {w : Wo} {t t' : Sw} {H H' : Hp} {s j : Nat} {sh : Sh} {p c : Addr} (T : Tr C w t H t' H' s (dep sh + 1)) (hr : w.reg p = some sh) (hc : w.D c = some (p, 0)) (hj : t'.ns p = j) (hjs : j ≤ s) (hs : s ≤ 40) (hful : ∀ ps, sh = .row ps → ∀ i, j + 1 ≤ t'.ms p i) : Tr C w t H (t'.setn p (j + 1)) (upd H' c (.lst (cnts (cnt w.bk sh) (j + 1)))) s (dep sh + 1) := by
  subst hj
  refine ⟨T.wi.count hr hc (by omega) hful, fun b o e h => ?_, fun q sh' hq => ?_, T.u1, T.u2⟩
  · rw [upd_ne fun z => by rw [z, hc] at e; cases e]
    exact T.fr b o e h
  · have g := T.gr q sh' hq
    by_cases e : q = p
    · subst e
      rw [hr] at hq
      have := Option.some.inj hq
      subst this
      have eb : bnd s (dep sh + 1) sh = s + 1 := if_pos (by omega)
      rw [eb] at g ⊢
      have h1 := g.up
      have en : (t'.setn q (t'.ns q + 1)).ns q = t'.ns q + 1 := if_pos rfl
      exact ⟨by rw [en]; omega, by rw [en]; omega, fun h => by omega, g.un⟩
    · have en : (t'.setn p (t'.ns p + 1)).ns q = t'.ns q := if_neg e
      exact ⟨by rw [en]; exact g.up, by rw [en]; exact g.le, g.no, g.un⟩
variable {m : Nat}
theorem fu_le {w : Wo} {s d s' : Nat} (h : s' ≤ s) : fu w s' d ≤ fu w s d := by
  unfold fu
  have := Nat.mul_le_mul_right (w.M + 1) h
  omega
theorem Z0Z {k : Nat} {Z7 Z2 Z1 Z4 Z6 Z3 Z5 Z0 : Addr} (R : g.RawM Z0 "count_at" "Maker.count_at" Z0m ["self", "size"]) (Z2s : g.Me k Z0 "reckoned" ["self", "size"] (sp_reck (Cs.mk Z0 Z3 Z4 Z6 Z2 Z1 Z5) 0 m)) (b_len : g.mg "len" = none) (Zg : Cls g.K Z0) (Z8 : NoAttr g.K Z0 "counts") (Zr : NoAttr g.K Z0 "low") (Zl : NoAttr g.K Z0 "span") : g.Me (k + 1) Z0 "count_at" ["self", "size"] (Zt (Cs.mk Z0 Z3 Z4 Z6 Z2 Z1 Z5) 0 (m + 1)) := by
  refine R.me Z2b (fun vs H Q E h => by obtain ⟨w, t, p, sh, sz, rfl, hk, W, hg, hl, hs, q1, q2⟩ := h; rfl) fun f_ cdv A outer s H vs Q E hr h => ?_
  obtain ⟨w, t, p, sh, sz, rfl, hk, W, hg, hl, hs, q1, q2⟩ := h
  refine ⟨_, (@pss_cons _ _ _ _ _ (@ps_while _ _ _ _ _ _ PassesOwn.never (@pt_cmpR _ _ _ _ _ _ _ _ op_le (@pe_bf _ _ _ _ _ _ _ _ _ _ b_len call_len_seq (@pa_cons _ _ _ _ _ (@pe_fld _ _ _ _ _ (@pv _ 0 _ _ (by rfl) (by first | exact Or.inl rfl | exact Or.inr (Or.inl rfl) | exact Or.inr (Or.inr rfl)) (by decide) (by decide)) rfl) pa_nil (by rfl)) (by decide +kernel) (by rfl) (by rfl) (by decide) (by decide) (by rfl) (by rfl)) (@pv _ 1 _ _ (by rfl) (by first | exact Or.inl rfl | exact Or.inr (Or.inl rfl) | exact Or.inr (Or.inr rfl)) (by decide) (by decide)) (nomark _)) (@pss_one _ _ _ (@ps_expr _ _ _ _ (@pe_bm _ _ _ _ _ _ _ _ _ _ _ _ PySem.F.plainAttrs_list PySem.F.slot_list_append PySem.F.type_list_append mt_append (@pe_fld _ _ _ _ _ (@pv _ 0 _ _ (by rfl) (by first | exact Or.inl rfl | exact Or.inr (Or.inl rfl) | exact Or.inr (Or.inr rfl)) (by decide) (by decide)) rfl) (@pa_cons _ _ _ _ _ (@pe_me _ _ _ _ _ _ _ _ _ _ _ _ _ _ _ _ Z2s Zg hr (@pv _ 0 _ _ (by rfl) (by first | exact Or.inl rfl | exact Or.inr (Or.inl rfl) | exact Or.inr (Or.inr rfl)) (by decide) (by decide)) (@pa_cons _ _ _ _ _ (@pe_bf _ _ _ _ _ _ _ _ _ _ b_len call_len_seq (@pa_cons _ _ _ _ _ (@pe_fld _ _ _ _ _ (@pv _ 0 _ _ (by rfl) (by first | exact Or.inl rfl | exact Or.inr (Or.inl rfl) | exact Or.inr (Or.inr rfl)) (by decide) (by decide)) rfl) pa_nil (by rfl)) (by decide +kernel) (by rfl) (by rfl) (by decide) (by decide) (by rfl) (by rfl)) pa_nil (by rfl)) (by omega) (by rfl) (by rfl) (by rfl) (by rfl)) pa_nil (by rfl)) (by rfl) (by rfl) (by rfl) (by rfl) (by rfl)) (by rfl)))) (@pss_one _ _ _ (@ps_ret _ _ _ _ (@pe_ix _ _ _ _ _ _ _ ix_list (@pe_fld _ _ _ _ _ (@pv _ 0 _ _ (by rfl) (by first | exact Or.inl rfl | exact Or.inr (Or.inl rfl) | exact Or.inr (Or.inr rfl)) (by decide) (by decide)) rfl) (@pv _ 1 _ _ (by rfl) (by first | exact Or.inl rfl | exact Or.inr (Or.inl rfl) | exact Or.inr (Or.inr rfl)) (by decide) (by decide)) (fun _ _ => rfl))))), ?_⟩
  walk_at "rd"
  have hC : clsO (Cs.mk Z0 Z3 Z4 Z6 Z2 Z1 Z5) sh = Z0 := by cases sh <;> first | rfl | (simp [kind] at hk)
  by_cases cs : sz < t.ns p
  · obtain ⟨dx, c, fs, hU, hd, hsm, hns, hp, hDc, hc, hsub⟩ := W.at_ p sh hg
    rw [hC] at hp
    refine while_of (α := Unit) (fun x σ H' => σ = [some (.ref p), some (.int sz)] ∧ H = H') (fun x => false) (fun x => 0) () ⟨rfl, rfl⟩ ?_ ?_ ?_
    · rintro x σ H' ⟨rfl, rfl⟩ R r
      walk_at "rd"
      refine ⟨_, _, _, hp, Zg, Z8, _, mf_counts _ _, _, rfl, _, .inl (SqL.of hc), ?_⟩
      rw [cnts_len, dle, decide_eq_false (by omega)]
      exact r H ⟨rfl, rfl⟩
    · rintro x σ H' ⟨rfl, rfl⟩ hd
      cases hd
    · rintro x σ H' ⟨rfl, rfl⟩ hd
      walk_at "rd"
      exact ⟨_, _, _, hp, Zg, Z8, _, mf_counts _ _, _, rfl, _, SqL.of hc, _, cnts_at _ cs, q1 cs⟩
  · obtain ⟨hfu, hRd, q⟩ := q2 (by omega)
    refine while_of (α := Sw) (fun x σ H' => σ = [some (.ref p), some (.int sz)] ∧ Tr (Cs.mk Z0 Z3 Z4 Z6 Z2 Z1 Z5) w t H x H' sz (dep sh + 1) ∧ x.ns p ≤ sz + 1) (fun x => decide (x.ns p ≤ sz)) (fun x => sz + 1 - x.ns p) t ⟨rfl, .refl W _ _, by omega⟩ ?_ ?_ ?_
    · rintro x σ H' ⟨rfl, T, hx⟩ R r
      obtain ⟨dx, c, fs, hU, hd, hsm, hns, hp, hDc, hc, hsub⟩ := T.wi.at_ p sh hg
      rw [hC] at hp
      walk_at "rd"
      refine ⟨_, _, _, hp, Zg, Z8, _, mf_counts _ _, _, rfl, _, .inl (SqL.of hc), ?_⟩
      rw [cnts_len, dle]
      exact r H' ⟨rfl, T, hx⟩
    · rintro x σ H' ⟨rfl, T, hx⟩ hd
      have hd : x.ns p ≤ sz := of_decide_eq_true hd
      obtain ⟨dx, c, fs, hU, hd', hsm, hns, hp, hDc, hc, hsub⟩ := T.wi.at_ p sh hg
      rw [hC] at hp
      walk_at "rd"
      refine ⟨_, _, _, hp, Zg, Z8, _, mf_counts _ _, .inl ⟨rfl, _, SqL.of hc⟩, _, _, hp, sub_no (by decide +kernel) hsub, _, _, _, hp, Zg, Z8, _, mf_counts _ _, _, rfl, _, .inl (SqL.of hc), ?_⟩
      rw [cnts_len]
      have hfl := fu_le (w := w) (d := dep sh) hd
      have hrd : Ready w x (x.ns p) (dep sh + 1) := (T.ready hRd).mono (by omega)
      refine ⟨w, x, p, sh, x.ns p, rfl, hk, T.wi, hg, rfl, by omega, by omega, hrd, fun t2 H2 T2 e2 hful => ?_⟩
      have T3 := T.trans (T2.mono (by omega))
      obtain ⟨dx2, c2, fs2, hU2, hd2, hsm2, hns2, hp2, hDc2, hc2, hsub2⟩ := T2.wi.at_ p sh hg
      have ec := T2.wi.inj _ _ _ hDc2 hDc
      subst ec
      rw [e2] at hc2
      have T4 := T3.count hg hDc2 e2 hd hs hful
      refine ⟨_, rfl, _, hc2, by rw [cnts_len]; exact few (by omega), t2.setn p (x.ns p + 1), ?_, ?_, ?_⟩
      · rw [← cnts_succ]; exact T4
      · show (if p = p then _ else _) ≤ _
        rw [if_pos rfl]; omega
      · show sz + 1 - (if p = p then _ else _) < _
        rw [if_pos rfl]; omega
    · rintro x σ H' ⟨rfl, T, hx⟩ hd
      have hd : ¬ x.ns p ≤ sz := of_decide_eq_false hd
      obtain ⟨dx, c, fs, hU, hd', hsm, hns, hp, hDc, hc, hsub⟩ := T.wi.at_ p sh hg
      rw [hC] at hp
      walk_at "rd"
      exact ⟨_, _, _, hp, Zg, Z8, _, mf_counts _ _, _, rfl, _, SqL.of hc, _, cnts_at _ (by omega), q x H' T (by omega)⟩
theorem Z1b {k : Nat} {Z7 Z2 Z1 Z4 Z6 Z3 Z5 Z0 : Addr} (R : g.RawM Z3 "count_at" "Maker.count_at" Z0v ["self", "size"]) (Z2R : g.Me k Z3 "reckoned" ["self", "size"] (sp_reck (Cs.mk Z0 Z3 Z4 Z6 Z2 Z1 Z5) 1 m)) (b_len : g.mg "len" = none) (Zk : Cls g.K Z3) (Z9 : NoAttr g.K Z3 "counts") (Zm : NoAttr g.K Z3 "signs") : g.Me (k + 1) Z3 "count_at" ["self", "size"] (Zt (Cs.mk Z0 Z3 Z4 Z6 Z2 Z1 Z5) 1 (m + 1)) := by
  refine R.me Z2p (fun vs H Q E h => by obtain ⟨w, t, p, sh, sz, rfl, hk, W, hg, hl, hs, q1, q2⟩ := h; rfl) fun f_ cdv A outer s H vs Q E hr h => ?_
  obtain ⟨w, t, p, sh, sz, rfl, hk, W, hg, hl, hs, q1, q2⟩ := h
  refine ⟨_, (@pss_cons _ _ _ _ _ (@ps_while _ _ _ _ _ _ PassesOwn.never (@pt_cmpR _ _ _ _ _ _ _ _ op_le (@pe_bf _ _ _ _ _ _ _ _ _ _ b_len call_len_seq (@pa_cons _ _ _ _ _ (@pe_fld _ _ _ _ _ (@pv _ 0 _ _ (by rfl) (by first | exact Or.inl rfl | exact Or.inr (Or.inl rfl) | exact Or.inr (Or.inr rfl)) (by decide) (by decide)) rfl) pa_nil (by rfl)) (by decide +kernel) (by rfl) (by rfl) (by decide) (by decide) (by rfl) (by rfl)) (@pv _ 1 _ _ (by rfl) (by first | exact Or.inl rfl | exact Or.inr (Or.inl rfl) | exact Or.inr (Or.inr rfl)) (by decide) (by decide)) (nomark _)) (@pss_one _ _ _ (@ps_expr _ _ _ _ (@pe_bm _ _ _ _ _ _ _ _ _ _ _ _ PySem.F.plainAttrs_list PySem.F.slot_list_append PySem.F.type_list_append mt_append (@pe_fld _ _ _ _ _ (@pv _ 0 _ _ (by rfl) (by first | exact Or.inl rfl | exact Or.inr (Or.inl rfl) | exact Or.inr (Or.inr rfl)) (by decide) (by decide)) rfl) (@pa_cons _ _ _ _ _ (@pe_me _ _ _ _ _ _ _ _ _ _ _ _ _ _ _ _ Z2R Zk hr (@pv _ 0 _ _ (by rfl) (by first | exact Or.inl rfl | exact Or.inr (Or.inl rfl) | exact Or.inr (Or.inr rfl)) (by decide) (by decide)) (@pa_cons _ _ _ _ _ (@pe_bf _ _ _ _ _ _ _ _ _ _ b_len call_len_seq (@pa_cons _ _ _ _ _ (@pe_fld _ _ _ _ _ (@pv _ 0 _ _ (by rfl) (by first | exact Or.inl rfl | exact Or.inr (Or.inl rfl) | exact Or.inr (Or.inr rfl)) (by decide) (by decide)) rfl) pa_nil (by rfl)) (by decide +kernel) (by rfl) (by rfl) (by decide) (by decide) (by rfl) (by rfl)) pa_nil (by rfl)) (by omega) (by rfl) (by rfl) (by rfl) (by rfl)) pa_nil (by rfl)) (by rfl) (by rfl) (by rfl) (by rfl) (by rfl)) (by rfl)))) (@pss_one _ _ _ (@ps_ret _ _ _ _ (@pe_ix _ _ _ _ _ _ _ ix_list (@pe_fld _ _ _ _ _ (@pv _ 0 _ _ (by rfl) (by first | exact Or.inl rfl | exact Or.inr (Or.inl rfl) | exact Or.inr (Or.inr rfl)) (by decide) (by decide)) rfl) (@pv _ 1 _ _ (by rfl) (by first | exact Or.inl rfl | exact Or.inr (Or.inl rfl) | exact Or.inr (Or.inr rfl)) (by decide) (by decide)) (fun _ _ => rfl))))), ?_⟩
  walk_at "rd"
  have hC : clsO (Cs.mk Z0 Z3 Z4 Z6 Z2 Z1 Z5) sh = Z3 := by cases sh <;> first | rfl | (simp [kind] at hk)
  by_cases cs : sz < t.ns p
  · obtain ⟨dx, c, fs, hU, hd, hsm, hns, hp, hDc, hc, hsub⟩ := W.at_ p sh hg
    rw [hC] at hp
    refine while_of (α := Unit) (fun x σ H' => σ = [some (.ref p), some (.int sz)] ∧ H = H') (fun x => false) (fun x => 0) () ⟨rfl, rfl⟩ ?_ ?_ ?_
    · rintro x σ H' ⟨rfl, rfl⟩ R r
      walk_at "rd"
      refine ⟨_, _, _, hp, Zk, Z9, _, mf_counts _ _, _, rfl, _, .inl (SqL.of hc), ?_⟩
      rw [cnts_len, dle, decide_eq_false (by omega)]
      exact r H ⟨rfl, rfl⟩
    · rintro x σ H' ⟨rfl, rfl⟩ hd
      cases hd
    · rintro x σ H' ⟨rfl, rfl⟩ hd
      walk_at "rd"
      exact ⟨_, _, _, hp, Zk, Z9, _, mf_counts _ _, _, rfl, _, SqL.of hc, _, cnts_at _ cs, q1 cs⟩
  · obtain ⟨hfu, hRd, q⟩ := q2 (by omega)
    refine while_of (α := Sw) (fun x σ H' => σ = [some (.ref p), some (.int sz)] ∧ Tr (Cs.mk Z0 Z3 Z4 Z6 Z2 Z1 Z5) w t H x H' sz (dep sh + 1) ∧ x.ns p ≤ sz + 1) (fun x => decide (x.ns p ≤ sz)) (fun x => sz + 1 - x.ns p) t ⟨rfl, .refl W _ _, by omega⟩ ?_ ?_ ?_
    · rintro x σ H' ⟨rfl, T, hx⟩ R r
      obtain ⟨dx, c, fs, hU, hd, hsm, hns, hp, hDc, hc, hsub⟩ := T.wi.at_ p sh hg
      rw [hC] at hp
      walk_at "rd"
      refine ⟨_, _, _, hp, Zk, Z9, _, mf_counts _ _, _, rfl, _, .inl (SqL.of hc), ?_⟩
      rw [cnts_len, dle]
      exact r H' ⟨rfl, T, hx⟩
    · rintro x σ H' ⟨rfl, T, hx⟩ hd
      have hd : x.ns p ≤ sz := of_decide_eq_true hd
      obtain ⟨dx, c, fs, hU, hd', hsm, hns, hp, hDc, hc, hsub⟩ := T.wi.at_ p sh hg
      rw [hC] at hp
      walk_at "rd"
      refine ⟨_, _, _, hp, Zk, Z9, _, mf_counts _ _, .inl ⟨rfl, _, SqL.of hc⟩, _, _, hp, sub_no (by decide +kernel) hsub, _, _, _, hp, Zk, Z9, _, mf_counts _ _, _, rfl, _, .inl (SqL.of hc), ?_⟩
      rw [cnts_len]
      have hfl := fu_le (w := w) (d := dep sh) hd
      have hrd : Ready w x (x.ns p) (dep sh + 1) := (T.ready hRd).mono (by omega)
      refine ⟨w, x, p, sh, x.ns p, rfl, hk, T.wi, hg, rfl, by omega, by omega, hrd, fun t2 H2 T2 e2 hful => ?_⟩
      have T3 := T.trans (T2.mono (by omega))
      obtain ⟨dx2, c2, fs2, hU2, hd2, hsm2, hns2, hp2, hDc2, hc2, hsub2⟩ := T2.wi.at_ p sh hg
      have ec := T2.wi.inj _ _ _ hDc2 hDc
      subst ec
      rw [e2] at hc2
      have T4 := T3.count hg hDc2 e2 hd hs hful
      refine ⟨_, rfl, _, hc2, by rw [cnts_len]; exact few (by omega), t2.setn p (x.ns p + 1), ?_, ?_, ?_⟩
      · rw [← cnts_succ]; exact T4
      · show (if p = p then _ else _) ≤ _
        rw [if_pos rfl]; omega
      · show sz + 1 - (if p = p then _ else _) < _
        rw [if_pos rfl]; omega
    · rintro x σ H' ⟨rfl, T, hx⟩ hd
      have hd : ¬ x.ns p ≤ sz := of_decide_eq_false hd
      obtain ⟨dx, c, fs, hU, hd', hsm, hns, hp, hDc, hc, hsub⟩ := T.wi.at_ p sh hg
      rw [hC] at hp
      walk_at "rd"
      exact ⟨_, _, _, hp, Zk, Z9, _, mf_counts _ _, _, rfl, _, SqL.of hc, _, cnts_at _ (by omega), q x H' T (by omega)⟩
theorem Z1n {k : Nat} {Z7 Z2 Z1 Z4 Z6 Z3 Z5 Z0 : Addr} (R : g.RawM Z4 "count_at" "Maker.count_at" Z0J ["self", "size"]) (Z3e : g.Me k Z4 "reckoned" ["self", "size"] (sp_reck (Cs.mk Z0 Z3 Z4 Z6 Z2 Z1 Z5) 2 m)) (b_len : g.mg "len" = none) (Zq : Cls g.K Z4) (Zd : NoAttr g.K Z4 "counts") (Zs : NoAttr g.K Z4 "parts") (Zp : NoAttr g.K Z4 "table") : g.Me (k + 1) Z4 "count_at" ["self", "size"] (Zt (Cs.mk Z0 Z3 Z4 Z6 Z2 Z1 Z5) 2 (m + 1)) := by
  refine R.me Z2P (fun vs H Q E h => by obtain ⟨w, t, p, sh, sz, rfl, hk, W, hg, hl, hs, q1, q2⟩ := h; rfl) fun f_ cdv A outer s H vs Q E hr h => ?_
  obtain ⟨w, t, p, sh, sz, rfl, hk, W, hg, hl, hs, q1, q2⟩ := h
  refine ⟨_, (@pss_cons _ _ _ _ _ (@ps_while _ _ _ _ _ _ PassesOwn.never (@pt_cmpR _ _ _ _ _ _ _ _ op_le (@pe_bf _ _ _ _ _ _ _ _ _ _ b_len call_len_seq (@pa_cons _ _ _ _ _ (@pe_fld _ _ _ _ _ (@pv _ 0 _ _ (by rfl) (by first | exact Or.inl rfl | exact Or.inr (Or.inl rfl) | exact Or.inr (Or.inr rfl)) (by decide) (by decide)) rfl) pa_nil (by rfl)) (by decide +kernel) (by rfl) (by rfl) (by decide) (by decide) (by rfl) (by rfl)) (@pv _ 1 _ _ (by rfl) (by first | exact Or.inl rfl | exact Or.inr (Or.inl rfl) | exact Or.inr (Or.inr rfl)) (by decide) (by decide)) (nomark _)) (@pss_one _ _ _ (@ps_expr _ _ _ _ (@pe_bm _ _ _ _ _ _ _ _ _ _ _ _ PySem.F.plainAttrs_list PySem.F.slot_list_append PySem.F.type_list_append mt_append (@pe_fld _ _ _ _ _ (@pv _ 0 _ _ (by rfl) (by first | exact Or.inl rfl | exact Or.inr (Or.inl rfl) | exact Or.inr (Or.inr rfl)) (by decide) (by decide)) rfl) (@pa_cons _ _ _ _ _ (@pe_me _ _ _ _ _ _ _ _ _ _ _ _ _ _ _ _ Z3e Zq hr (@pv _ 0 _ _ (by rfl) (by first | exact Or.inl rfl | exact Or.inr (Or.inl rfl) | exact Or.inr (Or.inr rfl)) (by decide) (by decide)) (@pa_cons _ _ _ _ _ (@pe_bf _ _ _ _ _ _ _ _ _ _ b_len call_len_seq (@pa_cons _ _ _ _ _ (@pe_fld _ _ _ _ _ (@pv _ 0 _ _ (by rfl) (by first | exact Or.inl rfl | exact Or.inr (Or.inl rfl) | exact Or.inr (Or.inr rfl)) (by decide) (by decide)) rfl) pa_nil (by rfl)) (by decide +kernel) (by rfl) (by rfl) (by decide) (by decide) (by rfl) (by rfl)) pa_nil (by rfl)) (by omega) (by rfl) (by rfl) (by rfl) (by rfl)) pa_nil (by rfl)) (by rfl) (by rfl) (by rfl) (by rfl) (by rfl)) (by rfl)))) (@pss_one _ _ _ (@ps_ret _ _ _ _ (@pe_ix _ _ _ _ _ _ _ ix_list (@pe_fld _ _ _ _ _ (@pv _ 0 _ _ (by rfl) (by first | exact Or.inl rfl | exact Or.inr (Or.inl rfl) | exact Or.inr (Or.inr rfl)) (by decide) (by decide)) rfl) (@pv _ 1 _ _ (by rfl) (by first | exact Or.inl rfl | exact Or.inr (Or.inl rfl) | exact Or.inr (Or.inr rfl)) (by decide) (by decide)) (fun _ _ => rfl))))), ?_⟩
  walk_at "rd"
  have hC : clsO (Cs.mk Z0 Z3 Z4 Z6 Z2 Z1 Z5) sh = Z4 := by cases sh <;> first | rfl | (simp [kind] at hk)
  by_cases cs : sz < t.ns p
  · obtain ⟨dx, c, fs, hU, hd, hsm, hns, hp, hDc, hc, hsub⟩ := W.at_ p sh hg
    rw [hC] at hp
    refine while_of (α := Unit) (fun x σ H' => σ = [some (.ref p), some (.int sz)] ∧ H = H') (fun x => false) (fun x => 0) () ⟨rfl, rfl⟩ ?_ ?_ ?_
    · rintro x σ H' ⟨rfl, rfl⟩ R r
      walk_at "rd"
      refine ⟨_, _, _, hp, Zq, Zd, _, mf_counts _ _, _, rfl, _, .inl (SqL.of hc), ?_⟩
      rw [cnts_len, dle, decide_eq_false (by omega)]
      exact r H ⟨rfl, rfl⟩
    · rintro x σ H' ⟨rfl, rfl⟩ hd
      cases hd
    · rintro x σ H' ⟨rfl, rfl⟩ hd
      walk_at "rd"
      exact ⟨_, _, _, hp, Zq, Zd, _, mf_counts _ _, _, rfl, _, SqL.of hc, _, cnts_at _ cs, q1 cs⟩
  · obtain ⟨hfu, hRd, q⟩ := q2 (by omega)
    refine while_of (α := Sw) (fun x σ H' => σ = [some (.ref p), some (.int sz)] ∧ Tr (Cs.mk Z0 Z3 Z4 Z6 Z2 Z1 Z5) w t H x H' sz (dep sh + 1) ∧ x.ns p ≤ sz + 1) (fun x => decide (x.ns p ≤ sz)) (fun x => sz + 1 - x.ns p) t ⟨rfl, .refl W _ _, by omega⟩ ?_ ?_ ?_
    · rintro x σ H' ⟨rfl, T, hx⟩ R r
      obtain ⟨dx, c, fs, hU, hd, hsm, hns, hp, hDc, hc, hsub⟩ := T.wi.at_ p sh hg
      rw [hC] at hp
      walk_at "rd"
      refine ⟨_, _, _, hp, Zq, Zd, _, mf_counts _ _, _, rfl, _, .inl (SqL.of hc), ?_⟩
      rw [cnts_len, dle]
      exact r H' ⟨rfl, T, hx⟩
    · rintro x σ H' ⟨rfl, T, hx⟩ hd
      have hd : x.ns p ≤ sz := of_decide_eq_true hd
      obtain ⟨dx, c, fs, hU, hd', hsm, hns, hp, hDc, hc, hsub⟩ := T.wi.at_ p sh hg
      rw [hC] at hp
      walk_at "rd"
      refine ⟨_, _, _, hp, Zq, Zd, _, mf_counts _ _, .inl ⟨rfl, _, SqL.of hc⟩, _, _, hp, sub_no (by decide +kernel) hsub, _, _, _, hp, Zq, Zd, _, mf_counts _ _, _, rfl, _, .inl (SqL.of hc), ?_⟩
      rw [cnts_len]
      have hfl := fu_le (w := w) (d := dep sh) hd
      have hrd : Ready w x (x.ns p) (dep sh + 1) := (T.ready hRd).mono (by omega)
      refine ⟨w, x, p, sh, x.ns p, rfl, hk, T.wi, hg, rfl, by omega, by omega, hrd, fun t2 H2 T2 e2 hful => ?_⟩
      have T3 := T.trans (T2.mono (by omega))
      obtain ⟨dx2, c2, fs2, hU2, hd2, hsm2, hns2, hp2, hDc2, hc2, hsub2⟩ := T2.wi.at_ p sh hg
      have ec := T2.wi.inj _ _ _ hDc2 hDc
      subst ec
      rw [e2] at hc2
      have T4 := T3.count hg hDc2 e2 hd hs hful
      refine ⟨_, rfl, _, hc2, by rw [cnts_len]; exact few (by omega), t2.setn p (x.ns p + 1), ?_, ?_, ?_⟩
      · rw [← cnts_succ]; exact T4
      · show (if p = p then _ else _) ≤ _
        rw [if_pos rfl]; omega
      · show sz + 1 - (if p = p then _ else _) < _
        rw [if_pos rfl]; omega
    · rintro x σ H' ⟨rfl, T, hx⟩ hd
      have hd : ¬ x.ns p ≤ sz := of_decide_eq_false hd
      obtain ⟨dx, c, fs, hU, hd', hsm, hns, hp, hDc, hc, hsub⟩ := T.wi.at_ p sh hg
      rw [hC] at hp
      walk_at "rd"
      exact ⟨_, _, _, hp, Zq, Zd, _, mf_counts _ _, _, rfl, _, SqL.of hc, _, cnts_at _ (by omega), q x H' T (by omega)⟩
theorem Z1c {k : Nat} {Z7 Z2 Z1 Z4 Z6 Z3 Z5 Z0 : Addr} (R : g.RawM Z1 "count_at" "Maker.count_at" Z0x ["self", "size"]) (Z2S : g.Me k Z1 "reckoned" ["self", "size"] (sp_reck (Cs.mk Z0 Z3 Z4 Z6 Z2 Z1 Z5) 3 m)) (b_len : g.mg "len" = none) (Zi : Cls g.K Z1) (Za : NoAttr g.K Z1 "counts") (Zo : NoAttr g.K Z1 "marks") (Zn : NoAttr g.K Z1 "parts") : g.Me (k + 1) Z1 "count_at" ["self", "size"] (Zt (Cs.mk Z0 Z3 Z4 Z6 Z2 Z1 Z5) 3 (m + 1)) := by
  refine R.me Z2r (fun vs H Q E h => by obtain ⟨w, t, p, sh, sz, rfl, hk, W, hg, hl, hs, q1, q2⟩ := h; rfl) fun f_ cdv A outer s H vs Q E hr h => ?_
  obtain ⟨w, t, p, sh, sz, rfl, hk, W, hg, hl, hs, q1, q2⟩ := h
  refine ⟨_, (@pss_cons _ _ _ _ _ (@ps_while _ _ _ _ _ _ PassesOwn.never (@pt_cmpR _ _ _ _ _ _ _ _ op_le (@pe_bf _ _ _ _ _ _ _ _ _ _ b_len call_len_seq (@pa_cons _ _ _ _ _ (@pe_fld _ _ _ _ _ (@pv _ 0 _ _ (by rfl) (by first | exact Or.inl rfl | exact Or.inr (Or.inl rfl) | exact Or.inr (Or.inr rfl)) (by decide) (by decide)) rfl) pa_nil (by rfl)) (by decide +kernel) (by rfl) (by rfl) (by decide) (by decide) (by rfl) (by rfl)) (@pv _ 1 _ _ (by rfl) (by first | exact Or.inl rfl | exact Or.inr (Or.inl rfl) | exact Or.inr (Or.inr rfl)) (by decide) (by decide)) (nomark _)) (@pss_one _ _ _ (@ps_expr _ _ _ _ (@pe_bm _ _ _ _ _ _ _ _ _ _ _ _ PySem.F.plainAttrs_list PySem.F.slot_list_append PySem.F.type_list_append mt_append (@pe_fld _ _ _ _ _ (@pv _ 0 _ _ (by rfl) (by first | exact Or.inl rfl | exact Or.inr (Or.inl rfl) | exact Or.inr (Or.inr rfl)) (by decide) (by decide)) rfl) (@pa_cons _ _ _ _ _ (@pe_me _ _ _ _ _ _ _ _ _ _ _ _ _ _ _ _ Z2S Zi hr (@pv _ 0 _ _ (by rfl) (by first | exact Or.inl rfl | exact Or.inr (Or.inl rfl) | exact Or.inr (Or.inr rfl)) (by decide) (by decide)) (@pa_cons _ _ _ _ _ (@pe_bf _ _ _ _ _ _ _ _ _ _ b_len call_len_seq (@pa_cons _ _ _ _ _ (@pe_fld _ _ _ _ _ (@pv _ 0 _ _ (by rfl) (by first | exact Or.inl rfl | exact Or.inr (Or.inl rfl) | exact Or.inr (Or.inr rfl)) (by decide) (by decide)) rfl) pa_nil (by rfl)) (by decide +kernel) (by rfl) (by rfl) (by decide) (by decide) (by rfl) (by rfl)) pa_nil (by rfl)) (by omega) (by rfl) (by rfl) (by rfl) (by rfl)) pa_nil (by rfl)) (by rfl) (by rfl) (by rfl) (by rfl) (by rfl)) (by rfl)))) (@pss_one _ _ _ (@ps_ret _ _ _ _ (@pe_ix _ _ _ _ _ _ _ ix_list (@pe_fld _ _ _ _ _ (@pv _ 0 _ _ (by rfl) (by first | exact Or.inl rfl | exact Or.inr (Or.inl rfl) | exact Or.inr (Or.inr rfl)) (by decide) (by decide)) rfl) (@pv _ 1 _ _ (by rfl) (by first | exact Or.inl rfl | exact Or.inr (Or.inl rfl) | exact Or.inr (Or.inr rfl)) (by decide) (by decide)) (fun _ _ => rfl))))), ?_⟩
  walk_at "rd"
  have hC : clsO (Cs.mk Z0 Z3 Z4 Z6 Z2 Z1 Z5) sh = Z1 := by cases sh <;> first | rfl | (simp [kind] at hk)
  by_cases cs : sz < t.ns p
  · obtain ⟨dx, c, fs, hU, hd, hsm, hns, hp, hDc, hc, hsub⟩ := W.at_ p sh hg
    rw [hC] at hp
    refine while_of (α := Unit) (fun x σ H' => σ = [some (.ref p), some (.int sz)] ∧ H = H') (fun x => false) (fun x => 0) () ⟨rfl, rfl⟩ ?_ ?_ ?_
    · rintro x σ H' ⟨rfl, rfl⟩ R r
      walk_at "rd"
      refine ⟨_, _, _, hp, Zi, Za, _, mf_counts _ _, _, rfl, _, .inl (SqL.of hc), ?_⟩
      rw [cnts_len, dle, decide_eq_false (by omega)]
      exact r H ⟨rfl, rfl⟩
    · rintro x σ H' ⟨rfl, rfl⟩ hd
      cases hd
    · rintro x σ H' ⟨rfl, rfl⟩ hd
      walk_at "rd"
      exact ⟨_, _, _, hp, Zi, Za, _, mf_counts _ _, _, rfl, _, SqL.of hc, _, cnts_at _ cs, q1 cs⟩
  · obtain ⟨hfu, hRd, q⟩ := q2 (by omega)
    refine while_of (α := Sw) (fun x σ H' => σ = [some (.ref p), some (.int sz)] ∧ Tr (Cs.mk Z0 Z3 Z4 Z6 Z2 Z1 Z5) w t H x H' sz (dep sh + 1) ∧ x.ns p ≤ sz + 1) (fun x => decide (x.ns p ≤ sz)) (fun x => sz + 1 - x.ns p) t ⟨rfl, .refl W _ _, by omega⟩ ?_ ?_ ?_
    · rintro x σ H' ⟨rfl, T, hx⟩ R r
      obtain ⟨dx, c, fs, hU, hd, hsm, hns, hp, hDc, hc, hsub⟩ := T.wi.at_ p sh hg
      rw [hC] at hp
      walk_at "rd"
      refine ⟨_, _, _, hp, Zi, Za, _, mf_counts _ _, _, rfl, _, .inl (SqL.of hc), ?_⟩
      rw [cnts_len, dle]
      exact r H' ⟨rfl, T, hx⟩
    · rintro x σ H' ⟨rfl, T, hx⟩ hd
      have hd : x.ns p ≤ sz := of_decide_eq_true hd
      obtain ⟨dx, c, fs, hU, hd', hsm, hns, hp, hDc, hc, hsub⟩ := T.wi.at_ p sh hg
      rw [hC] at hp
      walk_at "rd"
      refine ⟨_, _, _, hp, Zi, Za, _, mf_counts _ _, .inl ⟨rfl, _, SqL.of hc⟩, _, _, hp, sub_no (by decide +kernel) hsub, _, _, _, hp, Zi, Za, _, mf_counts _ _, _, rfl, _, .inl (SqL.of hc), ?_⟩
      rw [cnts_len]
      have hfl := fu_le (w := w) (d := dep sh) hd
      have hrd : Ready w x (x.ns p) (dep sh + 1) := (T.ready hRd).mono (by omega)
      refine ⟨w, x, p, sh, x.ns p, rfl, hk, T.wi, hg, rfl, by omega, by omega, hrd, fun t2 H2 T2 e2 hful => ?_⟩
      have T3 := T.trans (T2.mono (by omega))
      obtain ⟨dx2, c2, fs2, hU2, hd2, hsm2, hns2, hp2, hDc2, hc2, hsub2⟩ := T2.wi.at_ p sh hg
      have ec := T2.wi.inj _ _ _ hDc2 hDc
      subst ec
      rw [e2] at hc2
      have T4 := T3.count hg hDc2 e2 hd hs hful
      refine ⟨_, rfl, _, hc2, by rw [cnts_len]; exact few (by omega), t2.setn p (x.ns p + 1), ?_, ?_, ?_⟩
      · rw [← cnts_succ]; exact T4
      · show (if p = p then _ else _) ≤ _
        rw [if_pos rfl]; omega
      · show sz + 1 - (if p = p then _ else _) < _
        rw [if_pos rfl]; omega
    · rintro x σ H' ⟨rfl, T, hx⟩ hd
      have hd : ¬ x.ns p ≤ sz := of_decide_eq_false hd
      obtain ⟨dx, c, fs, hU, hd', hsm, hns, hp, hDc, hc, hsub⟩ := T.wi.at_ p sh hg
      rw [hC] at hp
      walk_at "rd"
      exact ⟨_, _, _, hp, Zi, Za, _, mf_counts _ _, _, rfl, _, SqL.of hc, _, cnts_at _ (by omega), q x H' T (by omega)⟩
theorem Z1d {k : Nat} {Z7 Z2 Z1 Z4 Z6 Z3 Z5 Z0 : Addr} (R : g.RawM Z2 "count_at" "Maker.count_at" Z0w ["self", "size"]) (Z2T : g.Me k Z2 "reckoned" ["self", "size"] (sp_reck (Cs.mk Z0 Z3 Z4 Z6 Z2 Z1 Z5) 4 m)) (b_len : g.mg "len" = none) (Zc : Cls g.K Z2) (Zb : NoAttr g.K Z2 "counts") (Zh : NoAttr g.K Z2 "part") : g.Me (k + 1) Z2 "count_at" ["self", "size"] (Zt (Cs.mk Z0 Z3 Z4 Z6 Z2 Z1 Z5) 4 (m + 1)) := by
  refine R.me Z2q (fun vs H Q E h => by obtain ⟨w, t, p, sh, sz, rfl, hk, W, hg, hl, hs, q1, q2⟩ := h; rfl) fun f_ cdv A outer s H vs Q E hr h => ?_
  obtain ⟨w, t, p, sh, sz, rfl, hk, W, hg, hl, hs, q1, q2⟩ := h
  refine ⟨_, (@pss_cons _ _ _ _ _ (@ps_while _ _ _ _ _ _ PassesOwn.never (@pt_cmpR _ _ _ _ _ _ _ _ op_le (@pe_bf _ _ _ _ _ _ _ _ _ _ b_len call_len_seq (@pa_cons _ _ _ _ _ (@pe_fld _ _ _ _ _ (@pv _ 0 _ _ (by rfl) (by first | exact Or.inl rfl | exact Or.inr (Or.inl rfl) | exact Or.inr (Or.inr rfl)) (by decide) (by decide)) rfl) pa_nil (by rfl)) (by decide +kernel) (by rfl) (by rfl) (by decide) (by decide) (by rfl) (by rfl)) (@pv _ 1 _ _ (by rfl) (by first | exact Or.inl rfl | exact Or.inr (Or.inl rfl) | exact Or.inr (Or.inr rfl)) (by decide) (by decide)) (nomark _)) (@pss_one _ _ _ (@ps_expr _ _ _ _ (@pe_bm _ _ _ _ _ _ _ _ _ _ _ _ PySem.F.plainAttrs_list PySem.F.slot_list_append PySem.F.type_list_append mt_append (@pe_fld _ _ _ _ _ (@pv _ 0 _ _ (by rfl) (by first | exact Or.inl rfl | exact Or.inr (Or.inl rfl) | exact Or.inr (Or.inr rfl)) (by decide) (by decide)) rfl) (@pa_cons _ _ _ _ _ (@pe_me _ _ _ _ _ _ _ _ _ _ _ _ _ _ _ _ Z2T Zc hr (@pv _ 0 _ _ (by rfl) (by first | exact Or.inl rfl | exact Or.inr (Or.inl rfl) | exact Or.inr (Or.inr rfl)) (by decide) (by decide)) (@pa_cons _ _ _ _ _ (@pe_bf _ _ _ _ _ _ _ _ _ _ b_len call_len_seq (@pa_cons _ _ _ _ _ (@pe_fld _ _ _ _ _ (@pv _ 0 _ _ (by rfl) (by first | exact Or.inl rfl | exact Or.inr (Or.inl rfl) | exact Or.inr (Or.inr rfl)) (by decide) (by decide)) rfl) pa_nil (by rfl)) (by decide +kernel) (by rfl) (by rfl) (by decide) (by decide) (by rfl) (by rfl)) pa_nil (by rfl)) (by omega) (by rfl) (by rfl) (by rfl) (by rfl)) pa_nil (by rfl)) (by rfl) (by rfl) (by rfl) (by rfl) (by rfl)) (by rfl)))) (@pss_one _ _ _ (@ps_ret _ _ _ _ (@pe_ix _ _ _ _ _ _ _ ix_list (@pe_fld _ _ _ _ _ (@pv _ 0 _ _ (by rfl) (by first | exact Or.inl rfl | exact Or.inr (Or.inl rfl) | exact Or.inr (Or.inr rfl)) (by decide) (by decide)) rfl) (@pv _ 1 _ _ (by rfl) (by first | exact Or.inl rfl | exact Or.inr (Or.inl rfl) | exact Or.inr (Or.inr rfl)) (by decide) (by decide)) (fun _ _ => rfl))))), ?_⟩
  walk_at "rd"
  have hC : clsO (Cs.mk Z0 Z3 Z4 Z6 Z2 Z1 Z5) sh = Z2 := by cases sh <;> first | rfl | (simp [kind] at hk)
  by_cases cs : sz < t.ns p
  · obtain ⟨dx, c, fs, hU, hd, hsm, hns, hp, hDc, hc, hsub⟩ := W.at_ p sh hg
    rw [hC] at hp
    refine while_of (α := Unit) (fun x σ H' => σ = [some (.ref p), some (.int sz)] ∧ H = H') (fun x => false) (fun x => 0) () ⟨rfl, rfl⟩ ?_ ?_ ?_
    · rintro x σ H' ⟨rfl, rfl⟩ R r
      walk_at "rd"
      refine ⟨_, _, _, hp, Zc, Zb, _, mf_counts _ _, _, rfl, _, .inl (SqL.of hc), ?_⟩
      rw [cnts_len, dle, decide_eq_false (by omega)]
      exact r H ⟨rfl, rfl⟩
    · rintro x σ H' ⟨rfl, rfl⟩ hd
      cases hd
    · rintro x σ H' ⟨rfl, rfl⟩ hd
      walk_at "rd"
      exact ⟨_, _, _, hp, Zc, Zb, _, mf_counts _ _, _, rfl, _, SqL.of hc, _, cnts_at _ cs, q1 cs⟩
  · obtain ⟨hfu, hRd, q⟩ := q2 (by omega)
    refine while_of (α := Sw) (fun x σ H' => σ = [some (.ref p), some (.int sz)] ∧ Tr (Cs.mk Z0 Z3 Z4 Z6 Z2 Z1 Z5) w t H x H' sz (dep sh + 1) ∧ x.ns p ≤ sz + 1) (fun x => decide (x.ns p ≤ sz)) (fun x => sz + 1 - x.ns p) t ⟨rfl, .refl W _ _, by omega⟩ ?_ ?_ ?_
    · rintro x σ H' ⟨rfl, T, hx⟩ R r
      obtain ⟨dx, c, fs, hU, hd, hsm, hns, hp, hDc, hc, hsub⟩ := T.wi.at_ p sh hg
      rw [hC] at hp
      walk_at "rd"
      refine ⟨_, _, _, hp, Zc, Zb, _, mf_counts _ _, _, rfl, _, .inl (SqL.of hc), ?_⟩
      rw [cnts_len, dle]
      exact r H' ⟨rfl, T, hx⟩
    · rintro x σ H' ⟨rfl, T, hx⟩ hd
      have hd : x.ns p ≤ sz := of_decide_eq_true hd
      obtain ⟨dx, c, fs, hU, hd', hsm, hns, hp, hDc, hc, hsub⟩ := T.wi.at_ p sh hg
      rw [hC] at hp
      walk_at "rd"
      refine ⟨_, _, _, hp, Zc, Zb, _, mf_counts _ _, .inl ⟨rfl, _, SqL.of hc⟩, _, _, hp, sub_no (by decide +kernel) hsub, _, _, _, hp, Zc, Zb, _, mf_counts _ _, _, rfl, _, .inl (SqL.of hc), ?_⟩
      rw [cnts_len]
      have hfl := fu_le (w := w) (d := dep sh) hd
      have hrd : Ready w x (x.ns p) (dep sh + 1) := (T.ready hRd).mono (by omega)
      refine ⟨w, x, p, sh, x.ns p, rfl, hk, T.wi, hg, rfl, by omega, by omega, hrd, fun t2 H2 T2 e2 hful => ?_⟩
      have T3 := T.trans (T2.mono (by omega))
      obtain ⟨dx2, c2, fs2, hU2, hd2, hsm2, hns2, hp2, hDc2, hc2, hsub2⟩ := T2.wi.at_ p sh hg
      have ec := T2.wi.inj _ _ _ hDc2 hDc
      subst ec
      rw [e2] at hc2
      have T4 := T3.count hg hDc2 e2 hd hs hful
      refine ⟨_, rfl, _, hc2, by rw [cnts_len]; exact few (by omega), t2.setn p (x.ns p + 1), ?_, ?_, ?_⟩
      · rw [← cnts_succ]; exact T4
      · show (if p = p then _ else _) ≤ _
        rw [if_pos rfl]; omega
      · show sz + 1 - (if p = p then _ else _) < _
        rw [if_pos rfl]; omega
    · rintro x σ H' ⟨rfl, T, hx⟩ hd
      have hd : ¬ x.ns p ≤ sz := of_decide_eq_false hd
      obtain ⟨dx, c, fs, hU, hd', hsm, hns, hp, hDc, hc, hsub⟩ := T.wi.at_ p sh hg
      rw [hC] at hp
      walk_at "rd"
      exact ⟨_, _, _, hp, Zc, Zb, _, mf_counts _ _, _, rfl, _, SqL.of hc, _, cnts_at _ (by omega), q x H' T (by omega)⟩
theorem Z1o {k : Nat} {Z7 Z2 Z1 Z4 Z6 Z3 Z5 Z0 : Addr} (R : g.RawM Z5 "count_at" "Maker.count_at" Z0K ["self", "size"]) (Z3f : g.Me k Z5 "reckoned" ["self", "size"] (sp_reck (Cs.mk Z0 Z3 Z4 Z6 Z2 Z1 Z5) 5 m)) (b_len : g.mg "len" = none) (Zj : Cls g.K Z5) (Ze : NoAttr g.K Z5 "counts") (Zf : NoAttr g.K Z5 "named") : g.Me (k + 1) Z5 "count_at" ["self", "size"] (Zt (Cs.mk Z0 Z3 Z4 Z6 Z2 Z1 Z5) 5 (m + 1)) := by
  refine R.me Z2Q (fun vs H Q E h => by obtain ⟨w, t, p, sh, sz, rfl, hk, W, hg, hl, hs, q1, q2⟩ := h; rfl) fun f_ cdv A outer s H vs Q E hr h => ?_
  obtain ⟨w, t, p, sh, sz, rfl, hk, W, hg, hl, hs, q1, q2⟩ := h
  refine ⟨_, (@pss_cons _ _ _ _ _ (@ps_while _ _ _ _ _ _ PassesOwn.never (@pt_cmpR _ _ _ _ _ _ _ _ op_le (@pe_bf _ _ _ _ _ _ _ _ _ _ b_len call_len_seq (@pa_cons _ _ _ _ _ (@pe_fld _ _ _ _ _ (@pv _ 0 _ _ (by rfl) (by first | exact Or.inl rfl | exact Or.inr (Or.inl rfl) | exact Or.inr (Or.inr rfl)) (by decide) (by decide)) rfl) pa_nil (by rfl)) (by decide +kernel) (by rfl) (by rfl) (by decide) (by decide) (by rfl) (by rfl)) (@pv _ 1 _ _ (by rfl) (by first | exact Or.inl rfl | exact Or.inr (Or.inl rfl) | exact Or.inr (Or.inr rfl)) (by decide) (by decide)) (nomark _)) (@pss_one _ _ _ (@ps_expr _ _ _ _ (@pe_bm _ _ _ _ _ _ _ _ _ _ _ _ PySem.F.plainAttrs_list PySem.F.slot_list_append PySem.F.type_list_append mt_append (@pe_fld _ _ _ _ _ (@pv _ 0 _ _ (by rfl) (by first | exact Or.inl rfl | exact Or.inr (Or.inl rfl) | exact Or.inr (Or.inr rfl)) (by decide) (by decide)) rfl) (@pa_cons _ _ _ _ _ (@pe_me _ _ _ _ _ _ _ _ _ _ _ _ _ _ _ _ Z3f Zj hr (@pv _ 0 _ _ (by rfl) (by first | exact Or.inl rfl | exact Or.inr (Or.inl rfl) | exact Or.inr (Or.inr rfl)) (by decide) (by decide)) (@pa_cons _ _ _ _ _ (@pe_bf _ _ _ _ _ _ _ _ _ _ b_len call_len_seq (@pa_cons _ _ _ _ _ (@pe_fld _ _ _ _ _ (@pv _ 0 _ _ (by rfl) (by first | exact Or.inl rfl | exact Or.inr (Or.inl rfl) | exact Or.inr (Or.inr rfl)) (by decide) (by decide)) rfl) pa_nil (by rfl)) (by decide +kernel) (by rfl) (by rfl) (by decide) (by decide) (by rfl) (by rfl)) pa_nil (by rfl)) (by omega) (by rfl) (by rfl) (by rfl) (by rfl)) pa_nil (by rfl)) (by rfl) (by rfl) (by rfl) (by rfl) (by rfl)) (by rfl)))) (@pss_one _ _ _ (@ps_ret _ _ _ _ (@pe_ix _ _ _ _ _ _ _ ix_list (@pe_fld _ _ _ _ _ (@pv _ 0 _ _ (by rfl) (by first | exact Or.inl rfl | exact Or.inr (Or.inl rfl) | exact Or.inr (Or.inr rfl)) (by decide) (by decide)) rfl) (@pv _ 1 _ _ (by rfl) (by first | exact Or.inl rfl | exact Or.inr (Or.inl rfl) | exact Or.inr (Or.inr rfl)) (by decide) (by decide)) (fun _ _ => rfl))))), ?_⟩
  walk_at "rd"
  have hC : clsO (Cs.mk Z0 Z3 Z4 Z6 Z2 Z1 Z5) sh = Z5 := by cases sh <;> first | rfl | (simp [kind] at hk)
  by_cases cs : sz < t.ns p
  · obtain ⟨dx, c, fs, hU, hd, hsm, hns, hp, hDc, hc, hsub⟩ := W.at_ p sh hg
    rw [hC] at hp
    refine while_of (α := Unit) (fun x σ H' => σ = [some (.ref p), some (.int sz)] ∧ H = H') (fun x => false) (fun x => 0) () ⟨rfl, rfl⟩ ?_ ?_ ?_
    · rintro x σ H' ⟨rfl, rfl⟩ R r
      walk_at "rd"
      refine ⟨_, _, _, hp, Zj, Ze, _, mf_counts _ _, _, rfl, _, .inl (SqL.of hc), ?_⟩
      rw [cnts_len, dle, decide_eq_false (by omega)]
      exact r H ⟨rfl, rfl⟩
    · rintro x σ H' ⟨rfl, rfl⟩ hd
      cases hd
    · rintro x σ H' ⟨rfl, rfl⟩ hd
      walk_at "rd"
      exact ⟨_, _, _, hp, Zj, Ze, _, mf_counts _ _, _, rfl, _, SqL.of hc, _, cnts_at _ cs, q1 cs⟩
  · obtain ⟨hfu, hRd, q⟩ := q2 (by omega)
    refine while_of (α := Sw) (fun x σ H' => σ = [some (.ref p), some (.int sz)] ∧ Tr (Cs.mk Z0 Z3 Z4 Z6 Z2 Z1 Z5) w t H x H' sz (dep sh + 1) ∧ x.ns p ≤ sz + 1) (fun x => decide (x.ns p ≤ sz)) (fun x => sz + 1 - x.ns p) t ⟨rfl, .refl W _ _, by omega⟩ ?_ ?_ ?_
    · rintro x σ H' ⟨rfl, T, hx⟩ R r
      obtain ⟨dx, c, fs, hU, hd, hsm, hns, hp, hDc, hc, hsub⟩ := T.wi.at_ p sh hg
      rw [hC] at hp
      walk_at "rd"
      refine ⟨_, _, _, hp, Zj, Ze, _, mf_counts _ _, _, rfl, _, .inl (SqL.of hc), ?_⟩
      rw [cnts_len, dle]
      exact r H' ⟨rfl, T, hx⟩
    · rintro x σ H' ⟨rfl, T, hx⟩ hd
      have hd : x.ns p ≤ sz := of_decide_eq_true hd
      obtain ⟨dx, c, fs, hU, hd', hsm, hns, hp, hDc, hc, hsub⟩ := T.wi.at_ p sh hg
      rw [hC] at hp
      walk_at "rd"
      refine ⟨_, _, _, hp, Zj, Ze, _, mf_counts _ _, .inl ⟨rfl, _, SqL.of hc⟩, _, _, hp, sub_no (by decide +kernel) hsub, _, _, _, hp, Zj, Ze, _, mf_counts _ _, _, rfl, _, .inl (SqL.of hc), ?_⟩
      rw [cnts_len]
      have hfl := fu_le (w := w) (d := dep sh) hd
      have hrd : Ready w x (x.ns p) (dep sh + 1) := (T.ready hRd).mono (by omega)
      refine ⟨w, x, p, sh, x.ns p, rfl, hk, T.wi, hg, rfl, by omega, by omega, hrd, fun t2 H2 T2 e2 hful => ?_⟩
      have T3 := T.trans (T2.mono (by omega))
      obtain ⟨dx2, c2, fs2, hU2, hd2, hsm2, hns2, hp2, hDc2, hc2, hsub2⟩ := T2.wi.at_ p sh hg
      have ec := T2.wi.inj _ _ _ hDc2 hDc
      subst ec
      rw [e2] at hc2
      have T4 := T3.count hg hDc2 e2 hd hs hful
      refine ⟨_, rfl, _, hc2, by rw [cnts_len]; exact few (by omega), t2.setn p (x.ns p + 1), ?_, ?_, ?_⟩
      · rw [← cnts_succ]; exact T4
      · show (if p = p then _ else _) ≤ _
        rw [if_pos rfl]; omega
      · show sz + 1 - (if p = p then _ else _) < _
        rw [if_pos rfl]; omega
    · rintro x σ H' ⟨rfl, T, hx⟩ hd
      have hd : ¬ x.ns p ≤ sz := of_decide_eq_false hd
      obtain ⟨dx, c, fs, hU, hd', hsm, hns, hp, hDc, hc, hsub⟩ := T.wi.at_ p sh hg
      rw [hC] at hp
      walk_at "rd"
      exact ⟨_, _, _, hp, Zj, Ze, _, mf_counts _ _, _, rfl, _, SqL.of hc, _, cnts_at _ (by omega), q x H' T (by omega)⟩
def sp_ld : Sp := fun vs H Q _ => ∃ (n : Nat), vs = [.int n] ∧ n ≤ 100 ∧ Q (.int (1 * 2 ^ n / 2 ^ 1)) H
theorem Z3G {Z7 Z2 Z1 Z4 Z6 Z3 Z5 Z0 : Addr} (R : g.Raw "least_distance" "least_distance" Z13 ["size"]) : g.Fn (1) "least_distance" ["size"] (sp_ld) := by
  refine R.fn Z3E (fun vs H Q E h => by obtain ⟨n, rfl, hn, q⟩ := h; rfl) fun f_ cdv A outer s H vs Q E hr h => ?_
  obtain ⟨n, rfl, hn, q⟩ := h
  refine ⟨_, (@pss_one _ _ _ (@ps_ret _ _ _ _ (@pe_op _ _ _ _ _ _ _ _ op_shr (@pe_op _ _ _ _ _ _ _ _ op_shl pe_int (@pv _ 0 _ _ (by rfl) (by first | exact Or.inl rfl | exact Or.inr (Or.inl rfl) | exact Or.inr (Or.inr rfl)) (by decide) (by decide))) pe_int))), ?_⟩
  walk_at "rd"
  exact ⟨⟨by omega, by omega, by decide⟩, by decide, q⟩
theorem Z10 {k : Nat} {Z7 Z2 Z1 Z4 Z6 Z3 Z5 Z0 : Addr} (R : g.RawM Z0 "reckoned" "WholeMaker.reckoned" Z0j ["self", "size"]) (Z3X : g.Fn k "least_distance" ["size"] (sp_ld)) (b_max : g.mg "max" = none) (b_min : g.mg "min" = none) (Zg : Cls g.K Z0) (Z8 : NoAttr g.K Z0 "counts") (Zr : NoAttr g.K Z0 "low") (Zl : NoAttr g.K Z0 "span") : g.Me (k + 1) Z0 "reckoned" ["self", "size"] (sp_reck (Cs.mk Z0 Z3 Z4 Z6 Z2 Z1 Z5) 0 (m + 1)) := by
  refine R.me Z0Y (fun vs H Q E h => by obtain ⟨w, t, p, sh, sz, rfl, hk, W, hg, hn, hs, hf, hR, q⟩ := h; rfl) fun f_ cdv A outer s H vs Q E hr h => ?_
  obtain ⟨w, t, p, sh, sz, rfl, hk, W, hg, hn, hs, hf, hR, q⟩ := h
  refine ⟨_, (@pss_cons _ _ _ _ _ (@ps_set _ _ (2) _ _ _ _ Z0Y.nd rfl (Or.inl rfl) (@pe_bf _ _ _ _ _ _ _ _ _ _ b_min (call_min2 rfl) (@pa_cons _ _ _ _ _ (@pe_fld _ _ _ _ _ (@pv _ 0 _ _ (by rfl) (by first | exact Or.inl rfl | exact Or.inr (Or.inl rfl) | exact Or.inr (Or.inr rfl)) (by decide) (by decide)) rfl) (@pa_cons _ _ _ _ _ (@pe_op _ _ _ _ _ _ _ _ op_sub (@pe_op _ _ _ _ _ _ _ _ op_shl pe_int (@pv _ 1 _ _ (by rfl) (by first | exact Or.inl rfl | exact Or.inr (Or.inl rfl) | exact Or.inr (Or.inr rfl)) (by decide) (by decide))) pe_int) pa_nil (by rfl)) (by rfl)) (by decide +kernel) (by rfl) (by rfl) (by decide) (by decide) (by rfl) (by rfl)) (by rfl) (by first | exact .inl rfl | exact .inr rfl | assumption)) (@pss_one _ _ _ (@ps_ret _ _ _ _ (@pe_bf _ _ _ _ _ _ _ _ _ _ b_max (call_max2 rfl) (@pa_cons _ _ _ _ _ pe_int (@pa_cons _ _ _ _ _ (@pe_op _ _ _ _ _ _ _ _ op_add (@pe_op _ _ _ _ _ _ _ _ op_sub (@pv _ 2 _ _ (by rfl) (by first | exact Or.inl rfl | exact Or.inr (Or.inl rfl) | exact Or.inr (Or.inr rfl)) (by decide) (by decide)) (@pe_fn _ _ _ _ _ _ _ _ _ _ _ _ Z3X hr (@pa_cons _ _ _ _ _ (@pv _ 1 _ _ (by rfl) (by first | exact Or.inl rfl | exact Or.inr (Or.inl rfl) | exact Or.inr (Or.inr rfl)) (by decide) (by decide)) pa_nil (by rfl)) (by omega) (by rfl) (by rfl) (by decide) (by rfl) (by rfl))) pe_int) pa_nil (by rfl)) (by rfl)) (by decide +kernel) (by rfl) (by rfl) (by decide) (by decide) (by rfl) (by rfl))))), ?_⟩
  cases sh with
  | w lo span =>
    obtain ⟨dx, c, fs, hU, hd, hsm, hns, hp, hDc, hc, hsub⟩ := W.at_ p _ hg
    have hsub : fs = fW lo span := hsub
    subst hsub
    walk_at "rd"
    have := q t H (.refl W _ _) hn (fun ps z => by cases z)
    rw [cnt_w] at this
    exact ⟨_, _, _, hp, Zg, Zl, _, rfl, ⟨by omega, by omega, by decide⟩, _, rfl, sz, rfl, by omega, _, rfl, this⟩
  | _ => simp [kind] at hk
theorem pow62 {a : Nat} (h : a ≤ 62) (j : Nat) : ((a : Int) ^ j).natAbs < 2 ^ (6 * j + 1) := by
  have e : ((a : Int) ^ j).natAbs = a ^ j := by rw [Int.natAbs_pow, Int.natAbs_natCast]
  rw [e]
  have h1 : a ^ j ≤ (2 ^ 6) ^ j := Nat.pow_le_pow_left (by omega) j
  rw [← Nat.pow_mul] at h1
  have h2 : 2 ^ (6 * j) < 2 ^ (6 * j + 1) := Nat.pow_lt_pow_right (by decide) (by omega)
  omega
theorem Z1e {k : Nat} {Z7 Z2 Z1 Z4 Z6 Z3 Z5 Z0 : Addr} (R : g.RawM Z3 "reckoned" "TextMaker.reckoned" Z0p ["self", "size"]) (Zy : g.Me k Z3 "count_at" ["self", "size"] (Zt (Cs.mk Z0 Z3 Z4 Z6 Z2 Z1 Z5) 1 m)) (b_len : g.mg "len" = none) (Zk : Cls g.K Z3) (Z9 : NoAttr g.K Z3 "counts") (Zm : NoAttr g.K Z3 "signs") : g.Me (k + 1) Z3 "reckoned" ["self", "size"] (sp_reck (Cs.mk Z0 Z3 Z4 Z6 Z2 Z1 Z5) 1 (m + 1)) := by
  refine R.me Z2k (fun vs H Q E h => by obtain ⟨w, t, p, sh, sz, rfl, hk, W, hg, hn, hs, hf, hR, q⟩ := h; rfl) fun f_ cdv A outer s H vs Q E hr h => ?_
  obtain ⟨w, t, p, sh, sz, rfl, hk, W, hg, hn, hs, hf, hR, q⟩ := h
  refine ⟨_, (@pss_one _ _ _ (@ps_ret _ _ _ _ (@pe_ifExp _ _ _ _ _ _ _ _ (@pt_cmpR _ _ _ _ _ _ _ _ op_eq (@pv _ 1 _ _ (by rfl) (by first | exact Or.inl rfl | exact Or.inr (Or.inl rfl) | exact Or.inr (Or.inr rfl)) (by decide) (by decide)) pe_int (nomark _)) pe_int (@pe_op _ _ _ _ _ _ _ _ op_mulC (@pe_bf _ _ _ _ _ _ _ _ _ _ b_len call_len_str (@pa_cons _ _ _ _ _ (@pe_fld _ _ _ _ _ (@pv _ 0 _ _ (by rfl) (by first | exact Or.inl rfl | exact Or.inr (Or.inl rfl) | exact Or.inr (Or.inr rfl)) (by decide) (by decide)) rfl) pa_nil (by rfl)) (by decide +kernel) (by rfl) (by rfl) (by decide) (by decide) (by rfl) (by rfl)) (@pe_me _ _ _ _ _ _ _ _ _ _ _ _ _ _ _ _ Zy Zk hr (@pv _ 0 _ _ (by rfl) (by first | exact Or.inl rfl | exact Or.inr (Or.inl rfl) | exact Or.inr (Or.inr rfl)) (by decide) (by decide)) (@pa_cons _ _ _ _ _ (@pe_op _ _ _ _ _ _ _ _ op_sub (@pv _ 1 _ _ (by rfl) (by first | exact Or.inl rfl | exact Or.inr (Or.inl rfl) | exact Or.inr (Or.inr rfl)) (by decide) (by decide)) pe_int) pa_nil (by rfl)) (by omega) (by rfl) (by rfl) (by rfl) (by rfl)))))), ?_⟩
  cases sh with
  | t sg =>
    obtain ⟨dx, c, fs, hU, hd, hsm, hns, hp, hDc, hc, hsub⟩ := W.at_ p _ hg
    have hno := fun {m : Str} (h : isF m = false) => sub_no (c := c) h hsub
    obtain ⟨rfl, hsl⟩ := hsub
    have q := q t H (.refl W _ _) hn (fun ps z => by cases z)
    walk_at "rd"
    refine ite2 (fun c => ?_) (fun c => ?_)
    · have e : sz = 0 := by omega
      rw [e, cnt_t] at q
      exact q
    · obtain ⟨j, rfl⟩ : ∃ j, sz = j + 1 := ⟨sz - 1, by omega⟩
      refine ⟨_, _, _, hp, Zk, Zm, _, rfl, _, rfl, by rw [S_len]; exact few (by omega), _, _, hp, hno (by decide +kernel), ?_⟩
      refine ⟨w, t, p, .t sg, j, by rw [show ((j + 1 : Nat) : Int) - 1 = (j : Int) by omega], rfl, W, hg, by unfold fu at hf; omega, by omega, fun _ => ⟨_, rfl, ?_, ?_⟩, fun z => absurd z (by omega)⟩
      · rw [S_len, cnt_t]
        refine .inl (cm (m := 7) (n := 6 * j + 1) ?_ (pow62 hsl j) (by omega))
        rw [Int.natAbs_natCast]; omega
      · rw [S_len, cnt_t]
        rw [cnt_t, Int.pow_succ, Int.mul_comm] at q
        exact q
  | _ => simp [kind] at hk
def Blk (H : Hp) (D : Addr) (ps : List (Int × Int)) : Prop := ∃ xs : List V, H D = some (.lst xs) ∧ xs.length = ps.length ∧ ∀ (i : Nat) x p, xs[i]? = some x → ps[i]? = some p → ∃ T, x = .ref T ∧ H T = some (.tup [.int p.1, .int p.2])
def Z1U (K : PySem.W.Frag) : Sp := fun vs H Q _ => ∃ (D : Addr) (ps : List (Int × Int)), vs = [.ref D] ∧ Blk H D ps ∧ ps.length ≤ 1000 ∧ (∀ p ∈ ps, sm p.1 ∧ sm p.2) ∧ ∀ H', Same H H' → Q (.int (ps.map fun p => p.1 * p.2).sum) H'
section
variable {src : List (Option Nat)} {te : TE} {σ : St} {H : Hp} {Q : VK}
theorem tLC_pairs {K : PySem.W.Frag} {tl : TE} {b : Addr} {xs : List V} (ps : List (V × V)) (ys : List V) (ha : ∀ R : V → Hp → Prop, R (.ref b) H → tl σ H R) (hS : SqL K H b xs) (hp : ∀ (i : Nat) x p, xs[i]? = some x → ps[i]? = some p → ∃ T, x = .ref T ∧ H T = some (.tup [p.1, p.2])) (hl : ps.length = xs.length) (hl2 : ys.length = xs.length) (hlen : xs.length ≤ 100000)
    (step : ∀ (i : Nat) p y H', ps[i]? = some p → ys[i]? = some y → Same H H' → ∀ R : VK, (∀ H'', Same H' H'' → R y H'') → te (some p.1 :: some p.2 :: capSt src σ) H' R)
    (fin : ∀ D H', H D = none → Same H H' → H' D = some (.lst ys) → Q (.ref D) H') : tLC (none :: none :: src) (iList K tl) (gTup K 2 (gCons (gName 0) (gCons (gName 1) gNil))) tYes te σ H Q := by
  refine ha _ ⟨b, rfl, ⟨xs, hS⟩, fun D hD => ?_⟩
  have h6 : 100000 < sizeLine := by decide
  refine lc_on (itseq_list.imp fun H' (e : Same H H') => e.seq hS) (fun i zs σ' H' => zs = ys.take i ∧ (∃ o o', σ' = o :: o' :: capSt src σ) ∧ Same H H' ∧ H' D = some (.lst zs)) ⟨by simp, ⟨none, none, rfl⟩, .upd_new hD _, upd_same⟩ (fun i zs σ' H' p => ⟨p.2.2.1, p.2.2.2⟩) (gTup2_mono' K 0 1) ?_ ?_
  · rintro i zs σ' H' x hx ⟨rfl, ⟨o, o', rfl⟩, sm, hd⟩
    have hi := (List.getElem?_eq_some_iff.mp hx).1
    have hy : ys[i]? = some (ys[i]'(by omega)) := List.getElem?_eq_getElem _
    have hpi : ps[i]? = some (ps[i]'(by omega)) := List.getElem?_eq_getElem _
    obtain ⟨T, rfl, hT⟩ := hp i x _ hx hpi
    refine ⟨T, _, rfl, SqT.of (sm _ _ hT), rfl, _, _, rfl, _, _, rfl, rfl, ?_⟩
    refine step i _ _ H' hpi hy sm _ fun H'' s2 => ⟨s2 _ _ hd, ?_, (take_snoc hy).symm, ⟨_, _, rfl⟩, .upd_over hD (sm.trans s2) _, upd_same⟩
    rw [List.length_take]; omega
  · rintro zs σ' H' ⟨rfl, _, sm, hd⟩
    rw [← hl2, List.take_length] at hd
    exact fin D H' hD sm hd
end
theorem ok_ways_of {Z7 Z2 Z1 Z4 Z6 Z3 Z5 Z0 : Addr} (R : g.Raw "ways_of" "ways_of" Z3o ["blocks"]) (b_sum : g.mg "sum" = none) : g.Fn (1) "ways_of" ["blocks"] (Z1U g.K) := by
  refine R.fn sc_ways_of (fun vs H Q E h => by obtain ⟨D, ps, rfl, ⟨xs, hD, hxl, hxp⟩, hl, hb, q⟩ := h; rfl) fun f_ cdv A outer s H vs Q E hr h => ?_
  obtain ⟨D, ps, rfl, ⟨xs, hD, hxl, hxp⟩, hl, hb, q⟩ := h
  refine ⟨_, (@pss_one _ _ _ (@ps_ret _ _ _ _ (@pe_bf _ _ _ _ _ _ _ _ _ _ b_sum call_sum_ints (@pa_cons _ _ _ _ _ (@pe_lc _ _ _ _ _ _ _ ([none, none]) ((["choices", "rest"] : List Str)) _ (gTup g.K 2 (gCons (gName 0) (gCons (gName 1) gNil))) _ _ (.own (.own .nil)) rfl (@pi_list _ _ _ _ (@pv _ 0 _ _ (by rfl) (by first | exact Or.inl rfl | exact Or.inr (Or.inl rfl) | exact Or.inr (Or.inr rfl)) (by decide) (by decide))) (fun cl C s₀ H₀ fp pn => (@pg_tup _ _ _ _ _ (2) rfl (@pgs_cons _ _ _ _ _ (@pg_name _ _ (0) _ (show List.Nodup (["choices", "rest"] : List Str) by decide +kernel) rfl (Or.inl rfl) (Or.inr rfl)) (@pgs_cons _ _ _ _ _ (@pg_name _ _ (1) _ (show List.Nodup (["choices", "rest"] : List Str) by decide +kernel) rfl (Or.inl rfl) (Or.inr rfl)) pgs_nil (by rfl)) (by rfl)) (by rfl) (by rfl))) (fun cl C s₀ H₀ fp pn => pts_nil) (fun cl C s₀ H₀ fp pn => (@pe_op _ _ _ _ _ _ _ _ op_mulC (@pv _ 0 _ _ (by rfl) (by first | exact Or.inl rfl | exact Or.inr (Or.inl rfl) | exact Or.inr (Or.inr rfl)) (by decide) (by decide)) (@pv _ 1 _ _ (by rfl) (by first | exact Or.inl rfl | exact Or.inr (Or.inl rfl) | exact Or.inr (Or.inr rfl)) (by decide) (by decide)))) (by intro x hx; simp at hx) (by rfl) (by decide) (by decide +kernel) (by intro _; rfl)) pa_nil (by rfl)) (by decide +kernel) (by rfl) (by rfl) (by decide) (by decide) (by rfl) (by rfl)))), ?_⟩
  walk_at "rd"
  refine tLC_pairs (K := g.K) (b := D) (xs := xs) (ps.map fun p => (V.int p.1, V.int p.2)) (ps.map fun p => V.int (p.1 * p.2)) (fun R r => by walk_at "rd"; exact r) (SqL.of hD) ?_ (by rw [List.length_map]; omega) (by rw [List.length_map]; omega) (by omega) ?_ ?_
  · intro i x p hx hp
    rw [List.getElem?_map] at hp
    obtain ⟨p', hp', rfl⟩ := Option.map_eq_some_iff.mp hp
    exact hxp i x p' hx hp'
  · intro i p y H' hp hy sm R r
    rw [List.getElem?_map] at hp hy
    obtain ⟨p', hp', rfl⟩ := Option.map_eq_some_iff.mp hp
    rw [hp'] at hy
    have : V.int (p'.1 * p'.2) = y := Option.some.inj hy
    subst this
    obtain ⟨⟨n1, b0, b1⟩, ⟨n2, b2, b3⟩⟩ := hb p' (List.mem_of_getElem? hp')
    walk_at "rd"
    exact ⟨.inl (cm b1 b3 (by omega)), r H' (.refl _)⟩
  · intro D' H' hD' sm hd
    refine ⟨D', rfl, ps.map fun p => p.1 * p.2, SqL.of (by rw [hd, List.map_map]; rfl), q H' sm⟩
def Tb (C : Cs) (H : Hp) (p T : Addr) : Prop := ∃ dx c P, H p = some (.ins C.row dx (mf c (fR P T)))
def sp_ways (C : Cs) (l : Nat) : Sp := fun vs H Q _ => ∃ (w : Wo) (t : Sw) (p T : Addr) (ps : List Sh) (pl left : Nat), vs = [.ref T, .int pl, .int left] ∧ WI C w t H ∧ w.reg p = some (.row ps) ∧ Tb C H p T ∧ pl ≤ ps.length ∧ left ≤ 40 ∧ 1 ≤ l ∧
  (left < t.ms p ps.length → left < t.ms p pl ∧ Q (.int (rowc w.bk (ps.drop pl) left)) H) ∧
  (t.ms p ps.length ≤ left → Uni t p ∧ left ≤ t.ns p ∧ fu w left (deps ps + 1) + 3 ≤ l ∧ Ready w t left (deps ps + 1) ∧ ∀ t' H', Tr C w t H t' H' left (deps ps + 2) → t'.ns p = t.ns p → Uni t' p → left < t'.ms p 0 → Q (.int (rowc w.bk (ps.drop pl) left)) H')
def sp_add (C : Cs) (l : Nat) : Sp := fun vs H Q _ => ∃ (w : Wo) (t : Sw) (p T : Addr) (ps : List Sh) (sz : Nat), vs = [.ref T, .int sz] ∧ WI C w t H ∧ w.reg p = some (.row ps) ∧ Tb C H p T ∧ (∀ i, t.ms p i = sz) ∧ sz ≤ 40 ∧ sz ≤ t.ns p ∧ fu w sz (deps ps + 1) + 2 ≤ l ∧ Ready w t sz (deps ps + 1) ∧
  ∀ t' H', Tr C w t H t' H' sz (deps ps + 2) → t'.ns p = t.ns p → (∀ i, t'.ms p i = sz + 1) → Q .non H'
def Z1V (C : Cs) (l : Nat) : Sp := fun vs H Q _ => ∃ (w : Wo) (t : Sw) (p T : Addr) (ps : List Sh) (pl left : Nat) (sh : Sh), vs = [.ref T, .int pl, .int left] ∧ WI C w t H ∧ w.reg p = some (.row ps) ∧ Tb C H p T ∧ ps[pl]? = some sh ∧ left ≤ 40 ∧ left ≤ t.ns p ∧ (∀ i, pl < i → left < t.ms p i) ∧ fu w left (deps ps + 1) + 1 ≤ l ∧ Ready w t left (deps ps + 1) ∧
  ∀ D t' H', Tr C w t H t' H' left (deps ps + 1) → H D = none → ¬ t'.U D → Blk H' D ((List.range (left + 1)).map fun f => (cnt w.bk sh f, rowc w.bk (ps.drop (pl + 1)) (left - f))) → Q (.ref D) H'
theorem no_ways {C : Cs} {vs : List V} {H : Hp} {Q : VK} {E : XK} (h : sp_ways C 0 vs H Q E) : False := by
  obtain ⟨w, t, p, T, ps, pl, left, _, _, _, _, _, _, h, _⟩ := h
  omega
theorem no_add {C : Cs} {vs : List V} {H : Hp} {Q : VK} {E : XK} (h : sp_add C 0 vs H Q E) : False := by
  obtain ⟨w, t, p, T, ps, sz, _, _, _, _, _, _, _, h, _⟩ := h
  omega
theorem no_tblocks {C : Cs} {vs : List V} {H : Hp} {Q : VK} {E : XK} (h : Z1V C 0 vs H Q E) : False := by
  obtain ⟨w, t, p, T, ps, pl, left, sh, _, _, _, _, _, _, _, _, h, _⟩ := h
  omega
theorem row_at {C : Cs} {w : Wo} {t : Sw} {H : Hp} {p T : Addr} {ps : List Sh} (W : WI C w t H) (hg : w.reg p = some (.row ps)) (hT : Tb C H p T) : ∃ (P dt L : Addr) (as ws : List Addr), w.D T = none ∧ w.D P = none ∧ w.D L = none ∧ H P = some (.lst (as.map V.ref)) ∧ RegAll w.reg as ps ∧ ps.length ≤ 100 ∧
      H T = some (.ins C.tab dt (fTab P L)) ∧ H L = some (.lst (ws.map V.ref)) ∧ ws.length = ps.length + 1 ∧
      (∀ (i : Nat) x, ws[i]? = some x → w.D x = some (p, i + 1) ∧ t.ns p ≤ t.ms p i ∧ t.ms p i ≤ 60 ∧ H x = some (.lst (cnts (rowc w.bk (ps.drop i)) (t.ms p i)))) ∧ (∀ i s, s ≤ 45 → sm (rowc w.bk (ps.drop i) s)) ∧ dep (.row ps) ≤ w.M := by
  obtain ⟨dx, c, fs, hU, hd, hsm, hns, hp, hDc, hc, hsub⟩ := W.at_ p _ hg
  obtain ⟨P, T', dt, L, as, ws, rfl, h2, h3, h4, h5, h6, h7, h8, h9, h10, h11, h12⟩ := hsub
  obtain ⟨dx', c', P', hp'⟩ := hT
  rw [hp] at hp'
  have e := Option.some.inj hp'
  injection e with e1 e2 e3
  unfold mf fR at e3
  injection e3 with e4 e5
  injection e5 with e6 e7
  injection e7 with e8 e9
  injection e8 with _ e8
  have := V.ref.inj e8
  subst this
  exact ⟨P, dt, L, as, ws, h3.1, h2.1, h4.1, h5, h6, h7, h8, h9, h10, h11, h12, hd⟩
theorem Tr.tb {C : Cs} {w : Wo} {t t' : Sw} {H H' : Hp} {s d : Nat} (T : Tr C w t H t' H' s d) {p x : Addr} {sh : Sh} (W : WI C w t H) (hg : w.reg p = some sh) (h : Tb C H p x) : Tb C H' p x := by
  obtain ⟨dx, c, P, h⟩ := h
  obtain ⟨_, _, _, hU, _⟩ := W.at_ p _ hg
  exact ⟨dx, c, P, T.fr _ _ hU.1 h⟩
def Cal (C : Cs) (cx : Addr) (k l : Nat) (H : Hp) (a : Addr) (s : Nat) (Q : VK) : Prop := ∃ dx fs, H a = some (.ins cx dx fs) ∧ fs.lookup ("count_at" : Str) = none ∧ Zt C k l [.ref a, .int s] H Q E0
theorem any_call {C : Cs} {w : Wo} {t : Sw} {H : Hp} {a : Addr} {sh : Sh} {l sz : Nat} {Q : VK} (W : WI C w t H) (hg : w.reg a = some sh) (hs : sz ≤ 40) (hf : fu w sz (dep sh) + 5 ≤ l) (hR : Ready w t sz (dep sh + 1))
    (q : ∀ t' H', Tr C w t H t' H' sz (dep sh + 1) → sz < t'.ns a → Q (.int (cnt w.bk sh sz)) H') : Cal C C.w 0 l H a sz Q ∨ Cal C C.t 1 l H a sz Q ∨ Cal C C.row 2 l H a sz Q ∨ Cal C C.many 4 l H a sz Q ∨ Cal C C.pick 3 l H a sz Q ∨ Cal C C.use 5 l H a sz Q := by
  obtain ⟨dx, c, fs, hU, hd, hsm, hns, hp, hDc, hc, hsub⟩ := W.at_ a sh hg
  have key : Cal C (clsO C sh) (kind sh) l H a sz Q := ⟨dx, _, hp, sub_no (by decide +kernel) hsub, w, t, a, sh, sz, rfl, rfl, W, hg, by omega, hs, fun h => q t H (.refl W _ _) h, fun _ => ⟨hf, hR, fun t' H' T e => q t' H' T (by omega)⟩⟩
  cases sh with
  | w lo span => exact .inl key
  | t sg => exact .inr (.inl key)
  | row ps => exact .inr (.inr (.inl key))
  | many p => exact .inr (.inr (.inr (.inl key)))
  | pick mk ps => exact .inr (.inr (.inr (.inr (.inl key))))
  | use x => exact .inr (.inr (.inr (.inr (.inr key))))
  | alike p n => cases hsub
theorem Z1f {k : Nat} {Z7 Z2 Z1 Z4 Z6 Z3 Z5 Z0 : Addr} (R : g.RawM Z6 "blocks_at" "RowTable.blocks_at" Z0q ["self", "place", "left"]) (Z0Q : g.Me k Z6 "ways_at" ["self", "place", "left"] (sp_ways (Cs.mk Z0 Z3 Z4 Z6 Z2 Z1 Z5) m)) (ZC : g.Me k Z0 "count_at" ["self", "size"] (Zt (Cs.mk Z0 Z3 Z4 Z6 Z2 Z1 Z5) 0 m)) (Zy : g.Me k Z3 "count_at" ["self", "size"] (Zt (Cs.mk Z0 Z3 Z4 Z6 Z2 Z1 Z5) 1 m)) (ZF : g.Me k Z4 "count_at" ["self", "size"] (Zt (Cs.mk Z0 Z3 Z4 Z6 Z2 Z1 Z5) 2 m)) (ZB : g.Me k Z2 "count_at" ["self", "size"] (Zt (Cs.mk Z0 Z3 Z4 Z6 Z2 Z1 Z5) 4 m)) (ZD : g.Me k Z1 "count_at" ["self", "size"] (Zt (Cs.mk Z0 Z3 Z4 Z6 Z2 Z1 Z5) 3 m)) (ZG : g.Me k Z5 "count_at" ["self", "size"] (Zt (Cs.mk Z0 Z3 Z4 Z6 Z2 Z1 Z5) 5 m)) (ZA : g.mg "range" = none) (Zc : Cls g.K Z2) (Zb : NoAttr g.K Z2 "counts") (Zh : NoAttr g.K Z2 "part") (Zi : Cls g.K Z1) (Za : NoAttr g.K Z1 "counts") (Zo : NoAttr g.K Z1 "marks") (Zn : NoAttr g.K Z1 "parts") (Zq : Cls g.K Z4) (Zd : NoAttr g.K Z4 "counts") (Zs : NoAttr g.K Z4 "parts") (Zp : NoAttr g.K Z4 "table") (Zv : Cls g.K Z6) (Zx : NoAttr g.K Z6 "parts") (Zu : NoAttr g.K Z6 "ways") (Zk : Cls g.K Z3) (Z9 : NoAttr g.K Z3 "counts") (Zm : NoAttr g.K Z3 "signs") (Zj : Cls g.K Z5) (Ze : NoAttr g.K Z5 "counts") (Zf : NoAttr g.K Z5 "named") (Zg : Cls g.K Z0) (Z8 : NoAttr g.K Z0 "counts") (Zr : NoAttr g.K Z0 "low") (Zl : NoAttr g.K Z0 "span") : g.Me (k + 1) Z6 "blocks_at" ["self", "place", "left"] (Z1V (Cs.mk Z0 Z3 Z4 Z6 Z2 Z1 Z5) (m + 1)) := by
  refine R.me Z1a (fun vs H Q E h => by obtain ⟨w, t, p, T, ps, pl, left, sh, rfl, W, hg, hT, hsh, hl, hln, hms, hf, hR, q⟩ := h; rfl) fun f_ cdv A outer s H vs Q E hr h => ?_
  obtain ⟨w, t, p, T, ps, pl, left, sh, rfl, W, hg, hT, hsh, hl, hln, hms, hf, hR, q⟩ := h
  refine ⟨_, (@pss_cons _ _ _ _ _ (@ps_set _ _ (3) _ _ _ _ Z1a.nd rfl (Or.inr rfl) (@pe_ix _ _ _ _ _ _ _ ix_list (@pe_fld _ _ _ _ _ (@pv _ 0 _ _ (by rfl) (by first | exact Or.inl rfl | exact Or.inr (Or.inl rfl) | exact Or.inr (Or.inr rfl)) (by decide) (by decide)) rfl) (@pv _ 1 _ _ (by rfl) (by first | exact Or.inl rfl | exact Or.inr (Or.inl rfl) | exact Or.inr (Or.inr rfl)) (by decide) (by decide)) (fun _ _ => rfl)) (by rfl) (by first | exact .inl rfl | exact .inr rfl | assumption)) (@pss_one _ _ _ (@ps_ret _ _ _ _ (@pe_lc _ _ _ _ _ _ _ ([none, some 3, some 0, some 1, some 2]) ((["first", "part", "self", "place", "left"] : List Str)) _ (gName 0) _ _ (.own (.cap (i := 3) rfl rfl (by first | exact Or.inl rfl | exact Or.inr rfl) (.cap (i := 0) rfl rfl (by first | exact Or.inl rfl | exact Or.inr rfl) (.cap (i := 1) rfl rfl (by first | exact Or.inl rfl | exact Or.inr rfl) (.cap (i := 2) rfl rfl (by first | exact Or.inl rfl | exact Or.inr rfl) .nil))))) rfl (@pi_range1 _ _ _ _ _ _ rfl ZA (@pa_cons _ _ _ _ _ (@pe_op _ _ _ _ _ _ _ _ op_add (@pv _ 2 _ _ (by rfl) (by first | exact Or.inl rfl | exact Or.inr (Or.inl rfl) | exact Or.inr (Or.inr rfl)) (by decide) (by decide)) pe_int) pa_nil (by rfl)) (by rfl)) (fun cl C s₀ H₀ fp pn => (@pg_name _ _ (0) _ (show List.Nodup (["first", "part", "self", "place", "left"] : List Str) by decide +kernel) rfl (Or.inl rfl) (Or.inr rfl))) (fun cl C s₀ H₀ fp pn => pts_nil) (fun cl C s₀ H₀ fp pn => (@pe_tup _ _ _ _ _ (@pa_cons _ _ _ _ _ (@pe_either _ _ _ _ (@pe_me _ _ _ _ _ _ _ _ _ _ _ _ _ _ _ _ ZC Zg hr (@pv _ 1 _ _ (by rfl) (by first | exact Or.inl rfl | exact Or.inr (Or.inl rfl) | exact Or.inr (Or.inr rfl)) (by decide) (by decide)) (@pa_cons _ _ _ _ _ (@pv _ 0 _ _ (by rfl) (by first | exact Or.inl rfl | exact Or.inr (Or.inl rfl) | exact Or.inr (Or.inr rfl)) (by decide) (by decide)) pa_nil (by rfl)) (by omega) (by rfl) (by rfl) (by rfl) (by rfl)) (@pe_either _ _ _ _ (@pe_me _ _ _ _ _ _ _ _ _ _ _ _ _ _ _ _ Zy Zk hr (@pv _ 1 _ _ (by rfl) (by first | exact Or.inl rfl | exact Or.inr (Or.inl rfl) | exact Or.inr (Or.inr rfl)) (by decide) (by decide)) (@pa_cons _ _ _ _ _ (@pv _ 0 _ _ (by rfl) (by first | exact Or.inl rfl | exact Or.inr (Or.inl rfl) | exact Or.inr (Or.inr rfl)) (by decide) (by decide)) pa_nil (by rfl)) (by omega) (by rfl) (by rfl) (by rfl) (by rfl)) (@pe_either _ _ _ _ (@pe_me _ _ _ _ _ _ _ _ _ _ _ _ _ _ _ _ ZF Zq hr (@pv _ 1 _ _ (by rfl) (by first | exact Or.inl rfl | exact Or.inr (Or.inl rfl) | exact Or.inr (Or.inr rfl)) (by decide) (by decide)) (@pa_cons _ _ _ _ _ (@pv _ 0 _ _ (by rfl) (by first | exact Or.inl rfl | exact Or.inr (Or.inl rfl) | exact Or.inr (Or.inr rfl)) (by decide) (by decide)) pa_nil (by rfl)) (by omega) (by rfl) (by rfl) (by rfl) (by rfl)) (@pe_either _ _ _ _ (@pe_me _ _ _ _ _ _ _ _ _ _ _ _ _ _ _ _ ZB Zc hr (@pv _ 1 _ _ (by rfl) (by first | exact Or.inl rfl | exact Or.inr (Or.inl rfl) | exact Or.inr (Or.inr rfl)) (by decide) (by decide)) (@pa_cons _ _ _ _ _ (@pv _ 0 _ _ (by rfl) (by first | exact Or.inl rfl | exact Or.inr (Or.inl rfl) | exact Or.inr (Or.inr rfl)) (by decide) (by decide)) pa_nil (by rfl)) (by omega) (by rfl) (by rfl) (by rfl) (by rfl)) (@pe_either _ _ _ _ (@pe_me _ _ _ _ _ _ _ _ _ _ _ _ _ _ _ _ ZD Zi hr (@pv _ 1 _ _ (by rfl) (by first | exact Or.inl rfl | exact Or.inr (Or.inl rfl) | exact Or.inr (Or.inr rfl)) (by decide) (by decide)) (@pa_cons _ _ _ _ _ (@pv _ 0 _ _ (by rfl) (by first | exact Or.inl rfl | exact Or.inr (Or.inl rfl) | exact Or.inr (Or.inr rfl)) (by decide) (by decide)) pa_nil (by rfl)) (by omega) (by rfl) (by rfl) (by rfl) (by rfl)) (@pe_me _ _ _ _ _ _ _ _ _ _ _ _ _ _ _ _ ZG Zj hr (@pv _ 1 _ _ (by rfl) (by first | exact Or.inl rfl | exact Or.inr (Or.inl rfl) | exact Or.inr (Or.inr rfl)) (by decide) (by decide)) (@pa_cons _ _ _ _ _ (@pv _ 0 _ _ (by rfl) (by first | exact Or.inl rfl | exact Or.inr (Or.inl rfl) | exact Or.inr (Or.inr rfl)) (by decide) (by decide)) pa_nil (by rfl)) (by omega) (by rfl) (by rfl) (by rfl) (by rfl))))))) (@pa_cons _ _ _ _ _ (@pe_me _ _ _ _ _ _ _ _ _ _ _ _ _ _ _ _ Z0Q Zv hr (@pv _ 2 _ _ (by rfl) (by first | exact Or.inl rfl | exact Or.inr (Or.inl rfl) | exact Or.inr (Or.inr rfl)) (by decide) (by decide)) (@pa_cons _ _ _ _ _ (@pe_op _ _ _ _ _ _ _ _ op_add (@pv _ 3 _ _ (by rfl) (by first | exact Or.inl rfl | exact Or.inr (Or.inl rfl) | exact Or.inr (Or.inr rfl)) (by decide) (by decide)) pe_int) (@pa_cons _ _ _ _ _ (@pe_op _ _ _ _ _ _ _ _ op_sub (@pv _ 4 _ _ (by rfl) (by first | exact Or.inl rfl | exact Or.inr (Or.inl rfl) | exact Or.inr (Or.inr rfl)) (by decide) (by decide)) (@pv _ 0 _ _ (by rfl) (by first | exact Or.inl rfl | exact Or.inr (Or.inl rfl) | exact Or.inr (Or.inr rfl)) (by decide) (by decide))) pa_nil (by rfl)) (by rfl)) (by omega) (by rfl) (by rfl) (by rfl) (by rfl)) pa_nil (by rfl)) (by rfl)))) (by intro x hx; simp at hx; first | (subst hx; exact Or.inl rfl) | (rcases hx with rfl | rfl <;> exact Or.inl rfl) | (rcases hx with rfl | rfl | rfl <;> exact Or.inl rfl) | (rcases hx with rfl | rfl | rfl | rfl <;> exact Or.inl rfl) | (rcases hx with rfl | rfl | rfl | rfl | rfl <;> exact Or.inl rfl)) (by rfl) (by decide) (by decide +kernel) (by intro _; rfl))))), ?_⟩
  walk_at "rd"
  obtain ⟨P, dt, L, as, ws, dT, dP, dL, hP, hra, hpl, hTT, hLL, hwl, hws, hsm, hdp⟩ := row_at W hg hT
  have hpi := (List.getElem?_eq_some_iff.mp hsh).1
  have hal := hra.1
  have hai : as[pl]? = some (as[pl]'(by omega)) := List.getElem?_eq_getElem _
  generalize as[pl]'(by omega) = a at hai
  have hga := hra.2 pl a sh hai hsh
  have hds : dep sh ≤ deps ps := dep_mem (List.mem_of_getElem? hsh)
  have hdr : dep (.row ps) = deps ps + 1 := by rw [dep]
  refine ⟨_, _, _, hTT, Zv, Zx, _, rfl, P, rfl, _, SqL.of hP, .ref a, atI_nat (by rw [List.getElem?_map, hai]; rfl), ?_⟩
  refine tLC_rangeI (n := left + 1) (fun D i zs H' => ∃ t', Tr (Cs.mk Z0 Z3 Z4 Z6 Z2 Z1 Z5) w t H t' H' left (deps ps + 1) ∧ zs.length = i ∧ H' D = some (.lst zs) ∧ ¬ t'.U D ∧ ∀ (j : Nat) x, zs[j]? = some x → ∃ T, x = .ref T ∧ w.D T = none ∧ ¬ t'.U T ∧ T ≠ D ∧ H' T = some (.tup [.int (cnt w.bk sh j), .int (rowc w.bk (ps.drop (pl + 1)) (left - j))])) (fun R r => by walk_at "rd"; exact r) (by omega) ?_ ?_ ?_ ?_
  · intro D hD
    exact ⟨t, (Tr.refl W _ _).put hD (W.new hD).2 _, rfl, upd_same, (W.new hD).2, fun j x hx => by simp at hx⟩
  · rintro D i zs H' ⟨t', _, h1, h2, _⟩
    exact ⟨h1, h2⟩
  · rintro D i zs H' hD hi ⟨t', T1, hz, hd, hUD, hts⟩ R r
    have fm : fu w i (dep sh) + 5 ≤ fu w left (deps ps + 1) := fu_mono (by omega) (by omega)
    have dD : w.D D = none := (W.new hD).1
    walk_at "rd"
    refine any_call T1.wi hga (by omega) (by omega) ((T1.ready hR).mono (by omega)) fun t2 H2 T2 hn2 => ?_
    have T12 := T1.trans (T2.mono (by omega))
    have own := T12.own hg (by omega) hln
    have hd2 := T2.fr _ _ dD hd
    have hUD2 := T2.ours hUD hd
    refine ⟨_, _, T12.fr _ _ dT hTT, rfl, w, t2, p, T, ps, pl + 1, left - i, by rw [show (left : Int) - (i : Int) = ((left - i : Nat) : Int) by omega]; rfl, T2.wi, hg, T12.tb W hg hT, by omega, by omega, by omega, fun _ => ⟨?_, few (by decide), fun X gX => ?_⟩, fun h => ?_⟩
    · rw [own.2]
      have := hms (pl + 1) (by omega)
      omega
    · have nXD : X ≠ D := Ne.symm (ne_of_none hd2 gX)
      have sX := Same.upd_new gX (.tup [.int (cnt w.bk sh i), .int (rowc w.bk (ps.drop (pl + 1)) (left - i))])
      refine r _ _ (sX _ _ hd2) ⟨t2, (T12.same sX).put hD hUD2 _, by rw [List.length_append, hz]; rfl, upd_same, hUD2, fun j x hx => ?_⟩
      by_cases c : j < zs.length
      · rw [List.getElem?_append_left c] at hx
        obtain ⟨Y, rfl, y1, y2, y3, y4⟩ := hts j x hx
        exact ⟨Y, rfl, y1, T2.ours y2 y4, y3, by rw [upd_ne y3]; exact sX _ _ (T2.fr _ _ y1 y4)⟩
      · have hj : j = zs.length := by
          have := (List.getElem?_eq_some_iff.mp hx).1
          rw [List.length_append, List.length_singleton] at this
          omega
        subst hj
        rw [List.getElem?_append_right (Nat.le_refl _), Nat.sub_self] at hx
        have : V.ref X = x := Option.some.inj hx
        subst this
        exact ⟨X, rfl, (T2.wi.new gX).1, (T2.wi.new gX).2, nXD, by rw [upd_ne nXD, upd_same, hz]⟩
    · have := hms ps.length (by omega)
      rw [own.2] at h
      omega
  · rintro D zs H' hD ⟨t', T1, hz, hd, hUD, hts⟩
    refine q D t' H' T1 hD hUD ⟨zs, hd, by rw [hz, List.length_map, List.length_range], fun j x y hx hy => ?_⟩
    obtain ⟨X, rfl, _, _, _, hX⟩ := hts j x hx
    have hj := (List.getElem?_eq_some_iff.mp hx).1
    rw [List.getElem?_map, List.getElem?_range (by omega)] at hy
    have := Option.some.inj hy
    subst this
    exact ⟨X, rfl, hX⟩
theorem at_m1 {xs : List V} {n : Nat} {x : V} (hl : xs.length = n + 1) (h : xs[n]? = some x) : atI xs (-1) = some x := by
  have e : xs = xs.take n ++ [x] := by rw [← take_snoc h, List.take_of_length_le (by omega)]
  rw [e]
  exact atI_last _ _
theorem fTab_ways (P L : Addr) : (fTab P L).lookup ("ways" : Str) = some (.ref L) := by
  unfold fTab
  rw [List.lookup_cons, show (("ways" : Str) == ("parts" : Str)) = false by decide +kernel, List.lookup_cons, show (("ways" : Str) == ("ways" : Str)) = true by decide +kernel]
theorem fTab_no (P L : Addr) {m : Str} (hm : isF m = false) : (fTab P L).lookup m = none := by
  obtain ⟨a1, a2, a3, a4, a5, a6, a7, a8, a9, a10⟩ := isF_no hm
  unfold fTab
  rw [List.lookup_cons, a5, List.lookup_cons, a7]; rfl
theorem tFor_down0 {g : TG} {tb : TS} {D : Ends} {σ : St} {H : Hp} {ta : TA} {n : Nat} (Pv : Nat → St → Hp → Prop) (ha : ∀ R : List V → Hp → Prop, R [.int ((n : Int) - 1), .int (-1), .int (-1)] H → ta σ H R) (hn : n < 2 ^ 62) (h0 : Pv 0 σ H)
    (hs : ∀ i σ H, i < n → Pv i σ H → g (.int ((n - 1 - i : Nat) : Int)) σ H fun σ2 H2 => tb { D with nx := Pv (i + 1), ct := Pv (i + 1), bk := D.nx } σ2 H2) (hd : ∀ σ H, Pv n σ H → D.nx σ H) : tFor (iRngD ta) g tb D σ H := by
  refine ha _ ⟨(n : Int) - 1, -1, rfl, ⟨by omega, by omega, by omega, by omega⟩, ?_⟩
  have e : ((n : Int) - 1 - (-1)).toNat = n := by omega
  rw [e]
  refine ⟨fun i m σ H => m = n - i ∧ i ≤ n ∧ Pv i σ H, ⟨n, by simp, Nat.zero_le _, h0⟩, ?_⟩
  rintro i m σ H ⟨rfl, hi, p⟩
  by_cases hlt : i < n
  · refine .inr ⟨hlt, Pv (i + 1), fun σ' H' p' => ⟨n - (i + 1), by omega, rfl, hlt, p'⟩, fun x H' y => ?_⟩
    obtain ⟨e, y⟩ := y
    subst e y
    have := hs i σ _ hlt p
    have e2 : ((n - 1 - i : Nat) : Int) = (n : Int) - 1 - i := by omega
    rw [e2] at this
    exact this
  · have e : i = n := by omega
    subst e
    exact .inl ⟨Nat.le_refl _, hd σ H p⟩
theorem Z1p {k : Nat} {Z7 Z2 Z1 Z4 Z6 Z3 Z5 Z0 : Addr} (R : g.RawM Z6 "add_size" "RowTable.add_size" Z0E ["self", "size"]) (Z1I : g.Fn k "ways_of" ["blocks"] (Z1U g.K)) (Z2U : g.Me k Z6 "blocks_at" ["self", "place", "left"] (Z1V (Cs.mk Z0 Z3 Z4 Z6 Z2 Z1 Z5) m)) (b_len : g.mg "len" = none) (ZA : g.mg "range" = none) (Zv : Cls g.K Z6) (Zx : NoAttr g.K Z6 "parts") (Zu : NoAttr g.K Z6 "ways") : g.Me (k + 1) Z6 "add_size" ["self", "size"] (sp_add (Cs.mk Z0 Z3 Z4 Z6 Z2 Z1 Z5) (m + 1)) := by
  refine R.me Z1m (fun vs H Q E h => by obtain ⟨w, t, p, T, ps, sz, rfl, W, hg, hT, hms, hs, hsn, hf, hR, q⟩ := h; rfl) fun f_ cdv A outer s H vs Q E hr h => ?_
  obtain ⟨w, t, p, T, ps, sz, rfl, W, hg, hT, hms, hs, hsn, hf, hR, q⟩ := h
  refine ⟨_, (@pss_cons _ _ _ _ _ (@ps_expr _ _ _ _ (@pe_bm _ _ _ _ _ _ _ _ _ _ _ _ PySem.F.plainAttrs_list PySem.F.slot_list_append PySem.F.type_list_append mt_append (@pe_ix _ _ _ _ _ _ _ ix_list (@pe_fld _ _ _ _ _ (@pv _ 0 _ _ (by rfl) (by first | exact Or.inl rfl | exact Or.inr (Or.inl rfl) | exact Or.inr (Or.inr rfl)) (by decide) (by decide)) rfl) (@pe_un _ _ _ _ _ _ un_neg pe_int) (fun _ _ => rfl)) (@pa_cons _ _ _ _ _ (@pe_ifExp _ _ _ _ _ _ _ _ (@pt_cmpR _ _ _ _ _ _ _ _ op_eq (@pv _ 1 _ _ (by rfl) (by first | exact Or.inl rfl | exact Or.inr (Or.inl rfl) | exact Or.inr (Or.inr rfl)) (by decide) (by decide)) pe_int (nomark _)) pe_int pe_int) pa_nil (by rfl)) (by rfl) (by rfl) (by rfl) (by rfl) (by rfl)) (by rfl)) (@pss_one _ _ _ (@ps_for _ _ _ _ _ _ _ _ PassesOwn.never rfl (@pi_range3 _ _ _ _ _ _ _ _ rfl ZA (@pa_cons _ _ _ _ _ (@pe_op _ _ _ _ _ _ _ _ op_sub (@pe_bf _ _ _ _ _ _ _ _ _ _ b_len call_len_seq (@pa_cons _ _ _ _ _ (@pe_fld _ _ _ _ _ (@pv _ 0 _ _ (by rfl) (by first | exact Or.inl rfl | exact Or.inr (Or.inl rfl) | exact Or.inr (Or.inr rfl)) (by decide) (by decide)) rfl) pa_nil (by rfl)) (by decide +kernel) (by rfl) (by rfl) (by decide) (by decide) (by rfl) (by rfl)) pe_int) (@pa_cons _ _ _ _ _ (@pe_un _ _ _ _ _ _ un_neg pe_int) (@pa_cons _ _ _ _ _ (@pe_un _ _ _ _ _ _ un_neg pe_int) pa_nil (by rfl)) (by rfl)) (by rfl)) (by rfl) (by rfl)) (@pg_name _ _ (2) _ Z1m.nd rfl (Or.inl rfl) (by first | exact .inl rfl | exact .inr rfl | assumption)) (@pss_one _ _ _ (@ps_expr _ _ _ _ (@pe_bm _ _ _ _ _ _ _ _ _ _ _ _ PySem.F.plainAttrs_list PySem.F.slot_list_append PySem.F.type_list_append mt_append (@pe_ix _ _ _ _ _ _ _ ix_list (@pe_fld _ _ _ _ _ (@pv _ 0 _ _ (by rfl) (by first | exact Or.inl rfl | exact Or.inr (Or.inl rfl) | exact Or.inr (Or.inr rfl)) (by decide) (by decide)) rfl) (@pv _ 2 _ _ (by rfl) (by first | exact Or.inl rfl | exact Or.inr (Or.inl rfl) | exact Or.inr (Or.inr rfl)) (by decide) (by decide)) (fun _ _ => rfl)) (@pa_cons _ _ _ _ _ (@pe_fn _ _ _ _ _ _ _ _ _ _ _ _ Z1I hr (@pa_cons _ _ _ _ _ (@pe_me _ _ _ _ _ _ _ _ _ _ _ _ _ _ _ _ Z2U Zv hr (@pv _ 0 _ _ (by rfl) (by first | exact Or.inl rfl | exact Or.inr (Or.inl rfl) | exact Or.inr (Or.inr rfl)) (by decide) (by decide)) (@pa_cons _ _ _ _ _ (@pv _ 2 _ _ (by rfl) (by first | exact Or.inl rfl | exact Or.inr (Or.inl rfl) | exact Or.inr (Or.inr rfl)) (by decide) (by decide)) (@pa_cons _ _ _ _ _ (@pv _ 1 _ _ (by rfl) (by first | exact Or.inl rfl | exact Or.inr (Or.inl rfl) | exact Or.inr (Or.inr rfl)) (by decide) (by decide)) pa_nil (by rfl)) (by rfl)) (by omega) (by rfl) (by rfl) (by rfl) (by rfl)) pa_nil (by rfl)) (by omega) (by rfl) (by rfl) (by decide) (by rfl) (by rfl)) pa_nil (by rfl)) (by rfl) (by rfl) (by rfl) (by rfl) (by rfl)) (by rfl))) (by intro _; rfl)))), ?_⟩
  obtain ⟨P, dt, L, as, ws, dT, dP, dL, hP, hra, hpl, hTT, hLL, hwl, hws, hsm, hdp⟩ := row_at W hg hT
  have hwk : ws[ps.length]? = some (ws[ps.length]'(by omega)) := List.getElem?_eq_getElem _
  generalize ws[ps.length]'(by omega) = y at hwk
  obtain ⟨hDy, hny, hm60, hy⟩ := hws ps.length y hwk
  have hnn : t.ns p = sz := by have := hms ps.length; omega
  rw [hms] at hy
  have e0 : rowc w.bk (ps.drop ps.length) sz = if sz = 0 then 1 else 0 := by rw [List.drop_length, rowc_nil]
  have hdr : dep (.row ps) = deps ps + 1 := by rw [dep]
  have hbr : bnd sz (deps ps + 1) (.row ps) ≤ t.ns p := by rw [bnd, if_neg (by omega)]; omega
  refine cut1 (fun σ H' => σ = [some (.ref T), some (.int sz), none] ∧ H' = upd H y (.lst (cnts (rowc w.bk (ps.drop ps.length)) (sz + 1)))) ?_ (fun N hN => ?_)
  rotate_left
  · walk_at "rd"
    refine ⟨_, _, _, hTT, Zv, Zu, _, fTab_ways _ _, L, rfl, _, SqL.of hLL, .ref y, at_m1 (n := ps.length) (by rw [List.length_map, hwl]) (by rw [List.getElem?_map, hwk]; rfl), .inl ⟨rfl, _, SqL.of hy⟩, ite2 (fun c => ?_) (fun c => ?_)⟩
    · refine ⟨y, rfl, _, hy, by rw [cnts_len]; exact few (by omega), hN _ _ ⟨rfl, ?_⟩⟩
      rw [cnts_succ, e0, if_pos (by omega)]
    · refine ⟨y, rfl, _, hy, by rw [cnts_len]; exact few (by omega), hN _ _ ⟨rfl, ?_⟩⟩
      rw [cnts_succ, e0, if_neg (by omega)]
  rintro σ H1 ⟨rfl, rfl⟩
  have T0 : TrB (Cs.mk Z0 Z3 Z4 Z6 Z2 Z1 Z5) w t H t H sz (deps ps + 2) p := (Tr.refl W _ _).b rfl
  have T1 := T0.way hg hDy (hms _) (by omega) (fun j h1 h2 => by omega)
  walk_at "rd"
  refine tFor_down0 (n := ps.length) (fun i σ H' => ∃ (t' : Sw) (o : Option V), σ = [some (.ref T), some (.int sz), o] ∧ TrB (Cs.mk Z0 Z3 Z4 Z6 Z2 Z1 Z5) w t H t' H' sz (deps ps + 2) p ∧ (∀ j, ps.length - i ≤ j → t'.ms p j = sz + 1) ∧ ∀ j, j < ps.length - i → t'.ms p j = sz) (fun R r => ?_) (by omega) ⟨_, none, rfl, T1, fun j hj => if_pos ⟨rfl, hj⟩, fun j hj => (if_neg (fun z => by omega)).trans (hms j)⟩ ?_ ?_
  · walk_at "rd"
    refine ⟨_, _, _, T1.fr _ _ dT hTT, Zv, Zx, _, rfl, P, rfl, _, .inl (SqL.of (T1.fr _ _ dP hP)), ?_⟩
    rw [List.length_map, hra.1]
    exact r
  · rintro i σ H' hi ⟨t', o, rfl, T2, hge, hlt⟩
    obtain ⟨pl, hplq⟩ : ∃ pl, pl = ps.length - 1 - i := ⟨_, rfl⟩
    rw [← hplq]
    have hsh : ps[pl]? = some (ps[pl]'(by omega)) := List.getElem?_eq_getElem _
    generalize ps[pl]'(by omega) = sh at hsh
    have hwp : ws[pl]? = some (ws[pl]'(by omega)) := List.getElem?_eq_getElem _
    generalize ws[pl]'(by omega) = yy at hwp
    obtain ⟨hDyy, _, _, _⟩ := hws pl yy hwp
    have hT' : Tb (Cs.mk Z0 Z3 Z4 Z6 Z2 Z1 Z5) H' p T := by
      obtain ⟨dx, c, P', h⟩ := hT
      obtain ⟨_, _, _, hU, _⟩ := W.at_ p _ hg
      exact ⟨dx, c, P', T2.fr _ _ hU.1 h⟩
    obtain ⟨P2, dt2, L2, as2, ws2, _, _, _, _, _, _, _, _, hwl2, hws2, _, _⟩ := row_at T2.wi hg hT'
    have hwp2 : ws2[pl]? = some (ws2[pl]'(by omega)) := List.getElem?_eq_getElem _
    obtain ⟨hD2, _, _, hy2⟩ := hws2 pl _ hwp2
    rw [T2.wi.inj _ _ _ hD2 hDyy] at hy2
    walk_at "rd"
    refine ⟨_, _, _, T2.fr _ _ dT hTT, Zv, Zu, _, fTab_ways _ _, L, rfl, _, SqL.of (T2.fr _ _ dL hLL), .ref yy, atI_nat (by rw [List.getElem?_map, hwp]; rfl), .inl ⟨rfl, _, SqL.of hy2⟩, _, _, T2.fr _ _ dT hTT, fTab_no _ _ (by decide +kernel), ?_⟩
    refine ⟨w, t', p, T, ps, pl, sz, sh, rfl, T2.wi, hg, hT', hsh, hs, by rw [T2.own]; exact hsn, fun j hj => by rw [hge j (by omega)]; omega, by omega, T2.ready hg hbr hR, fun D t3 H3 T3 gD hUD hB => ?_⟩
    have own := T3.own hg (by omega) (by rw [T2.own]; exact hsn)
    have hlen : ((List.range (sz + 1)).map fun f => (cnt w.bk sh f, rowc w.bk (ps.drop (pl + 1)) (sz - f))).length = sz + 1 := by simp
    refine ⟨D, _, rfl, hB, by rw [hlen]; omega, fun x hx => ?_, fun H4 s4 => ?_⟩
    · obtain ⟨f, hf', rfl⟩ := List.mem_map.mp hx
      have hf' := List.mem_range.mp hf'
      have hga : ∃ a, w.reg a = some sh := by
        have hai : as[pl]? = some (as[pl]'(by have := hra.1; omega)) := List.getElem?_eq_getElem _
        exact ⟨_, hra.2 pl _ sh hai hsh⟩
      obtain ⟨a, hga⟩ := hga
      obtain ⟨_, _, _, _, _, hsma, _⟩ := W.at_ a sh hga
      exact ⟨hsma f (by omega), hsm _ _ (by omega)⟩
    have T4 := (T2.trans ((T3.mono (by omega)).b own.1)).same s4
    have T5 := T4.way (i := pl) hg hDyy (by rw [own.2]; exact hlt pl (by omega)) (by omega) (fun j h1 h2 => by rw [own.2]; exact hge j (by omega))
    obtain ⟨P4, dt4, L4, as4, ws4, _, _, _, _, _, _, _, _, hwl4, hws4, _, _⟩ := row_at T3.wi hg (T3.tb T2.wi hg hT')
    have hwp4 : ws4[pl]? = some (ws4[pl]'(by omega)) := List.getElem?_eq_getElem _
    obtain ⟨hD4, _, _, hy4⟩ := hws4 pl _ hwp4
    rw [T3.wi.inj _ _ _ hD4 hDyy, own.2, hlt pl (by omega)] at hy4
    have hy4 := s4 _ _ hy4
    refine ⟨yy, rfl, _, hy4, by rw [cnts_len]; exact few (by omega), t3.setm p pl (sz + 1), ?_, fun j hj => ?_, fun j hj => ?_⟩
    · have esum : (((List.range (sz + 1)).map fun f => (cnt w.bk sh f, rowc w.bk (ps.drop (pl + 1)) (sz - f))).map fun p => p.1 * p.2).sum = rowc w.bk (ps.drop pl) sz := by
        rw [List.drop_eq_getElem_cons (by omega : pl < ps.length), rowc_cons, List.map_map]
        have : ps[pl]'(by omega) = sh := by
          have := List.getElem?_eq_getElem (l := ps) (i := pl) (by omega)
          rw [this] at hsh
          exact Option.some.inj hsh
        rw [this]
        rfl
      rw [esum, ← cnts_succ]
      exact T5
    · show (if p = p ∧ pl ≤ j then _ else _) = _
      rw [if_pos ⟨rfl, by omega⟩]
    · show (if p = p ∧ pl ≤ j then _ else _) = _
      rw [if_neg (by omega), own.2]
      exact hlt j (by omega)
  · rintro σ H' ⟨t', o, rfl, T2, hge, hlt⟩
    walk_at "rd"
    have hall : ∀ i, t'.ms p i = sz + 1 := fun i => hge i (by omega)
    exact q t' H' (T2.to hg (by omega) (by omega) (fun i => by rw [hall, hall])) T2.own hall
theorem Z1A {k : Nat} {Z7 Z2 Z1 Z4 Z6 Z3 Z5 Z0 : Addr} (R : g.RawM Z6 "ways_at" "RowTable.ways_at" Z0P ["self", "place", "left"]) (Z3g : g.Me k Z6 "add_size" ["self", "size"] (sp_add (Cs.mk Z0 Z3 Z4 Z6 Z2 Z1 Z5) m)) (b_len : g.mg "len" = none) (Zv : Cls g.K Z6) (Zx : NoAttr g.K Z6 "parts") (Zu : NoAttr g.K Z6 "ways") : g.Me (k + 1) Z6 "ways_at" ["self", "place", "left"] (sp_ways (Cs.mk Z0 Z3 Z4 Z6 Z2 Z1 Z5) (m + 1)) := by
  refine R.me Z3d (fun vs H Q E h => by obtain ⟨w, t, p, T, ps, pl, left, rfl, W, hg, hT, hpl, hl, hm1, q1, q2⟩ := h; rfl) fun f_ cdv A outer s H vs Q E hr h => ?_
  obtain ⟨w, t, p, T, ps, pl, left, rfl, W, hg, hT, hpl, hl, hm1, q1, q2⟩ := h
  refine ⟨_, (@pss_cons _ _ _ _ _ (@ps_while _ _ _ _ _ _ PassesOwn.never (@pt_cmpR _ _ _ _ _ _ _ _ op_le (@pe_bf _ _ _ _ _ _ _ _ _ _ b_len call_len_seq (@pa_cons _ _ _ _ _ (@pe_ix _ _ _ _ _ _ _ ix_list (@pe_fld _ _ _ _ _ (@pv _ 0 _ _ (by rfl) (by first | exact Or.inl rfl | exact Or.inr (Or.inl rfl) | exact Or.inr (Or.inr rfl)) (by decide) (by decide)) rfl) (@pe_un _ _ _ _ _ _ un_neg pe_int) (fun _ _ => rfl)) pa_nil (by rfl)) (by decide +kernel) (by rfl) (by rfl) (by decide) (by decide) (by rfl) (by rfl)) (@pv _ 2 _ _ (by rfl) (by first | exact Or.inl rfl | exact Or.inr (Or.inl rfl) | exact Or.inr (Or.inr rfl)) (by decide) (by decide)) (nomark _)) (@pss_one _ _ _ (@ps_expr _ _ _ _ (@pe_me _ _ _ _ _ _ _ _ _ _ _ _ _ _ _ _ Z3g Zv hr (@pv _ 0 _ _ (by rfl) (by first | exact Or.inl rfl | exact Or.inr (Or.inl rfl) | exact Or.inr (Or.inr rfl)) (by decide) (by decide)) (@pa_cons _ _ _ _ _ (@pe_bf _ _ _ _ _ _ _ _ _ _ b_len call_len_seq (@pa_cons _ _ _ _ _ (@pe_ix _ _ _ _ _ _ _ ix_list (@pe_fld _ _ _ _ _ (@pv _ 0 _ _ (by rfl) (by first | exact Or.inl rfl | exact Or.inr (Or.inl rfl) | exact Or.inr (Or.inr rfl)) (by decide) (by decide)) rfl) (@pe_un _ _ _ _ _ _ un_neg pe_int) (fun _ _ => rfl)) pa_nil (by rfl)) (by decide +kernel) (by rfl) (by rfl) (by decide) (by decide) (by rfl) (by rfl)) pa_nil (by rfl)) (by omega) (by rfl) (by rfl) (by rfl) (by rfl)) (by rfl)))) (@pss_one _ _ _ (@ps_ret _ _ _ _ (@pe_ix _ _ _ _ _ _ _ ix_list (@pe_ix _ _ _ _ _ _ _ ix_list (@pe_fld _ _ _ _ _ (@pv _ 0 _ _ (by rfl) (by first | exact Or.inl rfl | exact Or.inr (Or.inl rfl) | exact Or.inr (Or.inr rfl)) (by decide) (by decide)) rfl) (@pv _ 1 _ _ (by rfl) (by first | exact Or.inl rfl | exact Or.inr (Or.inl rfl) | exact Or.inr (Or.inr rfl)) (by decide) (by decide)) (fun _ _ => rfl)) (@pv _ 2 _ _ (by rfl) (by first | exact Or.inl rfl | exact Or.inr (Or.inl rfl) | exact Or.inr (Or.inr rfl)) (by decide) (by decide)) (fun _ _ => rfl))))), ?_⟩
  obtain ⟨P, dt, L, as, ws, dT, dP, dL, hP, hra, hpl', hTT, hLL, hwl, hws, hsm, hdp⟩ := row_at W hg hT
  have hwk : ws[ps.length]? = some (ws[ps.length]'(by omega)) := List.getElem?_eq_getElem _
  generalize ws[ps.length]'(by omega) = y at hwk
  obtain ⟨hDy, hny, hm60, hy⟩ := hws ps.length y hwk
  have hwp : ws[pl]? = some (ws[pl]'(by omega)) := List.getElem?_eq_getElem _
  generalize ws[pl]'(by omega) = yp at hwp
  obtain ⟨hDp, hnp, hmp, hyp⟩ := hws pl yp hwp
  have hm1' : atI (ws.map V.ref) (-1) = some (.ref y) := at_m1 (n := ps.length) (by rw [List.length_map, hwl]) (by rw [List.getElem?_map, hwk]; rfl)
  have hmp' : atI (ws.map V.ref) (pl : Int) = some (.ref yp) := atI_nat (by rw [List.getElem?_map, hwp]; rfl)
  walk_at "rd"
  by_cases cs : left < t.ms p ps.length
  · refine while_of (α := Unit) (fun x σ H' => σ = [some (.ref T), some (.int pl), some (.int left)] ∧ H = H') (fun x => false) (fun x => 0) () ⟨rfl, rfl⟩ ?_ ?_ ?_
    · rintro x σ H' ⟨rfl, rfl⟩ R r
      walk_at "rd"
      refine ⟨_, _, _, hTT, Zv, Zu, _, fTab_ways _ _, L, rfl, _, SqL.of hLL, _, hm1', y, rfl, _, .inl (SqL.of hy), ?_⟩
      rw [cnts_len, dle, decide_eq_false (by omega)]
      exact r H ⟨rfl, rfl⟩
    · rintro x σ H' ⟨rfl, rfl⟩ hd
      cases hd
    · rintro x σ H' ⟨rfl, rfl⟩ hd
      walk_at "rd"
      exact ⟨_, _, _, hTT, Zv, Zu, _, fTab_ways _ _, L, rfl, _, SqL.of hLL, _, hmp', yp, rfl, _, SqL.of hyp, _, cnts_at _ (q1 cs).1, (q1 cs).2⟩
  · obtain ⟨hU, hln, hf, hR, q⟩ := q2 (by omega)
    have hms : ∀ i, t.ms p i = left := fun i => by have := hU i; have := hU ps.length; omega
    have T0 : ∀ (x : Sw) (H' : Hp), Tr (Cs.mk Z0 Z3 Z4 Z6 Z2 Z1 Z5) w t H x H' left (deps ps + 2) → (∀ i, x.ms p i = left + 1) → H' y = some (.lst (cnts (rowc w.bk (ps.drop ps.length)) (left + 1))) ∧ H' yp = some (.lst (cnts (rowc w.bk (ps.drop pl)) (left + 1))) := fun x H' T1 hx => by
      obtain ⟨P2, dt2, L2, as2, ws2, _, _, _, _, _, _, _, _, hwl2, hws2, _, _⟩ := row_at T1.wi hg (T1.tb W hg hT)
      have h1 : ws2[ps.length]? = some (ws2[ps.length]'(by omega)) := List.getElem?_eq_getElem _
      have h2 : ws2[pl]? = some (ws2[pl]'(by omega)) := List.getElem?_eq_getElem _
      obtain ⟨k1, _, _, k4⟩ := hws2 _ _ h1
      obtain ⟨j1, _, _, j4⟩ := hws2 _ _ h2
      rw [T1.wi.inj _ _ _ k1 hDy, hx] at k4
      rw [T1.wi.inj _ _ _ j1 hDp, hx] at j4
      exact ⟨k4, j4⟩
    rw [hms] at hy
    refine while_of (α := Bool × Sw) (fun x σ H' => σ = [some (.ref T), some (.int pl), some (.int left)] ∧ (x.1 = false → x.2 = t ∧ H' = H) ∧ (x.1 = true → Tr (Cs.mk Z0 Z3 Z4 Z6 Z2 Z1 Z5) w t H x.2 H' left (deps ps + 2) ∧ x.2.ns p = t.ns p ∧ ∀ i, x.2.ms p i = left + 1)) (fun x => !x.1) (fun x => if x.1 then 0 else 1) (false, t) ⟨rfl, fun _ => ⟨rfl, rfl⟩, fun z => by cases z⟩ ?_ ?_ ?_
    · rintro ⟨b, x⟩ σ H' ⟨rfl, h1, h2⟩ R r
      have rr := r H' ⟨rfl, h1, h2⟩
      walk_at "rd"
      cases b with
      | false =>
        obtain ⟨rfl, rfl⟩ := h1 rfl
        refine ⟨_, _, _, hTT, Zv, Zu, _, fTab_ways _ _, L, rfl, _, SqL.of hLL, _, hm1', y, rfl, _, .inl (SqL.of hy), ?_⟩
        rw [cnts_len, dle, decide_eq_true (by omega)]
        exact rr
      | true =>
        obtain ⟨T1, _, hx⟩ := h2 rfl
        refine ⟨_, _, _, T1.fr _ _ dT hTT, Zv, Zu, _, fTab_ways _ _, L, rfl, _, SqL.of (T1.fr _ _ dL hLL), _, hm1', y, rfl, _, .inl (SqL.of (T0 x H' T1 hx).1), ?_⟩
        rw [cnts_len, dle, decide_eq_false (by omega)]
        exact rr
    · rintro ⟨b, x⟩ σ H' ⟨rfl, h1, h2⟩ hd
      cases b with
      | true => cases hd
      | false =>
        obtain ⟨rfl, rfl⟩ := h1 rfl
        walk_at "rd"
        refine ⟨_, _, hTT, fTab_no _ _ (by decide +kernel), _, _, _, hTT, Zv, Zu, _, fTab_ways _ _, L, rfl, _, SqL.of hLL, _, hm1', y, rfl, _, .inl (SqL.of hy), ?_⟩
        rw [cnts_len]
        exact ⟨w, x, p, T, ps, left, rfl, W, hg, hT, hms, hl, hln, by omega, hR, fun t' H' T1 hn hx => ⟨(true, t'), (fun z => by cases z), fun _ => ⟨T1, hn, hx⟩, Nat.zero_lt_one⟩⟩
    · rintro ⟨b, x⟩ σ H' ⟨rfl, h1, h2⟩ hd
      cases b with
      | false => cases hd
      | true =>
        obtain ⟨T1, hn, hx⟩ := h2 rfl
        walk_at "rd"
        exact ⟨_, _, _, T1.fr _ _ dT hTT, Zv, Zu, _, fTab_ways _ _, L, rfl, _, SqL.of (T1.fr _ _ dL hLL), _, hmp', yp, rfl, _, SqL.of (T0 x H' T1 hx).2, _, cnts_at _ (by omega), q x H' T1 hn (fun i => by rw [hx, hx]) (by rw [hx]; omega)⟩
theorem mf_table (c P T : Addr) : (mf c (fR P T)).lookup ("table" : Str) = some (.ref T) := by
  unfold mf fR
  rw [List.lookup_cons, show (("table" : Str) == ("counts" : Str)) = false by decide +kernel, List.lookup_cons, show (("table" : Str) == ("parts" : Str)) = false by decide +kernel, List.lookup_cons, show (("table" : Str) == ("table" : Str)) = true by decide +kernel]
theorem Z1q {k : Nat} {Z7 Z2 Z1 Z4 Z6 Z3 Z5 Z0 : Addr} (R : g.RawM Z4 "reckoned" "RowMaker.reckoned" Z0G ["self", "size"]) (Z0Q : g.Me k Z6 "ways_at" ["self", "place", "left"] (sp_ways (Cs.mk Z0 Z3 Z4 Z6 Z2 Z1 Z5) m)) (Zq : Cls g.K Z4) (Zd : NoAttr g.K Z4 "counts") (Zs : NoAttr g.K Z4 "parts") (Zp : NoAttr g.K Z4 "table") (Zv : Cls g.K Z6) (Zx : NoAttr g.K Z6 "parts") (Zu : NoAttr g.K Z6 "ways") : g.Me (k + 1) Z4 "reckoned" ["self", "size"] (sp_reck (Cs.mk Z0 Z3 Z4 Z6 Z2 Z1 Z5) 2 (m + 1)) := by
  refine R.me Z2M (fun vs H Q E h => by obtain ⟨w, t, p, sh, sz, rfl, hk, W, hg, hn, hs, hf, hR, q⟩ := h; rfl) fun f_ cdv A outer s H vs Q E hr h => ?_
  obtain ⟨w, t, p, sh, sz, rfl, hk, W, hg, hn, hs, hf, hR, q⟩ := h
  refine ⟨_, (@pss_one _ _ _ (@ps_ret _ _ _ _ (@pe_me _ _ _ _ _ _ _ _ _ _ _ _ _ _ _ _ Z0Q Zv hr (@pe_fld _ _ _ _ _ (@pv _ 0 _ _ (by rfl) (by first | exact Or.inl rfl | exact Or.inr (Or.inl rfl) | exact Or.inr (Or.inr rfl)) (by decide) (by decide)) rfl) (@pa_cons _ _ _ _ _ pe_int (@pa_cons _ _ _ _ _ (@pv _ 1 _ _ (by rfl) (by first | exact Or.inl rfl | exact Or.inr (Or.inl rfl) | exact Or.inr (Or.inr rfl)) (by decide) (by decide)) pa_nil (by rfl)) (by rfl)) (by omega) (by rfl) (by rfl) (by rfl) (by rfl)))), ?_⟩
  cases sh with
  | row ps =>
    obtain ⟨dx, c, fs, hU, hd, hsm, hns, hp, hDc, hc, hsub⟩ := W.at_ p _ hg
    obtain ⟨P, T, dt, L, as, ws, rfl, h2, h3, h4, h5, h6, h7, h8, h9, h10, h11, h12⟩ := hsub
    have hT : Tb (Cs.mk Z0 Z3 Z4 Z6 Z2 Z1 Z5) H p T := ⟨dx, c, P, hp⟩
    have hdr : dep (.row ps) = deps ps + 1 := by rw [dep]
    rw [hdr] at hf hR
    have hUni : Uni t p := hR p _ hg (by rw [hn, bnd, if_pos (by omega)]; omega)
    have hwk : ws[ps.length]? = some (ws[ps.length]'(by omega)) := List.getElem?_eq_getElem _
    obtain ⟨_, hnk, _, _⟩ := h11 _ _ hwk
    have hw0 : ws[0]? = some (ws[0]'(by omega)) := List.getElem?_eq_getElem _
    obtain ⟨_, hn0, _, _⟩ := h11 _ _ hw0
    walk_at "rd"
    refine ⟨_, _, _, hp, Zq, Zp, _, mf_table _ _ _, T, rfl, _, _, h8, fTab_no _ _ (by decide +kernel), w, t, p, T, ps, 0, sz, rfl, W, hg, hT, by omega, hs, by omega, fun h => ⟨by rw [← hUni ps.length]; exact h, ?_⟩, fun h => ⟨hUni, by omega, by omega, hR.mono (by omega), fun t' H' T1 hn' hU' hl' => ?_⟩⟩
    · have := q t H (.refl W _ _) hn fun ps' z i => by
        have := Sh.row.inj z
        subst this
        rw [hUni i, ← hUni ps.length]; omega
      rw [cnt_row] at this
      exact this
    · have hful : ∀ i, sz + 1 ≤ t'.ms p i := fun i => by
        rw [hU' i]; exact hl'
      have := q t' H' (by rw [hdr]; exact T1) (by omega) fun ps' z i => hful i
      rw [cnt_row] at this
      exact this
  | _ => simp [kind] at hk
def Z1W (C : Cs) (l : Nat) : Sp := fun vs H Q _ => ∃ (w : Wo) (t : Sw) (p : Addr) (sh : Sh) (left : Nat), vs = [.ref p, .int left] ∧ WI C w t H ∧ w.reg p = some (.many sh) ∧ left ≤ 40 ∧ left ≤ t.ns p ∧ fu w left (dep sh + 1) + 3 ≤ l ∧ Ready w t left (dep sh + 1) ∧
  ∀ D t' H', Tr C w t H t' H' left (dep sh + 1) → H D = none → ¬ t'.U D → Blk H' D ((List.range left).map fun f => (cnt w.bk sh f, cnt w.bk (.many sh) (left - 1 - f))) → Q (.ref D) H'
def Z1X (C : Cs) (l : Nat) : Sp := fun vs H Q _ => ∃ (w : Wo) (t : Sw) (p : Addr) (mk : List (List Nat)) (ps : List Sh) (sz : Nat), vs = [.ref p, .int sz] ∧ WI C w t H ∧ w.reg p = some (.pick mk ps) ∧ sz ≤ 40 ∧ sz ≤ t.ns p ∧ fu w sz (deps ps + 1) + 3 ≤ l ∧ Ready w t sz (deps ps + 1) ∧
  ∀ D t' H', Tr C w t H t' H' sz (deps ps + 1) → H D = none → ¬ t'.U D → Blk H' D (ps.map fun sh => (cnt w.bk sh sz, 1)) → Q (.ref D) H'
theorem no_mblocks {C : Cs} {vs : List V} {H : Hp} {Q : VK} {E : XK} (h : Z1W C 0 vs H Q E) : False := by
  obtain ⟨w, t, p, sh, left, _, _, _, _, _, h, _⟩ := h
  omega
theorem no_pblocks {C : Cs} {vs : List V} {H : Hp} {Q : VK} {E : XK} (h : Z1X C 0 vs H Q E) : False := by
  obtain ⟨w, t, p, mk, ps, sz, _, _, _, _, _, h, _⟩ := h
  omega
theorem mf_part (c a : Addr) : (mf c (fM a)).lookup ("part" : Str) = some (.ref a) := by
  unfold mf fM
  rw [List.lookup_cons, show (("part" : Str) == ("counts" : Str)) = false by decide +kernel, List.lookup_cons, show (("part" : Str) == ("part" : Str)) = true by decide +kernel]
theorem mf_pparts (c M P : Addr) : (mf c (fP M P)).lookup ("parts" : Str) = some (.ref P) := by
  unfold mf fP
  rw [List.lookup_cons, show (("parts" : Str) == ("counts" : Str)) = false by decide +kernel, List.lookup_cons, show (("parts" : Str) == ("marks" : Str)) = false by decide +kernel, List.lookup_cons, show (("parts" : Str) == ("parts" : Str)) = true by decide +kernel]
theorem mf_named (c : Addr) (a : V) : (mf c (fU a)).lookup ("named" : Str) = some a := by
  unfold mf fU
  rw [List.lookup_cons, show (("named" : Str) == ("counts" : Str)) = false by decide +kernel, List.lookup_cons, show (("named" : Str) == ("named" : Str)) = true by decide +kernel]
theorem or6 {A0 A1 A2 A3 A4 A5 B0 B1 B2 B3 B4 B5 : Prop} (f0 : A0 → B0) (f1 : A1 → B1) (f2 : A2 → B2) (f3 : A3 → B3) (f4 : A4 → B4) (f5 : A5 → B5) (h : A0 ∨ A1 ∨ A2 ∨ A3 ∨ A4 ∨ A5) : B0 ∨ B1 ∨ B2 ∨ B3 ∨ B4 ∨ B5 := by
  rcases h with h | h | h | h | h | h
  · exact .inl (f0 h)
  · exact .inr (.inl (f1 h))
  · exact .inr (.inr (.inl (f2 h)))
  · exact .inr (.inr (.inr (.inl (f3 h))))
  · exact .inr (.inr (.inr (.inr (.inl (f4 h)))))
  · exact .inr (.inr (.inr (.inr (.inr (f5 h)))))
theorem Z11 {k : Nat} {Z7 Z2 Z1 Z4 Z6 Z3 Z5 Z0 : Addr} (R : g.RawM Z2 "blocks_at" "ManyMaker.blocks_at" Z0k ["self", "left"]) (ZC : g.Me k Z0 "count_at" ["self", "size"] (Zt (Cs.mk Z0 Z3 Z4 Z6 Z2 Z1 Z5) 0 m)) (Zy : g.Me k Z3 "count_at" ["self", "size"] (Zt (Cs.mk Z0 Z3 Z4 Z6 Z2 Z1 Z5) 1 m)) (ZF : g.Me k Z4 "count_at" ["self", "size"] (Zt (Cs.mk Z0 Z3 Z4 Z6 Z2 Z1 Z5) 2 m)) (ZB : g.Me k Z2 "count_at" ["self", "size"] (Zt (Cs.mk Z0 Z3 Z4 Z6 Z2 Z1 Z5) 4 m)) (ZD : g.Me k Z1 "count_at" ["self", "size"] (Zt (Cs.mk Z0 Z3 Z4 Z6 Z2 Z1 Z5) 3 m)) (ZG : g.Me k Z5 "count_at" ["self", "size"] (Zt (Cs.mk Z0 Z3 Z4 Z6 Z2 Z1 Z5) 5 m)) (ZA : g.mg "range" = none) (Zc : Cls g.K Z2) (Zb : NoAttr g.K Z2 "counts") (Zh : NoAttr g.K Z2 "part") (Zi : Cls g.K Z1) (Za : NoAttr g.K Z1 "counts") (Zo : NoAttr g.K Z1 "marks") (Zn : NoAttr g.K Z1 "parts") (Zq : Cls g.K Z4) (Zd : NoAttr g.K Z4 "counts") (Zs : NoAttr g.K Z4 "parts") (Zp : NoAttr g.K Z4 "table") (Zk : Cls g.K Z3) (Z9 : NoAttr g.K Z3 "counts") (Zm : NoAttr g.K Z3 "signs") (Zj : Cls g.K Z5) (Ze : NoAttr g.K Z5 "counts") (Zf : NoAttr g.K Z5 "named") (Zg : Cls g.K Z0) (Z8 : NoAttr g.K Z0 "counts") (Zr : NoAttr g.K Z0 "low") (Zl : NoAttr g.K Z0 "span") : g.Me (k + 1) Z2 "blocks_at" ["self", "left"] (Z1W (Cs.mk Z0 Z3 Z4 Z6 Z2 Z1 Z5) (m + 1)) := by
  refine R.me Z29 (fun vs H Q E h => by obtain ⟨w, t, p, sh, left, rfl, W, hg, hl, hln, hf, hR, q⟩ := h; rfl) fun f_ cdv A outer s H vs Q E hr h => ?_
  obtain ⟨w, t, p, sh, left, rfl, W, hg, hl, hln, hf, hR, q⟩ := h
  refine ⟨_, (@pss_one _ _ _ (@ps_ret _ _ _ _ (@pe_lc _ _ _ _ _ _ _ ([none, some 0, some 1]) ((["first", "self", "left"] : List Str)) _ (gName 0) _ _ (.own (.cap (i := 0) rfl rfl (by first | exact Or.inl rfl | exact Or.inr rfl) (.cap (i := 1) rfl rfl (by first | exact Or.inl rfl | exact Or.inr rfl) .nil))) rfl (@pi_range1 _ _ _ _ _ _ rfl ZA (@pa_cons _ _ _ _ _ (@pv _ 1 _ _ (by rfl) (by first | exact Or.inl rfl | exact Or.inr (Or.inl rfl) | exact Or.inr (Or.inr rfl)) (by decide) (by decide)) pa_nil (by rfl)) (by rfl)) (fun cl C s₀ H₀ fp pn => (@pg_name _ _ (0) _ (show List.Nodup (["first", "self", "left"] : List Str) by decide +kernel) rfl (Or.inl rfl) (Or.inr rfl))) (fun cl C s₀ H₀ fp pn => pts_nil) (fun cl C s₀ H₀ fp pn => (@pe_tup _ _ _ _ _ (@pa_cons _ _ _ _ _ (@pe_either _ _ _ _ (@pe_me _ _ _ _ _ _ _ _ _ _ _ _ _ _ _ _ ZC Zg hr (@pe_fldK _ _ _ _ _ (g.K) (@pv _ 1 _ _ (by rfl) (by first | exact Or.inl rfl | exact Or.inr (Or.inl rfl) | exact Or.inr (Or.inr rfl)) (by decide) (by decide)) rfl (by rfl)) (@pa_cons _ _ _ _ _ (@pv _ 0 _ _ (by rfl) (by first | exact Or.inl rfl | exact Or.inr (Or.inl rfl) | exact Or.inr (Or.inr rfl)) (by decide) (by decide)) pa_nil (by rfl)) (by omega) (by rfl) (by rfl) (by rfl) (by rfl)) (@pe_either _ _ _ _ (@pe_me _ _ _ _ _ _ _ _ _ _ _ _ _ _ _ _ Zy Zk hr (@pe_fldK _ _ _ _ _ (g.K) (@pv _ 1 _ _ (by rfl) (by first | exact Or.inl rfl | exact Or.inr (Or.inl rfl) | exact Or.inr (Or.inr rfl)) (by decide) (by decide)) rfl (by rfl)) (@pa_cons _ _ _ _ _ (@pv _ 0 _ _ (by rfl) (by first | exact Or.inl rfl | exact Or.inr (Or.inl rfl) | exact Or.inr (Or.inr rfl)) (by decide) (by decide)) pa_nil (by rfl)) (by omega) (by rfl) (by rfl) (by rfl) (by rfl)) (@pe_either _ _ _ _ (@pe_me _ _ _ _ _ _ _ _ _ _ _ _ _ _ _ _ ZF Zq hr (@pe_fldK _ _ _ _ _ (g.K) (@pv _ 1 _ _ (by rfl) (by first | exact Or.inl rfl | exact Or.inr (Or.inl rfl) | exact Or.inr (Or.inr rfl)) (by decide) (by decide)) rfl (by rfl)) (@pa_cons _ _ _ _ _ (@pv _ 0 _ _ (by rfl) (by first | exact Or.inl rfl | exact Or.inr (Or.inl rfl) | exact Or.inr (Or.inr rfl)) (by decide) (by decide)) pa_nil (by rfl)) (by omega) (by rfl) (by rfl) (by rfl) (by rfl)) (@pe_either _ _ _ _ (@pe_me _ _ _ _ _ _ _ _ _ _ _ _ _ _ _ _ ZB Zc hr (@pe_fldK _ _ _ _ _ (g.K) (@pv _ 1 _ _ (by rfl) (by first | exact Or.inl rfl | exact Or.inr (Or.inl rfl) | exact Or.inr (Or.inr rfl)) (by decide) (by decide)) rfl (by rfl)) (@pa_cons _ _ _ _ _ (@pv _ 0 _ _ (by rfl) (by first | exact Or.inl rfl | exact Or.inr (Or.inl rfl) | exact Or.inr (Or.inr rfl)) (by decide) (by decide)) pa_nil (by rfl)) (by omega) (by rfl) (by rfl) (by rfl) (by rfl)) (@pe_either _ _ _ _ (@pe_me _ _ _ _ _ _ _ _ _ _ _ _ _ _ _ _ ZD Zi hr (@pe_fldK _ _ _ _ _ (g.K) (@pv _ 1 _ _ (by rfl) (by first | exact Or.inl rfl | exact Or.inr (Or.inl rfl) | exact Or.inr (Or.inr rfl)) (by decide) (by decide)) rfl (by rfl)) (@pa_cons _ _ _ _ _ (@pv _ 0 _ _ (by rfl) (by first | exact Or.inl rfl | exact Or.inr (Or.inl rfl) | exact Or.inr (Or.inr rfl)) (by decide) (by decide)) pa_nil (by rfl)) (by omega) (by rfl) (by rfl) (by rfl) (by rfl)) (@pe_me _ _ _ _ _ _ _ _ _ _ _ _ _ _ _ _ ZG Zj hr (@pe_fldK _ _ _ _ _ (g.K) (@pv _ 1 _ _ (by rfl) (by first | exact Or.inl rfl | exact Or.inr (Or.inl rfl) | exact Or.inr (Or.inr rfl)) (by decide) (by decide)) rfl (by rfl)) (@pa_cons _ _ _ _ _ (@pv _ 0 _ _ (by rfl) (by first | exact Or.inl rfl | exact Or.inr (Or.inl rfl) | exact Or.inr (Or.inr rfl)) (by decide) (by decide)) pa_nil (by rfl)) (by omega) (by rfl) (by rfl) (by rfl) (by rfl))))))) (@pa_cons _ _ _ _ _ (@pe_me _ _ _ _ _ _ _ _ _ _ _ _ _ _ _ _ ZB Zc hr (@pv _ 1 _ _ (by rfl) (by first | exact Or.inl rfl | exact Or.inr (Or.inl rfl) | exact Or.inr (Or.inr rfl)) (by decide) (by decide)) (@pa_cons _ _ _ _ _ (@pe_op _ _ _ _ _ _ _ _ op_sub (@pe_op _ _ _ _ _ _ _ _ op_sub (@pv _ 2 _ _ (by rfl) (by first | exact Or.inl rfl | exact Or.inr (Or.inl rfl) | exact Or.inr (Or.inr rfl)) (by decide) (by decide)) pe_int) (@pv _ 0 _ _ (by rfl) (by first | exact Or.inl rfl | exact Or.inr (Or.inl rfl) | exact Or.inr (Or.inr rfl)) (by decide) (by decide))) pa_nil (by rfl)) (by omega) (by rfl) (by rfl) (by rfl) (by rfl)) pa_nil (by rfl)) (by rfl)))) (by intro x hx; simp at hx; first | (subst hx; exact Or.inl rfl) | (rcases hx with rfl | rfl <;> exact Or.inl rfl) | (rcases hx with rfl | rfl | rfl <;> exact Or.inl rfl) | (rcases hx with rfl | rfl | rfl | rfl <;> exact Or.inl rfl) | (rcases hx with rfl | rfl | rfl | rfl | rfl <;> exact Or.inl rfl)) (by rfl) (by decide) (by decide +kernel) (by intro _; rfl)))), ?_⟩
  walk_at "rd"
  obtain ⟨dx, c, fs, hU, hd, hsm, hns, hp, hDc, hc, hsub⟩ := W.at_ p _ hg
  have hno := fun {m : Str} (h : isF m = false) => sub_no (c := c) h hsub
  obtain ⟨a, rfl, hga⟩ := hsub
  have hdr : dep (.many sh) = dep sh + 1 := by rw [dep]
  refine tLC_rangeI (n := left) (fun D i zs H' => ∃ t', Tr (Cs.mk Z0 Z3 Z4 Z6 Z2 Z1 Z5) w t H t' H' left (dep sh + 1) ∧ zs.length = i ∧ H' D = some (.lst zs) ∧ ¬ t'.U D ∧ ∀ (j : Nat) x, zs[j]? = some x → ∃ T, x = .ref T ∧ w.D T = none ∧ ¬ t'.U T ∧ T ≠ D ∧ H' T = some (.tup [.int (cnt w.bk sh j), .int (cnt w.bk (.many sh) (left - 1 - j))])) (fun R r => by walk_at "rd"; exact r) (by omega) ?_ ?_ ?_ ?_
  · intro D hD
    exact ⟨t, (Tr.refl W _ _).put hD (W.new hD).2 _, rfl, upd_same, (W.new hD).2, fun j x hx => by simp at hx⟩
  · rintro D i zs H' ⟨t', _, h1, h2, _⟩
    exact ⟨h1, h2⟩
  · rintro D i zs H' hD hi ⟨t', T1, hz, hd', hUD, hts⟩ R r
    have fm : fu w i (dep sh) + 5 ≤ fu w left (dep sh + 1) := fu_mono (by omega) (by omega)
    have dD : w.D D = none := (W.new hD).1
    walk_at "rd"
    refine or6 (fun h => ⟨_, _, _, T1.fr _ _ hU.1 hp, Zc, Zh, _, mf_part _ _, a, rfl, h⟩) (fun h => ⟨_, _, _, T1.fr _ _ hU.1 hp, Zc, Zh, _, mf_part _ _, a, rfl, h⟩) (fun h => ⟨_, _, _, T1.fr _ _ hU.1 hp, Zc, Zh, _, mf_part _ _, a, rfl, h⟩) (fun h => ⟨_, _, _, T1.fr _ _ hU.1 hp, Zc, Zh, _, mf_part _ _, a, rfl, h⟩) (fun h => ⟨_, _, _, T1.fr _ _ hU.1 hp, Zc, Zh, _, mf_part _ _, a, rfl, h⟩) (fun h => ⟨_, _, _, T1.fr _ _ hU.1 hp, Zc, Zh, _, mf_part _ _, a, rfl, h⟩) ?_
    refine any_call T1.wi hga (by omega) (by omega) ((T1.ready hR).mono (by omega)) fun t2 H2 T2 hn2 => ?_
    have T12 := T1.trans (T2.mono (by omega))
    have own := T12.own hg (by omega) hln
    have hd2 := T2.fr _ _ dD hd'
    have hUD2 := T2.ours hUD hd'
    refine ⟨_, _, T12.fr _ _ hU.1 hp, hno (by decide +kernel), w, t2, p, .many sh, left - 1 - i, by rw [show (left : Int) - 1 - (i : Int) = ((left - 1 - i : Nat) : Int) by omega], rfl, T2.wi, hg, by omega, by omega, fun _ => ⟨few (by decide), fun X gX => ?_⟩, fun h => by rw [own.1] at h; omega⟩
    have nXD : X ≠ D := Ne.symm (ne_of_none hd2 gX)
    have sX := Same.upd_new gX (.tup [.int (cnt w.bk sh i), .int (cnt w.bk (.many sh) (left - 1 - i))])
    refine r _ _ (sX _ _ hd2) ⟨t2, (T12.same sX).put hD hUD2 _, by rw [List.length_append, hz]; rfl, upd_same, hUD2, fun j x hx => ?_⟩
    by_cases c : j < zs.length
    · rw [List.getElem?_append_left c] at hx
      obtain ⟨Y, rfl, y1, y2, y3, y4⟩ := hts j x hx
      exact ⟨Y, rfl, y1, T2.ours y2 y4, y3, by rw [upd_ne y3]; exact sX _ _ (T2.fr _ _ y1 y4)⟩
    · have hj : j = zs.length := by
        have := (List.getElem?_eq_some_iff.mp hx).1
        rw [List.length_append, List.length_singleton] at this
        omega
      subst hj
      rw [List.getElem?_append_right (Nat.le_refl _), Nat.sub_self] at hx
      have : V.ref X = x := Option.some.inj hx
      subst this
      exact ⟨X, rfl, (T2.wi.new gX).1, (T2.wi.new gX).2, nXD, by rw [upd_ne nXD, upd_same, hz]⟩
  · rintro D zs H' hD ⟨t', T1, hz, hd', hUD, hts⟩
    refine q D t' H' T1 hD hUD ⟨zs, hd', by rw [hz, List.length_map, List.length_range], fun j x y hx hy => ?_⟩
    obtain ⟨X, rfl, _, _, _, hX⟩ := hts j x hx
    have hj := (List.getElem?_eq_some_iff.mp hx).1
    rw [List.getElem?_map, List.getElem?_range (by omega)] at hy
    have := Option.some.inj hy
    subst this
    exact ⟨X, rfl, hX⟩
theorem Z1g {k : Nat} {Z7 Z2 Z1 Z4 Z6 Z3 Z5 Z0 : Addr} (R : g.RawM Z2 "reckoned" "ManyMaker.reckoned" Z0s ["self", "size"]) (Z1I : g.Fn k "ways_of" ["blocks"] (Z1U g.K)) (Z2t : g.Me k Z2 "blocks_at" ["self", "left"] (Z1W (Cs.mk Z0 Z3 Z4 Z6 Z2 Z1 Z5) m)) (Zc : Cls g.K Z2) (Zb : NoAttr g.K Z2 "counts") (Zh : NoAttr g.K Z2 "part") : g.Me (k + 1) Z2 "reckoned" ["self", "size"] (sp_reck (Cs.mk Z0 Z3 Z4 Z6 Z2 Z1 Z5) 4 (m + 1)) := by
  refine R.me Z2m (fun vs H Q E h => by obtain ⟨w, t, p, sh, sz, rfl, hk, W, hg, hn, hs, hf, hR, q⟩ := h; rfl) fun f_ cdv A outer s H vs Q E hr h => ?_
  obtain ⟨w, t, p, sh, sz, rfl, hk, W, hg, hn, hs, hf, hR, q⟩ := h
  refine ⟨_, (@pss_one _ _ _ (@ps_ret _ _ _ _ (@pe_ifExp _ _ _ _ _ _ _ _ (@pt_cmpR _ _ _ _ _ _ _ _ op_eq (@pv _ 1 _ _ (by rfl) (by first | exact Or.inl rfl | exact Or.inr (Or.inl rfl) | exact Or.inr (Or.inr rfl)) (by decide) (by decide)) pe_int (nomark _)) pe_int (@pe_fn _ _ _ _ _ _ _ _ _ _ _ _ Z1I hr (@pa_cons _ _ _ _ _ (@pe_me _ _ _ _ _ _ _ _ _ _ _ _ _ _ _ _ Z2t Zc hr (@pv _ 0 _ _ (by rfl) (by first | exact Or.inl rfl | exact Or.inr (Or.inl rfl) | exact Or.inr (Or.inr rfl)) (by decide) (by decide)) (@pa_cons _ _ _ _ _ (@pv _ 1 _ _ (by rfl) (by first | exact Or.inl rfl | exact Or.inr (Or.inl rfl) | exact Or.inr (Or.inr rfl)) (by decide) (by decide)) pa_nil (by rfl)) (by omega) (by rfl) (by rfl) (by rfl) (by rfl)) pa_nil (by rfl)) (by omega) (by rfl) (by rfl) (by decide) (by rfl) (by rfl))))), ?_⟩
  cases sh with
  | many sh =>
    obtain ⟨dx, c, fs, hU, hd, hsm, hns, hp, hDc, hc, hsub⟩ := W.at_ p _ hg
    have hno := fun {m : Str} (h : isF m = false) => sub_no (c := c) h hsub
    obtain ⟨a, rfl, hga⟩ := hsub
    have hdr : dep (.many sh) = dep sh + 1 := by rw [dep]
    rw [hdr] at hf hR
    walk_at "rd"
    refine ite2 (fun c => ?_) (fun c => ?_)
    · have e : sz = 0 := by omega
      subst e
      have := q t H (.refl W _ _) hn (fun ps z => by cases z)
      rw [cnt_many0] at this
      exact this
    · obtain ⟨j, rfl⟩ : ∃ j, sz = j + 1 := ⟨sz - 1, by omega⟩
      refine ⟨_, _, hp, hno (by decide +kernel), w, t, p, sh, j + 1, rfl, W, hg, hs, by omega, by omega, hR.mono (by omega), fun D t' H' T1 gD hUD hB => ?_⟩
      have hlen : ((List.range (j + 1)).map fun f => (cnt w.bk sh f, cnt w.bk (.many sh) (j + 1 - 1 - f))).length = j + 1 := by simp
      obtain ⟨_, _, _, _, _, hsma, _⟩ := W.at_ a sh hga
      refine ⟨D, _, rfl, hB, by rw [hlen]; omega, fun x hx => ?_, fun H4 s4 => ?_⟩
      · obtain ⟨f, hf', rfl⟩ := List.mem_map.mp hx
        have hf' := List.mem_range.mp hf'
        exact ⟨hsma f (by omega), hsm _ (by omega)⟩
      · have own := T1.own hg (by omega) (by omega)
        have := q t' H4 (by rw [hdr]; exact (T1.mono (by omega)).same s4) (by omega) (fun ps z => by cases z)
        rw [cnt_many] at this
        rw [List.map_map]
        exact this
  | _ => simp [kind] at hk
theorem Z1r {k : Nat} {Z7 Z2 Z1 Z4 Z6 Z3 Z5 Z0 : Addr} (R : g.RawM Z5 "reckoned" "UseMaker.reckoned" Z0I ["self", "size"]) (ZC : g.Me k Z0 "count_at" ["self", "size"] (Zt (Cs.mk Z0 Z3 Z4 Z6 Z2 Z1 Z5) 0 m)) (Zy : g.Me k Z3 "count_at" ["self", "size"] (Zt (Cs.mk Z0 Z3 Z4 Z6 Z2 Z1 Z5) 1 m)) (ZF : g.Me k Z4 "count_at" ["self", "size"] (Zt (Cs.mk Z0 Z3 Z4 Z6 Z2 Z1 Z5) 2 m)) (ZB : g.Me k Z2 "count_at" ["self", "size"] (Zt (Cs.mk Z0 Z3 Z4 Z6 Z2 Z1 Z5) 4 m)) (ZD : g.Me k Z1 "count_at" ["self", "size"] (Zt (Cs.mk Z0 Z3 Z4 Z6 Z2 Z1 Z5) 3 m)) (ZG : g.Me k Z5 "count_at" ["self", "size"] (Zt (Cs.mk Z0 Z3 Z4 Z6 Z2 Z1 Z5) 5 m)) (Zc : Cls g.K Z2) (Zb : NoAttr g.K Z2 "counts") (Zh : NoAttr g.K Z2 "part") (Zi : Cls g.K Z1) (Za : NoAttr g.K Z1 "counts") (Zo : NoAttr g.K Z1 "marks") (Zn : NoAttr g.K Z1 "parts") (Zq : Cls g.K Z4) (Zd : NoAttr g.K Z4 "counts") (Zs : NoAttr g.K Z4 "parts") (Zp : NoAttr g.K Z4 "table") (Zk : Cls g.K Z3) (Z9 : NoAttr g.K Z3 "counts") (Zm : NoAttr g.K Z3 "signs") (Zj : Cls g.K Z5) (Ze : NoAttr g.K Z5 "counts") (Zf : NoAttr g.K Z5 "named") (Zg : Cls g.K Z0) (Z8 : NoAttr g.K Z0 "counts") (Zr : NoAttr g.K Z0 "low") (Zl : NoAttr g.K Z0 "span") : g.Me (k + 1) Z5 "reckoned" ["self", "size"] (sp_reck (Cs.mk Z0 Z3 Z4 Z6 Z2 Z1 Z5) 5 (m + 1)) := by
  refine R.me Z2O (fun vs H Q E h => by obtain ⟨w, t, p, sh, sz, rfl, hk, W, hg, hn, hs, hf, hR, q⟩ := h; rfl) fun f_ cdv A outer s H vs Q E hr h => ?_
  obtain ⟨w, t, p, sh, sz, rfl, hk, W, hg, hn, hs, hf, hR, q⟩ := h
  refine ⟨_, (@pss_one _ _ _ (@ps_ret _ _ _ _ (@pe_ifExp _ _ _ _ _ _ _ _ (@pt_cmpR _ _ _ _ _ _ _ _ op_eq (@pv _ 1 _ _ (by rfl) (by first | exact Or.inl rfl | exact Or.inr (Or.inl rfl) | exact Or.inr (Or.inr rfl)) (by decide) (by decide)) pe_int (nomark _)) pe_int (@pe_either _ _ _ _ (@pe_me _ _ _ _ _ _ _ _ _ _ _ _ _ _ _ _ ZC Zg hr (@pe_fld _ _ _ _ _ (@pv _ 0 _ _ (by rfl) (by first | exact Or.inl rfl | exact Or.inr (Or.inl rfl) | exact Or.inr (Or.inr rfl)) (by decide) (by decide)) rfl) (@pa_cons _ _ _ _ _ (@pe_op _ _ _ _ _ _ _ _ op_sub (@pv _ 1 _ _ (by rfl) (by first | exact Or.inl rfl | exact Or.inr (Or.inl rfl) | exact Or.inr (Or.inr rfl)) (by decide) (by decide)) pe_int) pa_nil (by rfl)) (by omega) (by rfl) (by rfl) (by rfl) (by rfl)) (@pe_either _ _ _ _ (@pe_me _ _ _ _ _ _ _ _ _ _ _ _ _ _ _ _ Zy Zk hr (@pe_fld _ _ _ _ _ (@pv _ 0 _ _ (by rfl) (by first | exact Or.inl rfl | exact Or.inr (Or.inl rfl) | exact Or.inr (Or.inr rfl)) (by decide) (by decide)) rfl) (@pa_cons _ _ _ _ _ (@pe_op _ _ _ _ _ _ _ _ op_sub (@pv _ 1 _ _ (by rfl) (by first | exact Or.inl rfl | exact Or.inr (Or.inl rfl) | exact Or.inr (Or.inr rfl)) (by decide) (by decide)) pe_int) pa_nil (by rfl)) (by omega) (by rfl) (by rfl) (by rfl) (by rfl)) (@pe_either _ _ _ _ (@pe_me _ _ _ _ _ _ _ _ _ _ _ _ _ _ _ _ ZF Zq hr (@pe_fld _ _ _ _ _ (@pv _ 0 _ _ (by rfl) (by first | exact Or.inl rfl | exact Or.inr (Or.inl rfl) | exact Or.inr (Or.inr rfl)) (by decide) (by decide)) rfl) (@pa_cons _ _ _ _ _ (@pe_op _ _ _ _ _ _ _ _ op_sub (@pv _ 1 _ _ (by rfl) (by first | exact Or.inl rfl | exact Or.inr (Or.inl rfl) | exact Or.inr (Or.inr rfl)) (by decide) (by decide)) pe_int) pa_nil (by rfl)) (by omega) (by rfl) (by rfl) (by rfl) (by rfl)) (@pe_either _ _ _ _ (@pe_me _ _ _ _ _ _ _ _ _ _ _ _ _ _ _ _ ZB Zc hr (@pe_fld _ _ _ _ _ (@pv _ 0 _ _ (by rfl) (by first | exact Or.inl rfl | exact Or.inr (Or.inl rfl) | exact Or.inr (Or.inr rfl)) (by decide) (by decide)) rfl) (@pa_cons _ _ _ _ _ (@pe_op _ _ _ _ _ _ _ _ op_sub (@pv _ 1 _ _ (by rfl) (by first | exact Or.inl rfl | exact Or.inr (Or.inl rfl) | exact Or.inr (Or.inr rfl)) (by decide) (by decide)) pe_int) pa_nil (by rfl)) (by omega) (by rfl) (by rfl) (by rfl) (by rfl)) (@pe_either _ _ _ _ (@pe_me _ _ _ _ _ _ _ _ _ _ _ _ _ _ _ _ ZD Zi hr (@pe_fld _ _ _ _ _ (@pv _ 0 _ _ (by rfl) (by first | exact Or.inl rfl | exact Or.inr (Or.inl rfl) | exact Or.inr (Or.inr rfl)) (by decide) (by decide)) rfl) (@pa_cons _ _ _ _ _ (@pe_op _ _ _ _ _ _ _ _ op_sub (@pv _ 1 _ _ (by rfl) (by first | exact Or.inl rfl | exact Or.inr (Or.inl rfl) | exact Or.inr (Or.inr rfl)) (by decide) (by decide)) pe_int) pa_nil (by rfl)) (by omega) (by rfl) (by rfl) (by rfl) (by rfl)) (@pe_me _ _ _ _ _ _ _ _ _ _ _ _ _ _ _ _ ZG Zj hr (@pe_fld _ _ _ _ _ (@pv _ 0 _ _ (by rfl) (by first | exact Or.inl rfl | exact Or.inr (Or.inl rfl) | exact Or.inr (Or.inr rfl)) (by decide) (by decide)) rfl) (@pa_cons _ _ _ _ _ (@pe_op _ _ _ _ _ _ _ _ op_sub (@pv _ 1 _ _ (by rfl) (by first | exact Or.inl rfl | exact Or.inr (Or.inl rfl) | exact Or.inr (Or.inr rfl)) (by decide) (by decide)) pe_int) pa_nil (by rfl)) (by omega) (by rfl) (by rfl) (by rfl) (by rfl)))))))))), ?_⟩
  cases sh with
  | use x =>
    obtain ⟨dx, c, fs, hU, hd, hsm, hns, hp, hDc, hc, hsub⟩ := W.at_ p _ hg
    obtain ⟨a, rfl, hga⟩ := hsub
    have hdr : dep (.use x) = 0 := by simp [dep]
    rw [hdr] at hf hR
    walk_at "rd"
    refine ite2 (fun c => ?_) (fun c => ?_)
    · have e : sz = 0 := by omega
      subst e
      have := q t H (.refl W _ _) hn (fun ps z => by cases z)
      rw [cnt_use0] at this
      exact this
    · obtain ⟨j, rfl⟩ : ∃ j, sz = j + 1 := ⟨sz - 1, by omega⟩
      obtain ⟨_, _, _, _, hda, _⟩ := W.at_ a _ hga
      have fm : fu w j (dep (w.bk x)) + 5 ≤ fu w (j + 1) 0 := fu_mono hda (by omega)
      rw [show ((j + 1 : Nat) : Int) - 1 = (j : Int) by omega]
      refine or6 (fun h => ⟨_, _, _, hp, Zj, Zf, _, mf_named _ _, a, rfl, h⟩) (fun h => ⟨_, _, _, hp, Zj, Zf, _, mf_named _ _, a, rfl, h⟩) (fun h => ⟨_, _, _, hp, Zj, Zf, _, mf_named _ _, a, rfl, h⟩) (fun h => ⟨_, _, _, hp, Zj, Zf, _, mf_named _ _, a, rfl, h⟩) (fun h => ⟨_, _, _, hp, Zj, Zf, _, mf_named _ _, a, rfl, h⟩) (fun h => ⟨_, _, _, hp, Zj, Zf, _, mf_named _ _, a, rfl, h⟩) ?_
      refine any_call W hga (by omega) (by omega) (hR.mono (by omega)) fun t2 H2 T2 hn2 => ?_
      have T3 : Tr (Cs.mk Z0 Z3 Z4 Z6 Z2 Z1 Z5) w t H t2 H2 (j + 1) 0 := T2.mono (by omega)
      have own := T3.own hg (by omega) (by omega)
      have := q t2 H2 (T3.mono (by omega)) (by omega) (fun ps z => by cases z)
      rw [cnt_use] at this
      exact this
  | _ => simp [kind] at hk
theorem Z12 {k : Nat} {Z7 Z2 Z1 Z4 Z6 Z3 Z5 Z0 : Addr} (R : g.RawM Z1 "blocks_at" "PickMaker.blocks_at" Z0l ["self", "size"]) (ZC : g.Me k Z0 "count_at" ["self", "size"] (Zt (Cs.mk Z0 Z3 Z4 Z6 Z2 Z1 Z5) 0 m)) (Zy : g.Me k Z3 "count_at" ["self", "size"] (Zt (Cs.mk Z0 Z3 Z4 Z6 Z2 Z1 Z5) 1 m)) (ZF : g.Me k Z4 "count_at" ["self", "size"] (Zt (Cs.mk Z0 Z3 Z4 Z6 Z2 Z1 Z5) 2 m)) (ZB : g.Me k Z2 "count_at" ["self", "size"] (Zt (Cs.mk Z0 Z3 Z4 Z6 Z2 Z1 Z5) 4 m)) (ZD : g.Me k Z1 "count_at" ["self", "size"] (Zt (Cs.mk Z0 Z3 Z4 Z6 Z2 Z1 Z5) 3 m)) (ZG : g.Me k Z5 "count_at" ["self", "size"] (Zt (Cs.mk Z0 Z3 Z4 Z6 Z2 Z1 Z5) 5 m)) (Zc : Cls g.K Z2) (Zb : NoAttr g.K Z2 "counts") (Zh : NoAttr g.K Z2 "part") (Zi : Cls g.K Z1) (Za : NoAttr g.K Z1 "counts") (Zo : NoAttr g.K Z1 "marks") (Zn : NoAttr g.K Z1 "parts") (Zq : Cls g.K Z4) (Zd : NoAttr g.K Z4 "counts") (Zs : NoAttr g.K Z4 "parts") (Zp : NoAttr g.K Z4 "table") (Zk : Cls g.K Z3) (Z9 : NoAttr g.K Z3 "counts") (Zm : NoAttr g.K Z3 "signs") (Zj : Cls g.K Z5) (Ze : NoAttr g.K Z5 "counts") (Zf : NoAttr g.K Z5 "named") (Zg : Cls g.K Z0) (Z8 : NoAttr g.K Z0 "counts") (Zr : NoAttr g.K Z0 "low") (Zl : NoAttr g.K Z0 "span") : g.Me (k + 1) Z1 "blocks_at" ["self", "size"] (Z1X (Cs.mk Z0 Z3 Z4 Z6 Z2 Z1 Z5) (m + 1)) := by
  refine R.me Z2a (fun vs H Q E h => by obtain ⟨w, t, p, mk, ps, sz, rfl, W, hg, hs, hsn, hf, hR, q⟩ := h; rfl) fun f_ cdv A outer s H vs Q E hr h => ?_
  obtain ⟨w, t, p, mk, ps, sz, rfl, W, hg, hs, hsn, hf, hR, q⟩ := h
  refine ⟨_, (@pss_one _ _ _ (@ps_ret _ _ _ _ (@pe_lc _ _ _ _ _ _ _ ([none, some 1]) ((["part", "size"] : List Str)) _ (gName 0) _ _ (.own (.cap (i := 1) rfl rfl (by first | exact Or.inl rfl | exact Or.inr rfl) .nil)) rfl (@pi_list _ _ _ _ (@pe_fld _ _ _ _ _ (@pv _ 0 _ _ (by rfl) (by first | exact Or.inl rfl | exact Or.inr (Or.inl rfl) | exact Or.inr (Or.inr rfl)) (by decide) (by decide)) rfl)) (fun cl C s₀ H₀ fp pn => (@pg_name _ _ (0) _ (show List.Nodup (["part", "size"] : List Str) by decide +kernel) rfl (Or.inl rfl) (Or.inr rfl))) (fun cl C s₀ H₀ fp pn => pts_nil) (fun cl C s₀ H₀ fp pn => (@pe_tup _ _ _ _ _ (@pa_cons _ _ _ _ _ (@pe_either _ _ _ _ (@pe_me _ _ _ _ _ _ _ _ _ _ _ _ _ _ _ _ ZC Zg hr (@pv _ 0 _ _ (by rfl) (by first | exact Or.inl rfl | exact Or.inr (Or.inl rfl) | exact Or.inr (Or.inr rfl)) (by decide) (by decide)) (@pa_cons _ _ _ _ _ (@pv _ 1 _ _ (by rfl) (by first | exact Or.inl rfl | exact Or.inr (Or.inl rfl) | exact Or.inr (Or.inr rfl)) (by decide) (by decide)) pa_nil (by rfl)) (by omega) (by rfl) (by rfl) (by rfl) (by rfl)) (@pe_either _ _ _ _ (@pe_me _ _ _ _ _ _ _ _ _ _ _ _ _ _ _ _ Zy Zk hr (@pv _ 0 _ _ (by rfl) (by first | exact Or.inl rfl | exact Or.inr (Or.inl rfl) | exact Or.inr (Or.inr rfl)) (by decide) (by decide)) (@pa_cons _ _ _ _ _ (@pv _ 1 _ _ (by rfl) (by first | exact Or.inl rfl | exact Or.inr (Or.inl rfl) | exact Or.inr (Or.inr rfl)) (by decide) (by decide)) pa_nil (by rfl)) (by omega) (by rfl) (by rfl) (by rfl) (by rfl)) (@pe_either _ _ _ _ (@pe_me _ _ _ _ _ _ _ _ _ _ _ _ _ _ _ _ ZF Zq hr (@pv _ 0 _ _ (by rfl) (by first | exact Or.inl rfl | exact Or.inr (Or.inl rfl) | exact Or.inr (Or.inr rfl)) (by decide) (by decide)) (@pa_cons _ _ _ _ _ (@pv _ 1 _ _ (by rfl) (by first | exact Or.inl rfl | exact Or.inr (Or.inl rfl) | exact Or.inr (Or.inr rfl)) (by decide) (by decide)) pa_nil (by rfl)) (by omega) (by rfl) (by rfl) (by rfl) (by rfl)) (@pe_either _ _ _ _ (@pe_me _ _ _ _ _ _ _ _ _ _ _ _ _ _ _ _ ZB Zc hr (@pv _ 0 _ _ (by rfl) (by first | exact Or.inl rfl | exact Or.inr (Or.inl rfl) | exact Or.inr (Or.inr rfl)) (by decide) (by decide)) (@pa_cons _ _ _ _ _ (@pv _ 1 _ _ (by rfl) (by first | exact Or.inl rfl | exact Or.inr (Or.inl rfl) | exact Or.inr (Or.inr rfl)) (by decide) (by decide)) pa_nil (by rfl)) (by omega) (by rfl) (by rfl) (by rfl) (by rfl)) (@pe_either _ _ _ _ (@pe_me _ _ _ _ _ _ _ _ _ _ _ _ _ _ _ _ ZD Zi hr (@pv _ 0 _ _ (by rfl) (by first | exact Or.inl rfl | exact Or.inr (Or.inl rfl) | exact Or.inr (Or.inr rfl)) (by decide) (by decide)) (@pa_cons _ _ _ _ _ (@pv _ 1 _ _ (by rfl) (by first | exact Or.inl rfl | exact Or.inr (Or.inl rfl) | exact Or.inr (Or.inr rfl)) (by decide) (by decide)) pa_nil (by rfl)) (by omega) (by rfl) (by rfl) (by rfl) (by rfl)) (@pe_me _ _ _ _ _ _ _ _ _ _ _ _ _ _ _ _ ZG Zj hr (@pv _ 0 _ _ (by rfl) (by first | exact Or.inl rfl | exact Or.inr (Or.inl rfl) | exact Or.inr (Or.inr rfl)) (by decide) (by decide)) (@pa_cons _ _ _ _ _ (@pv _ 1 _ _ (by rfl) (by first | exact Or.inl rfl | exact Or.inr (Or.inl rfl) | exact Or.inr (Or.inr rfl)) (by decide) (by decide)) pa_nil (by rfl)) (by omega) (by rfl) (by rfl) (by rfl) (by rfl))))))) (@pa_cons _ _ _ _ _ pe_int pa_nil (by rfl)) (by rfl)))) (by intro x hx; simp at hx; first | (subst hx; exact Or.inl rfl) | (rcases hx with rfl | rfl <;> exact Or.inl rfl) | (rcases hx with rfl | rfl | rfl <;> exact Or.inl rfl) | (rcases hx with rfl | rfl | rfl | rfl <;> exact Or.inl rfl) | (rcases hx with rfl | rfl | rfl | rfl | rfl <;> exact Or.inl rfl)) (by rfl) (by decide) (by decide +kernel) (by intro _; rfl)))), ?_⟩
  walk_at "rd"
  obtain ⟨dx, c, fs, hU, hd, hsm, hns, hp, hDc, hc, hsub⟩ := W.at_ p _ hg
  obtain ⟨M, P, as, rfl, h2, h3, h4, h5, h6, h7⟩ := hsub
  have hdr : dep (.pick mk ps) = deps ps + 1 := by rw [dep]
  have hal := h6.1
  refine tLC_listI (K := g.K) (b := P) (xs := as.map V.ref) (fun D i zs H' => ∃ t', Tr (Cs.mk Z0 Z3 Z4 Z6 Z2 Z1 Z5) w t H t' H' sz (deps ps + 1) ∧ zs.length = i ∧ H' D = some (.lst zs) ∧ ¬ t'.U D ∧ ∀ (j : Nat) x q, zs[j]? = some x → ps[j]? = some q → ∃ T, x = .ref T ∧ w.D T = none ∧ ¬ t'.U T ∧ T ≠ D ∧ H' T = some (.tup [.int (cnt w.bk q sz), .int 1])) (fun R r => by walk_at "rd"; exact ⟨_, _, _, hp, Zi, Zn, _, mf_pparts _ _ _, r⟩) (SqL.of h5) (by rw [List.length_map]; omega) ?_ ?_ ?_ ?_
  · intro D hD
    exact ⟨t, (Tr.refl W _ _).put hD (W.new hD).2 _, rfl, upd_same, (W.new hD).2, fun j x q hx => by simp at hx⟩
  · rintro D i zs H' hD ⟨t', T1, h1, h2', _⟩
    exact ⟨h1, h2', SqL.of (T1.fr _ _ h3.1 h5)⟩
  · rintro D i x zs H' hD hx ⟨t', T1, hz, hd', hUD, hts⟩ R r
    rw [List.getElem?_map] at hx
    obtain ⟨a, ha, rfl⟩ := Option.map_eq_some_iff.mp hx
    have hi := (List.getElem?_eq_some_iff.mp ha).1
    have hpi : ps[i]? = some (ps[i]'(by omega)) := List.getElem?_eq_getElem _
    generalize ps[i]'(by omega) = sh at hpi
    have hga := h6.2 i a sh ha hpi
    have hds : dep sh ≤ deps ps := dep_mem (List.mem_of_getElem? hpi)
    have fm : fu w sz (dep sh) + 5 ≤ fu w sz (deps ps + 1) := fu_mono (by omega) (by omega)
    have dD : w.D D = none := (W.new hD).1
    walk_at "rd"
    refine any_call T1.wi hga (by omega) (by omega) ((T1.ready hR).mono (by omega)) fun t2 H2 T2 hn2 => ⟨few (by decide), fun X gX => ?_⟩
    have T12 := T1.trans (T2.mono (by omega))
    have hd2 := T2.fr _ _ dD hd'
    have hUD2 := T2.ours hUD hd'
    have nXD : X ≠ D := Ne.symm (ne_of_none hd2 gX)
    have sX := Same.upd_new gX (.tup [.int (cnt w.bk sh sz), .int 1])
    refine r _ _ (sX _ _ hd2) ⟨t2, (T12.same sX).put hD hUD2 _, by rw [List.length_append, hz]; rfl, upd_same, hUD2, fun j x q hx hq => ?_⟩
    by_cases c : j < zs.length
    · rw [List.getElem?_append_left c] at hx
      obtain ⟨Y, rfl, y1, y2, y3, y4⟩ := hts j x q hx hq
      exact ⟨Y, rfl, y1, T2.ours y2 y4, y3, by rw [upd_ne y3]; exact sX _ _ (T2.fr _ _ y1 y4)⟩
    · have hj : j = zs.length := by
        have := (List.getElem?_eq_some_iff.mp hx).1
        rw [List.length_append, List.length_singleton] at this
        omega
      subst hj
      rw [List.getElem?_append_right (Nat.le_refl _), Nat.sub_self] at hx
      have : V.ref X = x := Option.some.inj hx
      subst this
      rw [hz, hpi] at hq
      have := Option.some.inj hq
      subst this
      exact ⟨X, rfl, (T2.wi.new gX).1, (T2.wi.new gX).2, nXD, by rw [upd_ne nXD, upd_same]⟩
  · rintro D zs H' hD ⟨t', T1, hz, hd', hUD, hts⟩
    rw [List.length_map] at hz
    refine q D t' H' T1 hD hUD ⟨zs, hd', by rw [hz, List.length_map, hal], fun j x y hx hy => ?_⟩
    have hj := (List.getElem?_eq_some_iff.mp hx).1
    rw [List.getElem?_map] at hy
    obtain ⟨q', hq', rfl⟩ := Option.map_eq_some_iff.mp hy
    obtain ⟨X, rfl, _, _, _, hX⟩ := hts j x q' hx hq'
    exact ⟨X, rfl, hX⟩
theorem Z1h {k : Nat} {Z7 Z2 Z1 Z4 Z6 Z3 Z5 Z0 : Addr} (R : g.RawM Z1 "reckoned" "PickMaker.reckoned" Z0u ["self", "size"]) (Z1I : g.Fn k "ways_of" ["blocks"] (Z1U g.K)) (Z2u : g.Me k Z1 "blocks_at" ["self", "size"] (Z1X (Cs.mk Z0 Z3 Z4 Z6 Z2 Z1 Z5) m)) (Zi : Cls g.K Z1) (Za : NoAttr g.K Z1 "counts") (Zo : NoAttr g.K Z1 "marks") (Zn : NoAttr g.K Z1 "parts") : g.Me (k + 1) Z1 "reckoned" ["self", "size"] (sp_reck (Cs.mk Z0 Z3 Z4 Z6 Z2 Z1 Z5) 3 (m + 1)) := by
  refine R.me Z2o (fun vs H Q E h => by obtain ⟨w, t, p, sh, sz, rfl, hk, W, hg, hn, hs, hf, hR, q⟩ := h; rfl) fun f_ cdv A outer s H vs Q E hr h => ?_
  obtain ⟨w, t, p, sh, sz, rfl, hk, W, hg, hn, hs, hf, hR, q⟩ := h
  refine ⟨_, (@pss_one _ _ _ (@ps_ret _ _ _ _ (@pe_fn _ _ _ _ _ _ _ _ _ _ _ _ Z1I hr (@pa_cons _ _ _ _ _ (@pe_me _ _ _ _ _ _ _ _ _ _ _ _ _ _ _ _ Z2u Zi hr (@pv _ 0 _ _ (by rfl) (by first | exact Or.inl rfl | exact Or.inr (Or.inl rfl) | exact Or.inr (Or.inr rfl)) (by decide) (by decide)) (@pa_cons _ _ _ _ _ (@pv _ 1 _ _ (by rfl) (by first | exact Or.inl rfl | exact Or.inr (Or.inl rfl) | exact Or.inr (Or.inr rfl)) (by decide) (by decide)) pa_nil (by rfl)) (by omega) (by rfl) (by rfl) (by rfl) (by rfl)) pa_nil (by rfl)) (by omega) (by rfl) (by rfl) (by decide) (by rfl) (by rfl)))), ?_⟩
  cases sh with
  | pick mk ps =>
    obtain ⟨dx, c, fs, hU, hd, hsm, hns, hp, hDc, hc, hsub⟩ := W.at_ p _ hg
    have hno := fun {m : Str} (h : isF m = false) => sub_no (c := c) h hsub
    obtain ⟨M, P, as, rfl, h2, h3, h4, h5, h6, h7⟩ := hsub
    have hdr : dep (.pick mk ps) = deps ps + 1 := by rw [dep]
    rw [hdr] at hf hR
    walk_at "rd"
    refine ⟨_, _, hp, hno (by decide +kernel), w, t, p, mk, ps, sz, rfl, W, hg, hs, by omega, by omega, hR.mono (by omega), fun D t' H' T1 gD hUD hB => ?_⟩
    refine ⟨D, _, rfl, hB, by rw [List.length_map]; omega, fun x hx => ?_, fun H4 s4 => ?_⟩
    · obtain ⟨q', hq', rfl⟩ := List.mem_map.mp hx
      obtain ⟨i, hi, rfl⟩ := List.getElem_of_mem hq'
      have hai : as[i]? = some (as[i]'(by have := h6.1; omega)) := List.getElem?_eq_getElem _
      have hga := h6.2 i _ _ hai (List.getElem?_eq_getElem hi)
      obtain ⟨_, _, _, _, _, hsma, _⟩ := W.at_ _ _ hga
      exact ⟨hsma _ (by omega), 1, by decide, (by decide : (1 : Int).natAbs < 2 ^ 1)⟩
    · have own := T1.own hg (by omega) (by omega)
      have := q t' H4 (by rw [hdr]; exact (T1.mono (by omega)).same s4) (by omega) (fun ps z => by cases z)
      rw [cnt_pick] at this
      rw [List.map_map, show ((fun p => p.1 * p.2) ∘ fun sh => (cnt w.bk sh sz, (1 : Int))) = fun sh => cnt w.bk sh sz by funext z; exact Int.mul_one _]
      exact this
  | _ => simp [kind] at hk
abbrev Prs := List (List Nat × Sh)
def bkO (prs : Prs) (x : List Nat) : Sh := ((prs.find? fun q => decide (q.1 = x)).map (·.2)).getD (.row [])
def leaf : Sh → Prop
  | .w _ _ => True
  | .t sg => sg.length ≤ 62
  | _ => False
mutual
def okS (prs : Prs) : Sh → Prop
  | .w _ _ => True
  | .t sg => sg.length ≤ 62
  | .row ps => ps.length ≤ 100 ∧ okSs prs ps
  | .pick mk ps => mk.length = ps.length ∧ ps.length ≤ 100 ∧ okSs prs ps
  | .many p => okS prs p
  | .alike _ _ => False
  | .use x => ∃ q, (prs.find? fun q => decide (q.1 = x)) = some q ∧ leaf q.2
def okSs (prs : Prs) : List Sh → Prop
  | [] => True
  | p :: ps => okS prs p ∧ okSs prs ps
end
theorem okS_mem {prs : Prs} {p : Sh} : ∀ {ps : List Sh}, okSs prs ps → p ∈ ps → okS prs p
  | q :: ps, h, hm => by
    rw [okSs] at h
    rcases List.mem_cons.mp hm with rfl | hm
    · exact h.1
    · exact okS_mem h.2 hm
theorem okS_drop {prs : Prs} : ∀ {ps : List Sh} (i : Nat), okSs prs ps → okSs prs (ps.drop i)
  | _, 0, h => h
  | [], i + 1, h => h
  | q :: ps, i + 1, h => by
    rw [okSs] at h
    exact okS_drop i h.2
theorem leaf_ok {prs : Prs} {q : Sh} (h : leaf q) : okS prs q := by
  cases q with
  | w lo span => rw [okS]; trivial
  | t sg => rw [okS]; exact h
  | _ => cases h
theorem leaf_dep {q : Sh} (h : leaf q) : dep q = 0 := by
  cases q with
  | w lo span => simp [dep]
  | t sg => simp [dep]
  | _ => cases h
mutual
def wt : Sh → Nat
  | .row ps => wts ps + 1
  | .pick _ ps => wts ps + 1
  | .many p => wt p + 1
  | .alike p _ => wt p + 1
  | _ => 1
def wts : List Sh → Nat
  | [] => 0
  | p :: ps => wt p + wts ps
end
theorem wt_pos (sh : Sh) : 1 ≤ wt sh := by cases sh <;> simp [wt]
theorem leaf_wt {q : Sh} (h : leaf q) : wt q = 1 := by
  cases q with
  | w lo span => simp [wt]
  | t sg => simp [wt]
  | _ => cases h
theorem wts_drop : ∀ (ps : List Sh) (i : Nat), wts (ps.drop i) ≤ wts ps
  | _, 0 => Nat.le_refl _
  | [], i + 1 => Nat.le_refl _
  | q :: ps, i + 1 => by
    have := wts_drop ps i
    rw [List.drop_succ_cons, wts]
    omega
theorem S_inj {a b : List Nat} (h : S a = S b) : a = b := by
  unfold S at h
  injection h with h
  have := congrArg Array.toList h
  simpa using this
def kdm : PyData → Str
  | .tuple (.str x :: _) => x
  | _ => ""
mutual
theorem kd_inj {prs : Prs} : ∀ {a b : Sh}, okS prs a → okS prs b → kd a = kd b → a = b
  | .w lo span, .w lo' span', _, _, h => by
    simp only [kd, PyData.tuple.injEq, List.cons.injEq, PyData.int.injEq, and_true, true_and] at h
    obtain ⟨rfl, h⟩ := h
    have : span = span' := by omega
    rw [this]
  | .t sg, .t sg', _, _, h => by
    simp only [kd, PyData.tuple.injEq, List.cons.injEq, PyData.str.injEq, and_true, true_and] at h
    rw [S_inj h]
  | .row ps, .row ps', h1, h2, h => by
    simp only [kd, PyData.tuple.injEq, List.cons.injEq, and_true, true_and] at h
    rw [okS] at h1 h2
    rw [kds_inj h1.2 h2.2 h]
  | .pick mk ps, .pick mk' ps', h1, h2, h => by
    simp only [kd, PyData.tuple.injEq, List.cons.injEq, and_true, true_and] at h
    rw [okS] at h1 h2
    obtain ⟨e1, e2⟩ := kdp_inj h1.1 h2.1 h1.2.2 h2.2.2 h
    rw [e1, e2]
  | .many p, .many p', h1, h2, h => by
    simp only [kd, PyData.tuple.injEq, List.cons.injEq, and_true, true_and] at h
    rw [okS] at h1 h2
    rw [kd_inj h1 h2 h]
  | .use x, .use x', _, _, h => by
    simp only [kd, PyData.tuple.injEq, List.cons.injEq, PyData.str.injEq, and_true, true_and] at h
    rw [S_inj h]
  | .alike _ _, _, h1, _, _ => by rw [okS] at h1; cases h1
  | _, .alike _ _, _, h2, _ => by rw [okS] at h2; cases h2
  | .w _ _, .t _, _, _, h => absurd (congrArg kdm h) (by simp only [kd, kdm]; decide +kernel)
  | .w _ _, .row _, _, _, h => absurd (congrArg kdm h) (by simp only [kd, kdm]; decide +kernel)
  | .w _ _, .pick _ _, _, _, h => absurd (congrArg kdm h) (by simp only [kd, kdm]; decide +kernel)
  | .w _ _, .many _, _, _, h => absurd (congrArg kdm h) (by simp only [kd, kdm]; decide +kernel)
  | .w _ _, .use _, _, _, h => absurd (congrArg kdm h) (by simp only [kd, kdm]; decide +kernel)
  | .t _, .w _ _, _, _, h => absurd (congrArg kdm h) (by simp only [kd, kdm]; decide +kernel)
  | .t _, .row _, _, _, h => absurd (congrArg kdm h) (by simp only [kd, kdm]; decide +kernel)
  | .t _, .pick _ _, _, _, h => absurd (congrArg kdm h) (by simp only [kd, kdm]; decide +kernel)
  | .t _, .many _, _, _, h => absurd (congrArg kdm h) (by simp only [kd, kdm]; decide +kernel)
  | .t _, .use _, _, _, h => absurd (congrArg kdm h) (by simp only [kd, kdm]; decide +kernel)
  | .row _, .w _ _, _, _, h => absurd (congrArg kdm h) (by simp only [kd, kdm]; decide +kernel)
  | .row _, .t _, _, _, h => absurd (congrArg kdm h) (by simp only [kd, kdm]; decide +kernel)
  | .row _, .pick _ _, _, _, h => absurd (congrArg kdm h) (by simp only [kd, kdm]; decide +kernel)
  | .row _, .many _, _, _, h => absurd (congrArg kdm h) (by simp only [kd, kdm]; decide +kernel)
  | .row _, .use _, _, _, h => absurd (congrArg kdm h) (by simp only [kd, kdm]; decide +kernel)
  | .pick _ _, .w _ _, _, _, h => absurd (congrArg kdm h) (by simp only [kd, kdm]; decide +kernel)
  | .pick _ _, .t _, _, _, h => absurd (congrArg kdm h) (by simp only [kd, kdm]; decide +kernel)
  | .pick _ _, .row _, _, _, h => absurd (congrArg kdm h) (by simp only [kd, kdm]; decide +kernel)
  | .pick _ _, .many _, _, _, h => absurd (congrArg kdm h) (by simp only [kd, kdm]; decide +kernel)
  | .pick _ _, .use _, _, _, h => absurd (congrArg kdm h) (by simp only [kd, kdm]; decide +kernel)
  | .many _, .w _ _, _, _, h => absurd (congrArg kdm h) (by simp only [kd, kdm]; decide +kernel)
  | .many _, .t _, _, _, h => absurd (congrArg kdm h) (by simp only [kd, kdm]; decide +kernel)
  | .many _, .row _, _, _, h => absurd (congrArg kdm h) (by simp only [kd, kdm]; decide +kernel)
  | .many _, .pick _ _, _, _, h => absurd (congrArg kdm h) (by simp only [kd, kdm]; decide +kernel)
  | .many _, .use _, _, _, h => absurd (congrArg kdm h) (by simp only [kd, kdm]; decide +kernel)
  | .use _, .w _ _, _, _, h => absurd (congrArg kdm h) (by simp only [kd, kdm]; decide +kernel)
  | .use _, .t _, _, _, h => absurd (congrArg kdm h) (by simp only [kd, kdm]; decide +kernel)
  | .use _, .row _, _, _, h => absurd (congrArg kdm h) (by simp only [kd, kdm]; decide +kernel)
  | .use _, .pick _ _, _, _, h => absurd (congrArg kdm h) (by simp only [kd, kdm]; decide +kernel)
  | .use _, .many _, _, _, h => absurd (congrArg kdm h) (by simp only [kd, kdm]; decide +kernel)
theorem kds_inj {prs : Prs} : ∀ {a b : List Sh}, okSs prs a → okSs prs b → kds a = kds b → a = b
  | [], [], _, _, _ => rfl
  | p :: ps, q :: qs, h1, h2, h => by
    rw [kds, kds] at h
    rw [okSs] at h1 h2
    injection h with e1 e2
    rw [kd_inj h1.1 h2.1 e1, kds_inj h1.2 h2.2 e2]
  | [], _ :: _, _, _, h => by simp [kds] at h
  | _ :: _, [], _, _, h => by simp [kds] at h
theorem kdp_inj {prs : Prs} : ∀ {mk mk' : List (List Nat)} {a b : List Sh}, mk.length = a.length → mk'.length = b.length → okSs prs a → okSs prs b → kdp mk a = kdp mk' b → mk = mk' ∧ a = b
  | [], [], [], [], _, _, _, _, _ => ⟨rfl, rfl⟩
  | m :: mk, m' :: mk', p :: ps, q :: qs, l1, l2, h1, h2, h => by
    rw [kdp, kdp] at h
    rw [okSs] at h1 h2
    injection h with e1 e2
    simp only [PyData.tuple.injEq, List.cons.injEq, PyData.str.injEq, and_true] at e1
    obtain ⟨r1, r2⟩ := kdp_inj (by simpa using l1) (by simpa using l2) h1.2 h2.2 e2
    rw [S_inj e1.1, kd_inj h1.1 h2.1 e1.2, r1, r2]
    exact ⟨rfl, rfl⟩
  | [], _, _ :: _, _, l, _, _, _, _ => by simp at l
  | _ :: _, _, [], _, l, _, _, _, _ => by simp at l
  | _, [], _, _ :: _, _, l, _, _, _ => by simp at l
  | _, _ :: _, _, [], _, l, _, _, _ => by simp at l
  | [], _ :: _, [], _ :: _, _, _, _, _, h => by simp [kdp] at h
  | _ :: _, [], _ :: _, [], _, _, _, _, h => by simp [kdp] at h
end
theorem sum_le {B : Int} : ∀ {l : List Int}, (∀ x ∈ l, 0 ≤ x ∧ x ≤ B) → 0 ≤ l.sum ∧ l.sum ≤ l.length * B
  | [], _ => by simp
  | a :: l, h => by
    obtain ⟨h1, h2⟩ := h a (.head _)
    obtain ⟨h3, h4⟩ := sum_le (l := l) fun x hx => h x (.tail _ hx)
    rw [List.sum_cons, List.length_cons, Int.natCast_succ, Int.add_mul]
    omega
theorem mul_le {a b : Int} {x y : Nat} (h1 : 0 ≤ a) (h2 : a ≤ 2 ^ x) (h3 : 0 ≤ b) (h4 : b ≤ 2 ^ y) : 0 ≤ a * b ∧ a * b ≤ 2 ^ (x + y) := by
  refine ⟨Int.mul_nonneg h1 h3, ?_⟩
  rw [Int.pow_add]
  exact Int.mul_le_mul h2 h4 h3 (Int.le_of_lt (Int.pow_pos (by decide)))
theorem pw_le {a b : Nat} (h : a ≤ b) : (2 : Int) ^ a ≤ 2 ^ b := by
  have : (2 : Nat) ^ a ≤ 2 ^ b := Nat.pow_le_pow_right (by decide) h
  exact_mod_cast this
theorem few_le {n x : Nat} (h : n ≤ 64) : (n : Int) * 2 ^ x ≤ 2 ^ (6 + x) := by
  rw [Int.pow_add]
  exact Int.mul_le_mul_of_nonneg_right (by omega) (Int.le_of_lt (Int.pow_pos (by decide)))
theorem wc_bound (span : Nat) (s : Nat) : 0 ≤ wc span s ∧ wc span s ≤ 2 ^ s := by
  have p : (0 : Int) < 2 ^ s := Int.pow_pos (by decide)
  unfold wc
  split
  · split <;> omega
  · omega
mutual
theorem cnt_bd (prs : Prs) : ∀ (sh : Sh) (s : Nat), s ≤ 45 → okS prs sh → wt sh ≤ 1000 → 0 ≤ cnt (bkO prs) sh s ∧ cnt (bkO prs) sh s ≤ 2 ^ (12100 * s + (12 * wt sh - 6))
  | .w lo span, s, hs, h, hw => by
    have wp := wt_pos (.w lo span)
    rw [cnt_w]
    obtain ⟨h1, h2⟩ := wc_bound span s
    exact ⟨h1, Int.le_trans h2 (pw_le (by omega))⟩
  | .t sg, s, hs, h, hw => by
    have wp := wt_pos (.t sg)
    rw [cnt_t]
    rw [okS] at h
    have e : ((sg.length : Int)) ^ s ≤ (2 ^ 6) ^ s := by
      have : sg.length ^ s ≤ (2 ^ 6) ^ s := Nat.pow_le_pow_left (by omega) s
      exact_mod_cast this
    rw [← Int.pow_mul] at e
    exact ⟨Int.pow_nonneg (by omega), Int.le_trans e (pw_le (by omega))⟩
  | .row ps, s, hs, h, hw => by
    rw [okS] at h
    rw [wt] at hw ⊢
    rw [cnt_row]
    obtain ⟨h1, h2⟩ := rowc_bd prs ps s hs h.2 (by omega)
    exact ⟨h1, Int.le_trans h2 (pw_le (by omega))⟩
  | .pick mk ps, s, hs, h, hw => by
    rw [okS] at h
    rw [wt] at hw ⊢
    rw [cnt_pick]
    obtain ⟨h1, h2⟩ := pick_bd prs ps s hs h.2.2 (by omega)
    exact ⟨h1, Int.le_trans h2 (pw_le (by omega))⟩
  | .many p, 0, hs, h, hw => by
    rw [cnt_many0]
    exact ⟨by decide, Int.le_trans (by decide : (1 : Int) ≤ 2 ^ 0) (pw_le (Nat.zero_le _))⟩
  | .many p, s + 1, hs, h, hw => by
    rw [okS] at h
    have ew : wt (.many p) = wt p + 1 := by rw [wt]
    rw [cnt_many]
    have wp := wt_pos p
    obtain ⟨h1, h2⟩ := sum_le (B := 2 ^ (12100 * s + (12 * wt p - 6) + (12 * wt (.many p) - 6))) (l := (List.range (s + 1)).map fun f => cnt (bkO prs) p f * cnt (bkO prs) (.many p) (s + 1 - 1 - f)) (fun x hx => by
      obtain ⟨f, hf, rfl⟩ := List.mem_map.mp hx
      have hf := List.mem_range.mp hf
      obtain ⟨a1, a2⟩ := cnt_bd prs p f (by omega) h (by omega)
      obtain ⟨b1, b2⟩ := cnt_bd prs (.many p) (s - f) (by omega) (by rw [okS]; exact h) hw
      obtain ⟨c1, c2⟩ := mul_le a1 a2 b1 b2
      refine ⟨c1, Int.le_trans c2 (pw_le ?_)⟩
      omega)
    refine ⟨h1, Int.le_trans h2 ?_⟩
    rw [List.length_map, List.length_range]
    exact Int.le_trans (few_le (by omega)) (pw_le (by omega))
  | .alike _ _, s, hs, h, hw => by rw [okS] at h; cases h
  | .use x, 0, hs, h, hw => by
    rw [cnt_use0]
    exact ⟨Int.le_refl _, Int.le_of_lt (Int.pow_pos (by decide))⟩
  | .use x, s + 1, hs, h, hw => by
    rw [okS] at h
    obtain ⟨q, hq, hl⟩ := h
    have eb : bkO prs x = q.2 := by rw [bkO, hq]; rfl
    have w1 : wt q.2 = 1 := leaf_wt hl
    rw [cnt_use, eb]
    obtain ⟨h1, h2⟩ := cnt_bd prs q.2 s (by omega) (leaf_ok hl) (by omega)
    exact ⟨h1, Int.le_trans h2 (pw_le (by omega))⟩
termination_by sh s => (s, sizeOf sh)
decreasing_by
  all_goals simp only [Prod.lex_def]
  all_goals first | (right; exact ⟨trivial, by simp; omega⟩) | (right; exact ⟨rfl, by simp; omega⟩) | (right; exact ⟨trivial, by simp⟩) | (left; omega) | (by_cases c : f < s; (left; exact c); (right; exact ⟨by omega, by simp; omega⟩)) | (by_cases c : s - f < s; (left; exact c); (right; exact ⟨by omega, by simp; omega⟩)) | (right; simp) | (right; simp; omega)
theorem rowc_bd (prs : Prs) : ∀ (ps : List Sh) (s : Nat), s ≤ 45 → okSs prs ps → wts ps ≤ 1000 → 0 ≤ rowc (bkO prs) ps s ∧ rowc (bkO prs) ps s ≤ 2 ^ (12100 * s + 12 * wts ps)
  | [], s, hs, h, hw => by
    rw [rowc_nil]
    split
    · exact ⟨by decide, Int.le_trans (by decide : (1 : Int) ≤ 2 ^ 0) (pw_le (Nat.zero_le _))⟩
    · exact ⟨Int.le_refl _, Int.le_of_lt (Int.pow_pos (by decide))⟩
  | p :: ps, s, hs, h, hw => by
    rw [okSs] at h
    have ew : wts (p :: ps) = wt p + wts ps := by rw [wts]
    have wp := wt_pos p
    rw [rowc_cons]
    obtain ⟨h1, h2⟩ := sum_le (B := 2 ^ (12100 * s + (12 * wt p - 6) + 12 * wts ps)) (l := (List.range (s + 1)).map fun f => cnt (bkO prs) p f * rowc (bkO prs) ps (s - f)) (fun x hx => by
      obtain ⟨f, hf, rfl⟩ := List.mem_map.mp hx
      have hf := List.mem_range.mp hf
      obtain ⟨a1, a2⟩ := cnt_bd prs p f (by omega) h.1 (by omega)
      obtain ⟨b1, b2⟩ := rowc_bd prs ps (s - f) (by omega) h.2 (by omega)
      obtain ⟨c1, c2⟩ := mul_le a1 a2 b1 b2
      refine ⟨c1, Int.le_trans c2 (pw_le ?_)⟩
      omega)
    refine ⟨h1, Int.le_trans h2 ?_⟩
    rw [List.length_map, List.length_range]
    exact Int.le_trans (few_le (by omega)) (pw_le (by omega))
termination_by ps s => (s, sizeOf ps)
decreasing_by
  all_goals simp only [Prod.lex_def]
  all_goals first | (right; exact ⟨trivial, by simp; omega⟩) | (right; exact ⟨rfl, by simp; omega⟩) | (right; exact ⟨trivial, by simp⟩) | (left; omega) | (by_cases c : f < s; (left; exact c); (right; exact ⟨by omega, by simp; omega⟩)) | (by_cases c : s - f < s; (left; exact c); (right; exact ⟨by omega, by simp; omega⟩)) | (right; simp) | (right; simp; omega)
theorem pick_bd (prs : Prs) : ∀ (ps : List Sh) (s : Nat), s ≤ 45 → okSs prs ps → wts ps ≤ 1000 → 0 ≤ (ps.map fun p => cnt (bkO prs) p s).sum ∧ (ps.map fun p => cnt (bkO prs) p s).sum ≤ 2 ^ (12100 * s + 12 * wts ps)
  | [], s, hs, h, hw => ⟨Int.le_refl _, Int.le_of_lt (Int.pow_pos (by decide))⟩
  | p :: ps, s, hs, h, hw => by
    rw [okSs] at h
    have ew : wts (p :: ps) = wt p + wts ps := by rw [wts]
    have wp := wt_pos p
    obtain ⟨a1, a2⟩ := cnt_bd prs p s hs h.1 (by omega)
    obtain ⟨b1, b2⟩ := pick_bd prs ps s hs h.2 (by omega)
    rw [List.map_cons, List.sum_cons]
    have c1 := Int.le_trans a2 (pw_le (show 12100 * s + (12 * wt p - 6) ≤ 12100 * s + 12 * wts (p :: ps) - 1 by omega))
    have c2 := Int.le_trans b2 (pw_le (show 12100 * s + 12 * wts ps ≤ 12100 * s + 12 * wts (p :: ps) - 1 by omega))
    obtain ⟨n, hn⟩ : ∃ n, 12100 * s + 12 * wts (p :: ps) = n + 1 := ⟨12100 * s + 12 * wts (p :: ps) - 1, by omega⟩
    rw [hn, Nat.add_sub_cancel] at c1 c2
    rw [hn, Int.pow_succ]
    omega
termination_by ps s => (s, sizeOf ps)
decreasing_by
  all_goals simp only [Prod.lex_def]
  all_goals first | (right; exact ⟨trivial, by simp; omega⟩) | (right; exact ⟨rfl, by simp; omega⟩) | (right; exact ⟨trivial, by simp⟩) | (left; omega) | (by_cases c : f < s; (left; exact c); (right; exact ⟨by omega, by simp; omega⟩)) | (by_cases c : s - f < s; (left; exact c); (right; exact ⟨by omega, by simp; omega⟩)) | (right; simp) | (right; simp; omega)
end
mutual
theorem ko_kd : ∀ sh : Sh, KO (kd sh)
  | .w _ _ => by rw [kd]; exact .tup (.cons (.str _) (.cons (.int _) (.cons (.int _) .nil)))
  | .t _ => by rw [kd]; exact .tup (.cons (.str _) (.cons (.str _) .nil))
  | .row ps => by rw [kd]; exact .tup (.cons (.str _) (.cons (.tup (ko_kds ps)) .nil))
  | .pick mk ps => by rw [kd]; exact .tup (.cons (.str _) (.cons (.tup (ko_kdp mk ps)) .nil))
  | .many p => by rw [kd]; exact .tup (.cons (.str _) (.cons (ko_kd p) .nil))
  | .alike p _ => by rw [kd]; exact .tup (.cons (.str _) (.cons (ko_kd p) (.cons (.int _) .nil)))
  | .use _ => by rw [kd]; exact .tup (.cons (.str _) (.cons (.str _) .nil))
theorem ko_kds : ∀ ps : List Sh, KOs (kds ps)
  | [] => by rw [kds]; exact .nil
  | p :: ps => by rw [kds]; exact .cons (ko_kd p) (ko_kds ps)
theorem ko_kdp : ∀ (mk : List (List Nat)) (ps : List Sh), KOs (kdp mk ps)
  | m :: mk, p :: ps => by rw [kdp]; exact .cons (.tup (.cons (.str _) (.cons (ko_kd p) .nil))) (ko_kdp mk ps)
  | [], _ => by simp only [kdp]; exact .nil
  | _ :: _, [] => by simp only [kdp]; exact .nil
end
theorem den_tup {K : PySem.W.Frag} {H : Hp} {v : V} {ds : List PyData} (h : Den K H v (.tuple ds)) : ∃ b vs, v = .ref b ∧ SqT K H b vs ∧ Dens K H vs ds := by
  cases h with
  | tup h1 h2 => exact ⟨_, _, rfl, h1, h2⟩
theorem den_str {K : PySem.W.Frag} {H : Hp} {v : V} {x : Str} (h : Den K H v (.str x)) : v = .str x := by cases h; rfl
theorem den_int {K : PySem.W.Frag} {H : Hp} {v : V} {x : Int} (h : Den K H v (.int x)) : v = .int x := by cases h; rfl
theorem dens_cons {K : PySem.W.Frag} {H : Hp} {vs : List V} {d : PyData} {ds : List PyData} (h : Dens K H vs (d :: ds)) : ∃ v r, vs = v :: r ∧ Den K H v d ∧ Dens K H r ds := by
  cases h with
  | cons h1 h2 => exact ⟨_, _, rfl, h1, h2⟩
theorem dens_nil {K : PySem.W.Frag} {H : Hp} {vs : List V} (h : Dens K H vs []) : vs = [] := by cases h; rfl
theorem kd_tup (sh : Sh) : ∃ ds, kd sh = .tuple ds := by cases sh <;> exact ⟨_, by rw [kd]⟩
theorem dens_kds {K : PySem.W.Frag} {H : Hp} : ∀ {ps : List Sh} {vs : List V}, Dens K H vs (kds ps) → ∃ bs : List Addr, vs = bs.map V.ref ∧ bs.length = ps.length ∧ ∀ (i : Nat) b q, bs[i]? = some b → ps[i]? = some q → Den K H (.ref b) (kd q)
  | [], vs, h => by
    rw [kds] at h
    exact ⟨[], dens_nil h, rfl, fun i b q h => by simp at h⟩
  | p :: ps, vs, h => by
    rw [kds] at h
    obtain ⟨v, r, rfl, h1, h2⟩ := dens_cons h
    obtain ⟨bs, rfl, hl, hb⟩ := dens_kds h2
    obtain ⟨ds, hd⟩ := kd_tup p
    obtain ⟨b, _, rfl, _, _⟩ := den_tup (by rw [hd] at h1; exact h1)
    refine ⟨b :: bs, rfl, by simp [hl], fun i b' q e1 e2 => ?_⟩
    cases i with
    | zero =>
      have z1 : b = b' := Option.some.inj e1
      have z2 : p = q := Option.some.inj e2
      subst z1 z2
      exact h1
    | succ i => exact hb i b' q (by simpa using e1) (by simpa using e2)
theorem dens_kdp {K : PySem.W.Frag} {H : Hp} : ∀ {mk : List (List Nat)} {ps : List Sh} {vs : List V}, mk.length = ps.length → Dens K H vs (kdp mk ps) → ∃ ts bs : List Addr, vs = ts.map V.ref ∧ ts.length = ps.length ∧ bs.length = ps.length ∧ (∀ (i : Nat) T m b, ts[i]? = some T → mk[i]? = some m → bs[i]? = some b → SqT K H T [.str (S m), .ref b]) ∧ ∀ (i : Nat) b q, bs[i]? = some b → ps[i]? = some q → Den K H (.ref b) (kd q)
  | [], [], vs, _, h => by
    rw [show kdp [] [] = [] by simp [kdp]] at h
    exact ⟨[], [], dens_nil h, rfl, rfl, fun i T m b h => by simp at h, fun i b q h => by simp at h⟩
  | m :: mk, p :: ps, vs, hl, h => by
    rw [kdp] at h
    obtain ⟨v, r, rfl, h1, h2⟩ := dens_cons h
    obtain ⟨ts, bs, rfl, l1, l2, hT, hb⟩ := dens_kdp (by simpa using hl) h2
    obtain ⟨T, us, rfl, h3, h4⟩ := den_tup h1
    obtain ⟨u1, r1, rfl, h5, h6⟩ := dens_cons h4
    obtain ⟨u2, r2, rfl, h7, h8⟩ := dens_cons h6
    have := dens_nil h8
    subst this
    have := den_str h5
    subst this
    obtain ⟨ds, hd⟩ := kd_tup p
    obtain ⟨b, _, rfl, _, _⟩ := den_tup (by rw [hd] at h7; exact h7)
    refine ⟨T :: ts, b :: bs, rfl, by simp [l1], by simp [l2], fun i T' m' b' e1 e2 e3 => ?_, fun i b' q e1 e2 => ?_⟩
    · cases i with
      | zero =>
        have z1 : T = T' := Option.some.inj e1
        have z2 : m = m' := Option.some.inj e2
        have z3 : b = b' := Option.some.inj e3
        subst z1 z2 z3
        exact h3
      | succ i => exact hT i T' m' b' (by simpa using e1) (by simpa using e2) (by simpa using e3)
    · cases i with
      | zero =>
        have z1 : b = b' := Option.some.inj e1
        have z2 : p = q := Option.some.inj e2
        subst z1 z2
        exact h7
      | succ i => exact hb i b' q (by simpa using e1) (by simpa using e2)
  | [], _ :: _, _, hl, _ => by simp at hl
  | _ :: _, [], _, hl, _ => by simp at hl
theorem depth_kds {q : Sh} : ∀ {ps : List Sh}, q ∈ ps → (kd q).depth ≤ PyData.depthAll (kds ps)
  | p :: ps, h => by
    rw [kds]
    simp only [PyData.depthAll]
    rcases List.mem_cons.mp h with rfl | h
    · omega
    · have := depth_kds h
      omega
theorem depth_kdp {q : Sh} : ∀ {mk : List (List Nat)} {ps : List Sh}, mk.length = ps.length → q ∈ ps → (kd q).depth ≤ PyData.depthAll (kdp mk ps)
  | m :: mk, p :: ps, hl, h => by
    rw [kdp]
    simp only [PyData.depthAll, PyData.depth]
    rcases List.mem_cons.mp h with rfl | h
    · omega
    · have := depth_kdp (mk := mk) (by simpa using hl) h
      omega
  | [], _ :: _, hl, _ => by simp at hl
def subs : Sh → List Sh
  | .row ps => ps
  | .pick _ ps => ps
  | .many p => [p]
  | _ => []
section
variable {src : List (Option Nat)} {te : TE} {σ : St} {H : Hp} {Q : VK}
theorem tLC_pairsT {K : PySem.W.Frag} {tl : TE} {b : Addr} {xs : List V} (ps : List (V × V)) (ys : List V) (ha : ∀ R : V → Hp → Prop, R (.ref b) H → tl σ H R) (hS : SqT K H b xs) (hp : ∀ (i : Nat) x p, xs[i]? = some x → ps[i]? = some p → ∃ T, x = .ref T ∧ SqT K H T [p.1, p.2]) (hl : ps.length = xs.length) (hl2 : ys.length = xs.length) (hlen : xs.length ≤ 100000)
    (step : ∀ (i : Nat) p y H', ps[i]? = some p → ys[i]? = some y → Same H H' → ∀ R : VK, (∀ H'', Same H' H'' → R y H'') → te (some p.1 :: some p.2 :: capSt src σ) H' R)
    (fin : ∀ D H', H D = none → Same H H' → H' D = some (.lst ys) → Q (.ref D) H') : tLC (none :: none :: src) (iTup K tl) (gTup K 2 (gCons (gName 0) (gCons (gName 1) gNil))) tYes te σ H Q := by
  refine ha _ ⟨b, rfl, ⟨xs, hS⟩, fun D hD => ?_⟩
  have h6 : 100000 < sizeLine := by decide
  refine lc_on (itseq_tup.imp fun H' (e : Same H H') => e.tup hS) (fun i zs σ' H' => zs = ys.take i ∧ (∃ o o', σ' = o :: o' :: capSt src σ) ∧ Same H H' ∧ H' D = some (.lst zs)) ⟨by simp, ⟨none, none, rfl⟩, .upd_new hD _, upd_same⟩ (fun i zs σ' H' p => ⟨p.2.2.1, p.2.2.2⟩) (gTup2_mono' K 0 1) ?_ ?_
  · rintro i zs σ' H' x hx ⟨rfl, ⟨o, o', rfl⟩, sm, hd⟩
    have hi := (List.getElem?_eq_some_iff.mp hx).1
    have hy : ys[i]? = some (ys[i]'(by omega)) := List.getElem?_eq_getElem _
    have hpi : ps[i]? = some (ps[i]'(by omega)) := List.getElem?_eq_getElem _
    obtain ⟨T, rfl, hT⟩ := hp i x _ hx hpi
    refine ⟨T, _, rfl, sm.tup hT, rfl, _, _, rfl, _, _, rfl, rfl, ?_⟩
    refine step i _ _ H' hpi hy sm _ fun H'' s2 => ⟨s2 _ _ hd, ?_, (take_snoc hy).symm, ⟨_, _, rfl⟩, .upd_over hD (sm.trans s2) _, upd_same⟩
    rw [List.length_take]; omega
  · rintro zs σ' H' ⟨rfl, _, sm, hd⟩
    rw [← hl2, List.take_length] at hd
    exact fin D H' hD sm hd
theorem tLC_listIG {K : PySem.W.Frag} {tl : TE} (G : Addr → List V → Hp → Prop) (ha : ∀ R : V → Hp → Prop, (∀ b xs H1, G b xs H1 → R (.ref b) H1) → tl σ H R)
    (hb : ∀ b xs H1, G b xs H1 → SqL K H1 b xs ∧ xs.length ≤ 100000 ∧ ∃ I : Addr → Nat → List V → Hp → Prop, (∀ D, H1 D = none → I D 0 [] (upd H1 D (.lst []))) ∧ (∀ D i zs H', H1 D = none → I D i zs H' → zs.length = i ∧ H' D = some (.lst zs) ∧ SqL K H' b xs) ∧
      (∀ D (i : Nat) x zs H', H1 D = none → xs[i]? = some x → I D i zs H' → ∀ R : VK, (∀ y H'', H'' D = some (.lst zs) → I D (i + 1) (zs ++ [y]) (upd H'' D (.lst (zs ++ [y]))) → R y H'') → te (some x :: capSt src σ) H' R) ∧
      (∀ D zs H', H1 D = none → I D xs.length zs H' → Q (.ref D) H')) : tLC (none :: src) (iList K tl) (gName 0) tYes te σ H Q := by
  refine ha _ fun b xs H1 hG => ?_
  obtain ⟨hS, hlen, I, i0, dl, step, fin⟩ := hb b xs H1 hG
  refine ⟨b, rfl, ⟨xs, hS⟩, fun D hD => ?_⟩
  have h6 : 100000 < sizeLine := by decide
  refine lc_on itseq_list (fun i zs σ' H' => (∃ o, σ' = o :: capSt src σ) ∧ i ≤ xs.length ∧ I D i zs H') ⟨⟨none, rfl⟩, Nat.zero_le _, i0 D hD⟩ (fun i zs σ' H' q => ⟨(dl _ _ _ _ hD q.2.2).2.2, (dl _ _ _ _ hD q.2.2).2.1⟩) (gName_mono 0) ?_ ?_
  · rintro i zs σ' H' x hx ⟨⟨o, rfl⟩, _, hI⟩
    have hi : i < xs.length := (List.getElem?_eq_some_iff.mp hx).1
    have hl := (dl _ _ _ _ hD hI).1
    show te (some x :: capSt src σ) H' _
    exact step D i x zs H' hD hx hI _ fun y H'' hd hI' => ⟨hd, by omega, ⟨_, rfl⟩, hi, hI'⟩
  · rintro zs σ' H' ⟨_, _, hI⟩
    exact fin D zs H' hD hI
end
theorem den2 {K : PySem.W.Frag} {H : Hp} {a : Addr} {x : Str} {d : PyData} (h : Den K H (.ref a) (.tuple [.str x, d])) : ∃ v, SqT K H a [.str x, v] ∧ Den K H v d := by
  obtain ⟨b, vs, e, h1, h2⟩ := den_tup h
  have := V.ref.inj e
  subst this
  obtain ⟨u1, r1, rfl, h5, h6⟩ := dens_cons h2
  obtain ⟨u2, r2, rfl, h7, h8⟩ := dens_cons h6
  have := dens_nil h8
  subst this
  have := den_str h5
  subst this
  exact ⟨u2, h1, h7⟩
theorem kd_depth {q : Sh} {prs : Prs} {sh : Sh} (hok : okS prs sh) (h : q ∈ subs sh) : (kd q).depth ≤ (kd sh).depth := by
  cases sh with
  | row ps =>
    have := depth_kds (ps := ps) h
    rw [show kd (.row ps) = .tuple [.str "row", .tuple (kds ps)] by rw [kd]]
    simp only [PyData.depth, PyData.depthAll]
    omega
  | pick mk ps =>
    rw [okS] at hok
    have := depth_kdp (ps := ps) hok.1 h
    rw [show kd (.pick mk ps) = .tuple [.str "pick", .tuple (kdp mk ps)] by rw [kd]]
    simp only [PyData.depth, PyData.depthAll]
    omega
  | many p =>
    have : q = p := by simpa [subs] using h
    subst this
    rw [show kd (.many q) = .tuple [.str "many", kd q] by rw [kd]]
    simp only [PyData.depth, PyData.depthAll]
    omega
  | _ => cases h
theorem dk_part {K : PySem.W.Frag} {H : Hp} {a b : Addr} {prs : Prs} {sh q : Sh} (hk : DK K H a (kd sh)) (hok : okS prs sh) (h : q ∈ subs sh) (hb : Den K H (.ref b) (kd q)) : DK K H b (kd q) := ⟨hb, ko_kd q, Nat.le_trans (kd_depth hok h) hk.dp⟩
def Z2c (K : PySem.W.Frag) : Sp := fun vs H Q _ => ∃ (prs : Prs) (a : Addr) (sh : Sh), vs = [.ref a] ∧ DK K H a (kd sh) ∧ okS prs sh ∧ (kind sh = 2 ∨ kind sh = 3 ∨ kind sh = 4) ∧
  ∀ D (bs : List Addr) H', Same H H' → H D = none → H' D = some (.lst (bs.map V.ref)) → bs.length = (subs sh).length → (∀ (i : Nat) b q, bs[i]? = some b → (subs sh)[i]? = some q → DK K H b (kd q)) → Q (.ref D) H'
theorem ok_parts_of {Z7 Z2 Z1 Z4 Z6 Z3 Z5 Z0 : Addr} (R : g.Raw "parts_of" "parts_of" Z2E ["shape"]) (b_list : g.mg "list" = none) (Z3c : g.ConT "OF_ONE_PART" ([.str "many", .str "rising", .str "unlike"])) : g.Fn (1) "parts_of" ["shape"] (Z2c g.K) := by
  refine R.fn Z3O (fun vs H Q E h => by obtain ⟨prs, a, sh, rfl, hk, hok, hki, q⟩ := h; rfl) fun f_ cdv A outer s H vs Q E hr h => ?_
  obtain ⟨prs, a, sh, rfl, hk, hok, hki, q⟩ := h
  refine ⟨_, (@pss_cons _ _ _ _ _ (@ps_set _ _ (1) _ _ _ _ Z3O.nd rfl (Or.inl rfl) (@pe_ix _ _ _ _ _ _ _ ix_tup (@pv _ 0 _ _ (by rfl) (by first | exact Or.inl rfl | exact Or.inr (Or.inl rfl) | exact Or.inr (Or.inr rfl)) (by decide) (by decide)) pe_int (fun _ _ => rfl)) (by rfl) (by first | exact .inl rfl | exact .inr rfl | assumption)) (@pss_cons _ _ _ _ _ (@ps_if _ _ _ _ _ _ _ _ (@pt_cmpR _ _ _ _ _ _ _ _ op_eq (@pv _ 1 _ _ (by rfl) (by first | exact Or.inl rfl | exact Or.inr (Or.inl rfl) | exact Or.inr (Or.inr rfl)) (by decide) (by decide)) pe_str (nomark _)) (@pss_one _ _ _ (@ps_ret _ _ _ _ (@pe_bt _ _ _ _ _ _ _ _ _ _ b_list call_list_of (@pa_cons _ _ _ _ _ (@pe_ix _ _ _ _ _ _ _ ix_tup (@pv _ 0 _ _ (by rfl) (by first | exact Or.inl rfl | exact Or.inr (Or.inl rfl) | exact Or.inr (Or.inr rfl)) (by decide) (by decide)) pe_int (fun _ _ => rfl)) pa_nil (by rfl)) (by decide +kernel) (by rfl) (by rfl) (by decide) (by decide) (by rfl) (by rfl)))) pss_nil) (@pss_cons _ _ _ _ _ (@ps_if _ _ _ _ _ _ _ _ (@pt_cmpR _ _ _ _ _ _ _ _ op_eq (@pv _ 1 _ _ (by rfl) (by first | exact Or.inl rfl | exact Or.inr (Or.inl rfl) | exact Or.inr (Or.inr rfl)) (by decide) (by decide)) pe_str (nomark _)) (@pss_one _ _ _ (@ps_ret _ _ _ _ (@pe_lc _ _ _ _ _ _ _ ([none, none]) ((["mark", "part"] : List Str)) _ (gTup g.K 2 (gCons (gName 0) (gCons (gName 1) gNil))) _ _ (.own (.own .nil)) rfl (@pi_tup _ _ _ _ (@pe_ix _ _ _ _ _ _ _ ix_tup (@pv _ 0 _ _ (by rfl) (by first | exact Or.inl rfl | exact Or.inr (Or.inl rfl) | exact Or.inr (Or.inr rfl)) (by decide) (by decide)) pe_int (fun _ _ => rfl))) (fun cl C s₀ H₀ fp pn => (@pg_tup _ _ _ _ _ (2) rfl (@pgs_cons _ _ _ _ _ (@pg_name _ _ (0) _ (show List.Nodup (["mark", "part"] : List Str) by decide +kernel) rfl (Or.inl rfl) (Or.inr rfl)) (@pgs_cons _ _ _ _ _ (@pg_name _ _ (1) _ (show List.Nodup (["mark", "part"] : List Str) by decide +kernel) rfl (Or.inl rfl) (Or.inr rfl)) pgs_nil (by rfl)) (by rfl)) (by rfl) (by rfl))) (fun cl C s₀ H₀ fp pn => pts_nil) (fun cl C s₀ H₀ fp pn => (@pv _ 1 _ _ (by rfl) (by first | exact Or.inl rfl | exact Or.inr (Or.inl rfl) | exact Or.inr (Or.inr rfl)) (by decide) (by decide))) (by intro x hx; simp at hx) (by rfl) (by decide) (by decide +kernel) (by intro _; rfl)))) pss_nil) (@pss_cons _ _ _ _ _ (@ps_if _ _ _ _ _ _ _ _ (@pw_or _ _ _ _ _ _ _ (@pt_cmpR _ _ _ _ _ _ _ _ op_eq (@pv _ 1 _ _ (by rfl) (by first | exact Or.inl rfl | exact Or.inr (Or.inl rfl) | exact Or.inr (Or.inr rfl)) (by decide) (by decide)) pe_str (nomark _)) (@pw_or1 _ _ _ _ (@pt_cmpR _ _ _ _ _ _ _ _ op_in_seq (@pv _ 1 _ _ (by rfl) (by first | exact Or.inl rfl | exact Or.inr (Or.inl rfl) | exact Or.inr (Or.inr rfl)) (by decide) (by decide)) (@pe_gt _ _ _ _ _ Z3c (by rfl) (by rfl) (by decide)) rfl))).pt (@pss_one _ _ _ (@ps_ret _ _ _ _ (@pe_lst _ _ _ _ (@pa_cons _ _ _ _ _ (@pe_ix _ _ _ _ _ _ _ ix_tup (@pv _ 0 _ _ (by rfl) (by first | exact Or.inl rfl | exact Or.inr (Or.inl rfl) | exact Or.inr (Or.inr rfl)) (by decide) (by decide)) pe_int (fun _ _ => rfl)) pa_nil (by rfl))))) pss_nil) (@pss_one _ _ _ ps_never))))), ?_⟩
  walk_at "rd"
  cases sh with
  | row ps =>
    have hd := hk.den
    rw [kd] at hd
    obtain ⟨v, hT, hv⟩ := den2 hd
    obtain ⟨b, vs, rfl, hb, hvs⟩ := den_tup hv
    obtain ⟨bs, rfl, hl, hbs⟩ := dens_kds hvs
    exact ⟨_, hT, _, atI_nat (j := 0) rfl, scal_ss _ _, iteY rfl ⟨_, hT, _, atI_nat (j := 1) rfl, b, rfl, _, .inr hb, fun l hl' => q l bs _ (.upd_new hl' _) hl' upd_same hl fun i b' q' h1 h2 => dk_part hk hok (List.mem_of_getElem? h2) (hbs i b' q' h1 h2)⟩⟩
  | pick mk ps =>
    have hd := hk.den
    have hok' := hok
    rw [okS] at hok'
    rw [kd] at hd
    obtain ⟨v, hT, hv⟩ := den2 hd
    obtain ⟨b, vs, rfl, hb, hvs⟩ := den_tup hv
    obtain ⟨ts, bs, rfl, hl1, hl2, hts, hbs⟩ := dens_kdp hok'.1 hvs
    refine ⟨_, hT, _, atI_nat (j := 0) rfl, scal_ss _ _, iteN (by decide +kernel) ⟨scal_ss _ _, iteY rfl ?_⟩⟩
    have hlz : ((mk.zip bs).map fun p => (V.str (S p.1), V.ref p.2)).length = bs.length := by rw [List.length_map, List.length_zip]; omega
    refine tLC_pairsT (K := g.K) (b := b) (xs := ts.map V.ref) ((mk.zip bs).map fun p => (V.str (S p.1), V.ref p.2)) (bs.map V.ref) (fun R r => by walk_at "rd"; exact ⟨_, hT, _, atI_nat (j := 1) rfl, r⟩) hb ?_ (by rw [hlz, List.length_map]; omega) (by rw [List.length_map, List.length_map]; omega) (by rw [List.length_map]; omega) ?_ ?_
    · intro i x p hx hp
      rw [List.getElem?_map] at hx hp
      obtain ⟨T, hT', rfl⟩ := Option.map_eq_some_iff.mp hx
      obtain ⟨⟨m, b'⟩, hz, rfl⟩ := Option.map_eq_some_iff.mp hp
      rw [List.getElem?_zip_eq_some] at hz
      exact ⟨T, rfl, hts i T m b' hT' hz.1 hz.2⟩
    · intro i p y H' hp hy sm R r
      rw [List.getElem?_map] at hp hy
      obtain ⟨⟨m, b'⟩, hz, rfl⟩ := Option.map_eq_some_iff.mp hp
      rw [List.getElem?_zip_eq_some] at hz
      rw [hz.2] at hy
      have : V.ref b' = y := Option.some.inj hy
      subst this
      walk_at "rd"
      exact r H' (.refl _)
    · intro D H' hD sm hd'
      exact q D bs H' sm hD hd' hl2 fun i b' q' h1 h2 => dk_part hk hok (List.mem_of_getElem? h2) (hbs i b' q' h1 h2)
  | many p =>
    have hd := hk.den
    rw [kd] at hd
    obtain ⟨v, hT, hv⟩ := den2 hd
    obtain ⟨ds, hds⟩ := kd_tup p
    obtain ⟨b, _, rfl, _, _⟩ := den_tup (by rw [hds] at hv; exact hv)
    refine ⟨_, hT, _, atI_nat (j := 0) rfl, scal_ss _ _, iteN (by decide +kernel) ⟨scal_ss _ _, iteN (by decide +kernel) ⟨scal_ss _ _, iteN (by decide +kernel) fun c hc => ⟨_, .inr hc, rfl, rfl, iteY (by decide +kernel) ⟨_, hT, _, atI_nat (j := 1) rfl, few (by decide), fun l hl' => q l [b] _ (.upd_new hl' _) hl' upd_same rfl fun i b' q' h1 h2 => ?_⟩⟩⟩⟩⟩
    cases i with
    | zero =>
      have z1 : b = b' := Option.some.inj h1
      have z2 : p = q' := Option.some.inj h2
      subst z1 z2
      exact dk_part hk hok (.head _) hv
    | succ i => simp at h1
  | _ => simp [kind] at hki
def t0 (U : Addr → Prop) : Sw := ⟨fun _ => 0, fun _ _ => 0, U⟩
structure BI (C : Cs) (w : Wo) (U O : Addr → Prop) (H : Hp) : Prop where
  at_ : ∀ p sh, w.reg p = some sh → ¬ O p → MkAt C w (t0 U) H p sh
  op : ∀ p, O p → ∃ x dx c, w.reg p = some (.use x) ∧ Un w (t0 U) p ∧ (∀ s, s ≤ 45 → sm (cnt w.bk (.use x) s)) ∧ H p = some (.ins C.use dx (mf c (fU .non))) ∧ w.D c = some (p, 0) ∧ H c = some (.lst [])
  al : ∀ b, U b → H b ≠ none
  ow : ∀ b x, w.D b = some x → U b
  oo : ∀ b q i, w.D b = some (q, i) → U q
  inj : ∀ b b' x, w.D b = some x → w.D b' = some x → b = b'
structure WG (w w' : Wo) (U U' : Addr → Prop) (H : Hp) : Prop where
  bk : w'.bk = w.bk
  M : w'.M = w.M
  reg : ∀ p sh, w.reg p = some sh → w'.reg p = some sh
  D : ∀ b, U b → w'.D b = w.D b
  u1 : ∀ b, U b → U' b
  u2 : ∀ b, U' b → U b ∨ H b = none
theorem WG.refl (w : Wo) (U : Addr → Prop) (H : Hp) : WG w w U U H := ⟨rfl, rfl, fun _ _ h => h, fun _ _ => rfl, fun _ h => h, fun _ h => .inl h⟩
theorem WG.trans {w w1 w2 : Wo} {U U1 U2 : Addr → Prop} {H H1 : Hp} (a : WG w w1 U U1 H) (b : WG w1 w2 U1 U2 H1) (h : ∀ x, H x ≠ none → H1 x ≠ none) : WG w w2 U U2 H :=
  ⟨b.bk.trans a.bk, b.M.trans a.M, fun p sh e => b.reg p sh (a.reg p sh e), fun x e => (b.D x (a.u1 x e)).trans (a.D x e), fun x e => b.u1 x (a.u1 x e), fun x e => by
    rcases b.u2 x e with e | e
    · exact a.u2 x e
    · cases c : H x with
      | none => exact .inr rfl
      | some o => exact absurd e (h x (by rw [c]; intro z; cases z))⟩
theorem RegAll.grow {w w' : Wo} {U U' : Addr → Prop} {H : Hp} (G : WG w w' U U' H) {as : List Addr} {ps : List Sh} (h : RegAll w.reg as ps) : RegAll w'.reg as ps := ⟨h.1, fun i a p h1 h2 => G.reg _ _ (h.2 i a p h1 h2)⟩
theorem Sub.grow {C : Cs} {w w' : Wo} {U U' : Addr → Prop} {H H' H0 : Hp} {p : Addr} (G : WG w w' U U' H0) (ow : ∀ b x, w.D b = some x → U b) (hk : ∀ b o, U b → H b = some o → H' b = some o) : ∀ {sh : Sh} {fs : List (Str × V)}, Sub C w (t0 U) H p sh fs → Sub C w' (t0 U') H' p sh fs
  | .w lo span, fs, h => h
  | .t sg, fs, h => h
  | .row ps, fs, h => by
    obtain ⟨P, T, dt, L, as, ws, h1, h2, h3, h4, h5, h6, h7, h8, h9, h10, h11, h12⟩ := h
    have un : ∀ {b : Addr}, Un w (t0 U) b → Un w' (t0 U') b := fun z => ⟨(G.D _ z.2).trans z.1, G.u1 _ z.2⟩
    refine ⟨P, T, dt, L, as, ws, h1, un h2, un h3, un h4, hk _ _ h2.2 h5, h6.grow G, h7, hk _ _ h3.2 h8, hk _ _ h4.2 h9, h10, fun i x hx => ?_, by rw [G.bk]; exact h12⟩
    obtain ⟨k1, k2, k3, k4⟩ := h11 i x hx
    exact ⟨(G.D _ (ow _ _ k1)).trans k1, k2, k3, by rw [G.bk]; exact hk _ _ (ow _ _ k1) k4⟩
  | .pick mk ps, fs, h => by
    obtain ⟨M, P, as, h1, h2, h3, h4, h5, h6, h7⟩ := h
    have un : ∀ {b : Addr}, Un w (t0 U) b → Un w' (t0 U') b := fun z => ⟨(G.D _ z.2).trans z.1, G.u1 _ z.2⟩
    exact ⟨M, P, as, h1, un h2, un h3, hk _ _ h2.2 h4, hk _ _ h3.2 h5, h6.grow G, h7⟩
  | .many q, fs, ⟨a, h1, h2⟩ => ⟨a, h1, G.reg _ _ h2⟩
  | .alike _ _, fs, h => h
  | .use x, fs, ⟨a, h1, h2⟩ => ⟨a, h1, by rw [G.bk]; exact G.reg _ _ h2⟩
theorem MkAt.grow {C : Cs} {w w' : Wo} {U U' : Addr → Prop} {H H' H0 : Hp} {p : Addr} {sh : Sh} (G : WG w w' U U' H0) (ow : ∀ b x, w.D b = some x → U b) (hk : ∀ b o, U b → H b = some o → H' b = some o) (h : MkAt C w (t0 U) H p sh) : MkAt C w' (t0 U') H' p sh := by
  obtain ⟨dx, c, fs, h1, h2, h3, h4, h5, h6, h7, h8⟩ := h
  exact ⟨dx, c, fs, ⟨(G.D _ h1.2).trans h1.1, G.u1 _ h1.2⟩, by rw [G.M]; exact h2, by rw [G.bk]; exact h3, h4, hk _ _ h1.2 h5, (G.D _ (ow _ _ h6)).trans h6, by rw [G.bk]; exact hk _ _ (ow _ _ h6) h7, h8.grow G ow hk⟩
theorem BI.keep {C : Cs} {w : Wo} {U O : Addr → Prop} {H H' : Hp} (B : BI C w U O H) (hk : ∀ b o, U b → H b = some o → H' b = some o) : BI C w U O H' := by
  refine ⟨fun p sh hr ho => (B.at_ p sh hr ho).grow (.refl w U H) B.ow hk, fun p hp => ?_, fun b hb => ?_, B.ow, B.oo, B.inj⟩
  · obtain ⟨x, dx, c, h1, h2, h3, h4, h5, h6⟩ := B.op p hp
    exact ⟨x, dx, c, h1, h2, h3, hk _ _ h2.2 h4, h5, hk _ _ (B.ow _ _ h5) h6⟩
  · cases e : H b with
    | none => exact absurd e (B.al b hb)
    | some o => rw [hk b o hb e]; intro z; cases z
def Wo.add (w : Wo) (p : Addr) (sh : Sh) (os : List Addr) : Wo := { w with reg := fun q => if q = p then some sh else w.reg q, D := fun b => if b ∈ os then some (p, os.idxOf b) else w.D b }
def Ua (U : Addr → Prop) (os ss : List Addr) : Addr → Prop := fun b => U b ∨ b ∈ os ∨ b ∈ ss
theorem BI.regU {C : Cs} {w : Wo} {U O : Addr → Prop} {H : Hp} (B : BI C w U O H) {p : Addr} {sh : Sh} (h : w.reg p = some sh) : U p := by
  by_cases o : O p
  · obtain ⟨x, dx, c, h1, h2, _⟩ := B.op p o
    exact h2.2
  · obtain ⟨dx, c, fs, h1, _⟩ := B.at_ p sh h o
    exact h1.2
theorem idx_inj {os : List Addr} {a b : Addr} (ha : a ∈ os) (hb : b ∈ os) (h : os.idxOf a = os.idxOf b) : a = b := by
  have h1 := List.getElem_idxOf (List.idxOf_lt_length_of_mem ha)
  have h2 := List.getElem_idxOf (List.idxOf_lt_length_of_mem hb)
  have : os[os.idxOf a]'(List.idxOf_lt_length_of_mem ha) = os[os.idxOf b]'(List.idxOf_lt_length_of_mem hb) := by congr 1
  rw [h1, h2] at this
  exact this
theorem idx_at : ∀ {os : List Addr} {i : Nat} {a : Addr}, os.Nodup → os[i]? = some a → os.idxOf a = i
  | b :: os, 0, a, hn, h => by
    have : b = a := Option.some.inj h
    subst this
    exact List.idxOf_cons_self
  | b :: os, i + 1, a, hn, h => by
    have h' : os[i]? = some a := by simpa using h
    have hne : b ≠ a := fun z => by
      rw [List.nodup_cons] at hn
      exact hn.1 (by rw [z]; exact List.mem_of_getElem? h')
    have ih := idx_at (List.nodup_cons.mp hn).2 h'
    rw [List.idxOf_cons, ih]
    have e : (b == a) = false := by simpa using hne
    rw [e]; rfl
structure New (H H' : Hp) (U : Addr → Prop) (p : Addr) (os ss : List Addr) : Prop where
  nu : ∀ b, b ∈ os ∨ b ∈ ss → ¬ U b
  inn : p ∈ ss
  nd : os.Nodup
  ap : ∀ b ∈ os, b ∉ ss
  keep : ∀ b o, U b → H b = some o → H' b = some o
  there : ∀ b, b ∈ os ∨ b ∈ ss → H' b ≠ none
theorem New.wg {C : Cs} {w : Wo} {U O : Addr → Prop} {H H' H0 : Hp} {p : Addr} {os ss : List Addr} (N : New H H' U p os ss) (B : BI C w U O H) (sh : Sh) (h0 : ∀ b, b ∈ os ∨ b ∈ ss → H0 b = none) : WG w (w.add p sh os) U (Ua U os ss) H0 := by
  refine ⟨rfl, rfl, fun q s e => ?_, fun b hb => ?_, fun b h => .inl h, fun b h => ?_⟩
  · show (if q = p then some sh else w.reg q) = some s
    rw [if_neg fun z => ?_]
    · exact e
    · subst z
      exact N.nu _ (.inr N.inn) (B.regU e)
  · show (if b ∈ os then _ else w.D b) = w.D b
    rw [if_neg fun z => N.nu _ (.inl z) hb]
  · rcases h with h | h
    · exact .inl h
    · exact .inr (h0 b h)
theorem New.un {C : Cs} {w : Wo} {U O : Addr → Prop} {H H' : Hp} {p : Addr} {os ss : List Addr} (N : New H H' U p os ss) (B : BI C w U O H) (sh : Sh) {b : Addr} (hb : b ∈ ss) : Un (w.add p sh os) (t0 (Ua U os ss)) b := by
  refine ⟨?_, .inr (.inr hb)⟩
  show (if b ∈ os then _ else w.D b) = none
  rw [if_neg fun z => N.ap b z hb]
  cases e : w.D b with
  | none => rfl
  | some x => exact absurd (B.ow b x e) (N.nu b (.inr hb))
theorem New.dat {w : Wo} {U : Addr → Prop} {H H' : Hp} {p : Addr} {os ss : List Addr} (N : New H H' U p os ss) (sh : Sh) {i : Nat} {b : Addr} (hb : os[i]? = some b) : (w.add p sh os).D b = some (p, i) := by
  show (if b ∈ os then some (p, os.idxOf b) else w.D b) = _
  rw [if_pos (List.mem_of_getElem? hb), idx_at N.nd hb]
theorem New.bi {C : Cs} {w : Wo} {U O O' : Addr → Prop} {H H' : Hp} {p : Addr} {os ss : List Addr} {sh : Sh} (N : New H H' U p os ss) (B : BI C w U O H) (h1 : ∀ q, q ≠ p → (O' q ↔ O q)) (hm : ¬ O' p → MkAt C (w.add p sh os) (t0 (Ua U os ss)) H' p sh)
    (ho : O' p → ∃ x dx c, sh = .use x ∧ Un (w.add p sh os) (t0 (Ua U os ss)) p ∧ (∀ s, s ≤ 45 → sm (cnt w.bk (.use x) s)) ∧ H' p = some (.ins C.use dx (mf c (fU .non))) ∧ (w.add p sh os).D c = some (p, 0) ∧ H' c = some (.lst [])) : BI C (w.add p sh os) (Ua U os ss) O' H' := by
  have G := N.wg (H0 := fun _ => none) B sh fun _ _ => rfl
  have hpr : ∀ {q : Addr} {s : Sh}, (w.add p sh os).reg q = some s → q ≠ p → w.reg q = some s := fun {q s} e n => by
    have : (if q = p then some sh else w.reg q) = some s := e
    rwa [if_neg n] at this
  refine ⟨fun q s hq ho' => ?_, fun q hq => ?_, fun b hb => ?_, fun b x e => ?_, fun b q i e => ?_, fun b b' x e e' => ?_⟩
  · by_cases c : q = p
    · subst c
      have : (if q = q then some sh else w.reg q) = some s := hq
      rw [if_pos rfl] at this
      have := Option.some.inj this
      subst this
      exact hm ho'
    · exact (B.at_ q s (hpr hq c) fun z => ho' ((h1 q c).mpr z)).grow G B.ow N.keep
  · by_cases c : q = p
    · subst c
      obtain ⟨x, dx, c, e1, e2, e3, e4, e5, e6⟩ := ho hq
      subst e1
      exact ⟨x, dx, c, if_pos rfl, e2, e3, e4, e5, e6⟩
    · obtain ⟨x, dx, c', e1, e2, e3, e4, e5, e6⟩ := B.op q ((h1 q c).mp hq)
      exact ⟨x, dx, c', G.reg _ _ e1, ⟨(G.D _ e2.2).trans e2.1, G.u1 _ e2.2⟩, e3, N.keep _ _ e2.2 e4, (G.D _ (B.ow _ _ e5)).trans e5, N.keep _ _ (B.ow _ _ e5) e6⟩
  · rcases hb with hb | hb
    · cases e : H b with
      | none => exact absurd e (B.al b hb)
      | some o => rw [N.keep b o hb e]; intro z; cases z
    · exact N.there b hb
  · have e : (if b ∈ os then some (p, os.idxOf b) else w.D b) = some x := e
    by_cases c : b ∈ os
    · exact .inr (.inl c)
    · rw [if_neg c] at e
      exact .inl (B.ow b x e)
  · have e : (if b ∈ os then some (p, os.idxOf b) else w.D b) = some (q, i) := e
    by_cases c : b ∈ os
    · rw [if_pos c] at e
      injection e with e
      injection e with e _
      rw [← e]
      exact .inr (.inr N.inn)
    · rw [if_neg c] at e
      exact .inl (B.oo b q i e)
  · have e : (if b ∈ os then some (p, os.idxOf b) else w.D b) = some x := e
    have e' : (if b' ∈ os then some (p, os.idxOf b') else w.D b') = some x := e'
    have nop : ∀ {y : Addr} {i : Nat}, w.D y = some (p, i) → False := fun z => N.nu _ (.inr N.inn) (B.oo _ _ _ z)
    by_cases c : b ∈ os
    · rw [if_pos c] at e
      by_cases c' : b' ∈ os
      · rw [if_pos c'] at e'
        rw [← e'] at e
        injection e with e
        injection e with _ e
        exact idx_inj c c' e
      · rw [if_neg c', ← e] at e'
        exact (nop e').elim
    · rw [if_neg c] at e
      by_cases c' : b' ∈ os
      · rw [if_pos c'] at e'
        rw [← e'] at e
        exact (nop e).elim
      · rw [if_neg c'] at e'
        exact B.inj b b' x e e'
theorem BI.wi {C : Cs} {w : Wo} {U O : Addr → Prop} {H : Hp} (B : BI C w U O H) (h : ∀ p, ¬ O p) : WI C w (t0 U) H := ⟨fun p sh e => B.at_ p sh e (h p), B.al, B.ow, B.inj⟩
theorem lt1000 {fs : List (Str × V)} (h : fs.length ≤ 3) : fs.length < 1000 := by omega
def isC (C : Cs) (c : Addr) : Prop := c = C.w ∨ c = C.t ∨ c = C.row ∨ c = C.many ∨ c = C.pick ∨ c = C.use
def Z09 (C : Cs) : Sp := fun vs H Q _ => ∃ (p dx cl : Addr), vs = [.ref p] ∧ isC C cl ∧ H p = some (.ins cl dx []) ∧ ∀ c, H c = none → Q .non (upd (upd H c (.lst [])) p (.ins cl dx [("counts", .ref c)]))
theorem Z3H {Z7 Z2 Z1 Z4 Z6 Z3 Z5 Z0 : Addr} (R : g.RawC "Maker" "__init__" "Maker.__init__" Z16 ["self"]) (Zc : Cls g.K Z2) (Zb : NoAttr g.K Z2 "counts") (Zh : NoAttr g.K Z2 "part") (Zi : Cls g.K Z1) (Za : NoAttr g.K Z1 "counts") (Zo : NoAttr g.K Z1 "marks") (Zn : NoAttr g.K Z1 "parts") (Zq : Cls g.K Z4) (Zd : NoAttr g.K Z4 "counts") (Zs : NoAttr g.K Z4 "parts") (Zp : NoAttr g.K Z4 "table") (Zk : Cls g.K Z3) (Z9 : NoAttr g.K Z3 "counts") (Zm : NoAttr g.K Z3 "signs") (Zj : Cls g.K Z5) (Ze : NoAttr g.K Z5 "counts") (Zf : NoAttr g.K Z5 "named") (Zg : Cls g.K Z0) (Z8 : NoAttr g.K Z0 "counts") (Zr : NoAttr g.K Z0 "low") (Zl : NoAttr g.K Z0 "span") : g.Cf (1) "Maker" "__init__" ["self"] (Z09 (Cs.mk Z0 Z3 Z4 Z6 Z2 Z1 Z5)) := by
  refine R.cf Z3F (fun vs H Q E h => by obtain ⟨p, dx, cl, rfl, hC, hp, q⟩ := h; rfl) fun f_ cdv A outer s H vs Q E hr h => ?_
  obtain ⟨p, dx, cl, rfl, hC, hp, q⟩ := h
  refine ⟨_, (@pss_one _ _ _ (@ps_fld _ _ _ _ _ _ _ _ (@pv _ 0 _ _ (by rfl) (by first | exact Or.inl rfl | exact Or.inr (Or.inl rfl) | exact Or.inr (Or.inr rfl)) (by decide) (by decide)) (@pe_lst _ _ _ _ pa_nil) rfl)), ?_⟩
  walk_at "rd"
  refine ⟨few (by decide), fun c hc => ⟨cl, dx, [], by rw [upd_ne (ne_of_none hp hc)]; exact hp, ?_, ?_, by decide, q c hc⟩⟩
  · rcases hC with rfl | rfl | rfl | rfl | rfl | rfl <;> assumption
  · rcases hC with rfl | rfl | rfl | rfl | rfl | rfl <;> assumption
theorem n1 {a b : Str} (h : (a == b) = false) : ¬ a = b := fun z => by rw [z] at h; simp at h
theorem put1 {f : Str} {v : V} {c : Addr} (h : ¬ (("counts" : Str) = f)) : putF f v [("counts", .ref c)] = mf c [(f, v)] := by simp only [putF, if_neg h]; rfl
theorem put2 {f f' : Str} {v v' : V} {c : Addr} (h : ¬ (("counts" : Str) = f)) (h2 : ¬ f' = f) : putF f v (mf c [(f', v')]) = mf c [(f', v'), (f, v)] := by
  show putF f v [(("counts" : Str), V.ref c), (f', v')] = _
  simp only [putF, if_neg h, if_neg h2]; rfl
def Z42 (C : Cs) : Sp := fun vs H Q _ => ∃ (p dx : Addr) (lo : Int) (span : Nat), vs = [.ref p, .int lo, .int (lo + span)] ∧ H p = some (.ins C.w dx []) ∧ ∀ c H', H c = none → SameBut p H H' → H' p = some (.ins C.w dx (mf c (fW lo span))) → H' c = some (.lst []) → Q .non H'
theorem Z2d {k : Nat} {Z7 Z2 Z1 Z4 Z6 Z3 Z5 Z0 : Addr} (R : g.RawI "WholeMaker" Z0 "WholeMaker.__init__" Z0i ["self", "low", "high"]) (ZJ : g.Cf k "Maker" "__init__" ["self"] (Z09 (Cs.mk Z0 Z3 Z4 Z6 Z2 Z1 Z5))) (Zg : Cls g.K Z0) (Z8 : NoAttr g.K Z0 "counts") (Zr : NoAttr g.K Z0 "low") (Zl : NoAttr g.K Z0 "span") : g.Ma (k + 1) "WholeMaker" Z0 ["self", "low", "high"] (Z42 (Cs.mk Z0 Z3 Z4 Z6 Z2 Z1 Z5)) := by
  refine R.ma Z28 (fun vs H Q E h => by obtain ⟨p, dx, lo, span, rfl, hp, q⟩ := h; rfl) fun f_ cdv A outer s H vs Q E hr h => ?_
  obtain ⟨p, dx, lo, span, rfl, hp, q⟩ := h
  refine ⟨_, (@pss_cons _ _ _ _ _ (@ps_expr _ _ _ _ (@pe_cf _ _ _ _ _ _ _ _ _ _ _ _ _ _ _ ZJ hr (@pa_cons _ _ _ _ _ (@pv _ 0 _ _ (by rfl) (by first | exact Or.inl rfl | exact Or.inr (Or.inl rfl) | exact Or.inr (Or.inr rfl)) (by decide) (by decide)) pa_nil (by rfl)) (by omega) (by rfl) (by rfl) (by decide) (by rfl) (by rfl) (by rfl)) (by rfl)) (@pss_cons _ _ _ _ _ (@ps_fld _ _ _ _ _ _ _ _ (@pv _ 0 _ _ (by rfl) (by first | exact Or.inl rfl | exact Or.inr (Or.inl rfl) | exact Or.inr (Or.inr rfl)) (by decide) (by decide)) (@pv _ 1 _ _ (by rfl) (by first | exact Or.inl rfl | exact Or.inr (Or.inl rfl) | exact Or.inr (Or.inr rfl)) (by decide) (by decide)) rfl) (@pss_one _ _ _ (@ps_fld _ _ _ _ _ _ _ _ (@pv _ 0 _ _ (by rfl) (by first | exact Or.inl rfl | exact Or.inr (Or.inl rfl) | exact Or.inr (Or.inr rfl)) (by decide) (by decide)) (@pe_op _ _ _ _ _ _ _ _ op_sub (@pv _ 2 _ _ (by rfl) (by first | exact Or.inl rfl | exact Or.inr (Or.inl rfl) | exact Or.inr (Or.inr rfl)) (by decide) (by decide)) (@pv _ 1 _ _ (by rfl) (by first | exact Or.inl rfl | exact Or.inr (Or.inl rfl) | exact Or.inr (Or.inr rfl)) (by decide) (by decide))) rfl)))), ?_⟩
  walk_at "rd"
  refine ⟨p, dx, _, rfl, .inl rfl, hp, fun c hc => ?_⟩
  have hne : p ≠ c := ne_of_none hp hc
  refine ⟨_, dx, _, upd_same, Zg, Zr, lt1000 (show 1 ≤ 3 by decide), _, dx, _, upd_same, Zg, Zl, lt1000 (Nat.le_trans (length_putF _ _ _) (show 2 ≤ 3 by decide)), ?_⟩
  refine q c _ hc (fun x o hx h => ?_) ?_ ?_
  · rw [upd_ne hx, upd_ne hx, upd_ne hx, upd_ne (ne_of_none h hc)]; exact h
  · rw [upd_same, show lo + (span : Int) - lo = span by omega, put1 (n1 (by decide +kernel)), put2 (n1 (by decide +kernel)) (n1 (by decide +kernel))]; rfl
  · rw [upd_ne (Ne.symm hne), upd_ne (Ne.symm hne), upd_ne (Ne.symm hne), upd_same]
def Z43 (C : Cs) : Sp := fun vs H Q _ => ∃ (p dx : Addr) (sg : List Nat), vs = [.ref p, .str (S sg)] ∧ H p = some (.ins C.t dx []) ∧ ∀ c H', H c = none → SameBut p H H' → H' p = some (.ins C.t dx (mf c (fT sg))) → H' c = some (.lst []) → Q .non H'
theorem Z2v {k : Nat} {Z7 Z2 Z1 Z4 Z6 Z3 Z5 Z0 : Addr} (R : g.RawI "TextMaker" Z3 "TextMaker.__init__" Z0o ["self", "signs"]) (ZJ : g.Cf k "Maker" "__init__" ["self"] (Z09 (Cs.mk Z0 Z3 Z4 Z6 Z2 Z1 Z5))) (Zk : Cls g.K Z3) (Z9 : NoAttr g.K Z3 "counts") (Zm : NoAttr g.K Z3 "signs") : g.Ma (k + 1) "TextMaker" Z3 ["self", "signs"] (Z43 (Cs.mk Z0 Z3 Z4 Z6 Z2 Z1 Z5)) := by
  refine R.ma Z2j (fun vs H Q E h => by obtain ⟨p, dx, sg, rfl, hp, q⟩ := h; rfl) fun f_ cdv A outer s H vs Q E hr h => ?_
  obtain ⟨p, dx, sg, rfl, hp, q⟩ := h
  refine ⟨_, (@pss_cons _ _ _ _ _ (@ps_expr _ _ _ _ (@pe_cf _ _ _ _ _ _ _ _ _ _ _ _ _ _ _ ZJ hr (@pa_cons _ _ _ _ _ (@pv _ 0 _ _ (by rfl) (by first | exact Or.inl rfl | exact Or.inr (Or.inl rfl) | exact Or.inr (Or.inr rfl)) (by decide) (by decide)) pa_nil (by rfl)) (by omega) (by rfl) (by rfl) (by decide) (by rfl) (by rfl) (by rfl)) (by rfl)) (@pss_one _ _ _ (@ps_fld _ _ _ _ _ _ _ _ (@pv _ 0 _ _ (by rfl) (by first | exact Or.inl rfl | exact Or.inr (Or.inl rfl) | exact Or.inr (Or.inr rfl)) (by decide) (by decide)) (@pv _ 1 _ _ (by rfl) (by first | exact Or.inl rfl | exact Or.inr (Or.inl rfl) | exact Or.inr (Or.inr rfl)) (by decide) (by decide)) rfl))), ?_⟩
  walk_at "rd"
  refine ⟨p, dx, _, rfl, .inr (.inl rfl), hp, fun c hc => ?_⟩
  have hne : p ≠ c := ne_of_none hp hc
  refine ⟨_, dx, _, upd_same, Zk, Zm, lt1000 (show 1 ≤ 3 by decide), ?_⟩
  refine q c _ hc (fun x o hx h => ?_) ?_ ?_
  · rw [upd_ne hx, upd_ne hx, upd_ne (ne_of_none h hc)]; exact h
  · rw [upd_same, put1 (n1 (by decide +kernel))]; rfl
  · rw [upd_ne (Ne.symm hne), upd_ne (Ne.symm hne), upd_same]
def Z44 (C : Cs) : Sp := fun vs H Q _ => ∃ (p dx a : Addr), vs = [.ref p, .ref a] ∧ H p = some (.ins C.many dx []) ∧ ∀ c H', H c = none → SameBut p H H' → H' p = some (.ins C.many dx (mf c (fM a))) → H' c = some (.lst []) → Q .non H'
theorem Z2w {k : Nat} {Z7 Z2 Z1 Z4 Z6 Z3 Z5 Z0 : Addr} (R : g.RawI "ManyMaker" Z2 "ManyMaker.__init__" Z0r ["self", "part"]) (ZJ : g.Cf k "Maker" "__init__" ["self"] (Z09 (Cs.mk Z0 Z3 Z4 Z6 Z2 Z1 Z5))) (Zc : Cls g.K Z2) (Zb : NoAttr g.K Z2 "counts") (Zh : NoAttr g.K Z2 "part") : g.Ma (k + 1) "ManyMaker" Z2 ["self", "part"] (Z44 (Cs.mk Z0 Z3 Z4 Z6 Z2 Z1 Z5)) := by
  refine R.ma Z2l (fun vs H Q E h => by obtain ⟨p, dx, a, rfl, hp, q⟩ := h; rfl) fun f_ cdv A outer s H vs Q E hr h => ?_
  obtain ⟨p, dx, a, rfl, hp, q⟩ := h
  refine ⟨_, (@pss_cons _ _ _ _ _ (@ps_expr _ _ _ _ (@pe_cf _ _ _ _ _ _ _ _ _ _ _ _ _ _ _ ZJ hr (@pa_cons _ _ _ _ _ (@pv _ 0 _ _ (by rfl) (by first | exact Or.inl rfl | exact Or.inr (Or.inl rfl) | exact Or.inr (Or.inr rfl)) (by decide) (by decide)) pa_nil (by rfl)) (by omega) (by rfl) (by rfl) (by decide) (by rfl) (by rfl) (by rfl)) (by rfl)) (@pss_one _ _ _ (@ps_fld _ _ _ _ _ _ _ _ (@pv _ 0 _ _ (by rfl) (by first | exact Or.inl rfl | exact Or.inr (Or.inl rfl) | exact Or.inr (Or.inr rfl)) (by decide) (by decide)) (@pv _ 1 _ _ (by rfl) (by first | exact Or.inl rfl | exact Or.inr (Or.inl rfl) | exact Or.inr (Or.inr rfl)) (by decide) (by decide)) rfl))), ?_⟩
  walk_at "rd"
  refine ⟨p, dx, _, rfl, .inr (.inr (.inr (.inl rfl))), hp, fun c hc => ?_⟩
  have hne : p ≠ c := ne_of_none hp hc
  refine ⟨_, dx, _, upd_same, Zc, Zh, lt1000 (show 1 ≤ 3 by decide), ?_⟩
  refine q c _ hc (fun x o hx h => ?_) ?_ ?_
  · rw [upd_ne hx, upd_ne hx, upd_ne (ne_of_none h hc)]; exact h
  · rw [upd_same, put1 (n1 (by decide +kernel))]; rfl
  · rw [upd_ne (Ne.symm hne), upd_ne (Ne.symm hne), upd_same]
def Z45 (C : Cs) : Sp := fun vs H Q _ => ∃ (p dx M P : Addr), vs = [.ref p, .ref M, .ref P] ∧ H p = some (.ins C.pick dx []) ∧ ∀ c H', H c = none → SameBut p H H' → H' p = some (.ins C.pick dx (mf c (fP M P))) → H' c = some (.lst []) → Q .non H'
theorem Z2x {k : Nat} {Z7 Z2 Z1 Z4 Z6 Z3 Z5 Z0 : Addr} (R : g.RawI "PickMaker" Z1 "PickMaker.__init__" Z0t ["self", "marks", "parts"]) (ZJ : g.Cf k "Maker" "__init__" ["self"] (Z09 (Cs.mk Z0 Z3 Z4 Z6 Z2 Z1 Z5))) (Zi : Cls g.K Z1) (Za : NoAttr g.K Z1 "counts") (Zo : NoAttr g.K Z1 "marks") (Zn : NoAttr g.K Z1 "parts") : g.Ma (k + 1) "PickMaker" Z1 ["self", "marks", "parts"] (Z45 (Cs.mk Z0 Z3 Z4 Z6 Z2 Z1 Z5)) := by
  refine R.ma Z2n (fun vs H Q E h => by obtain ⟨p, dx, M, P, rfl, hp, q⟩ := h; rfl) fun f_ cdv A outer s H vs Q E hr h => ?_
  obtain ⟨p, dx, M, P, rfl, hp, q⟩ := h
  refine ⟨_, (@pss_cons _ _ _ _ _ (@ps_expr _ _ _ _ (@pe_cf _ _ _ _ _ _ _ _ _ _ _ _ _ _ _ ZJ hr (@pa_cons _ _ _ _ _ (@pv _ 0 _ _ (by rfl) (by first | exact Or.inl rfl | exact Or.inr (Or.inl rfl) | exact Or.inr (Or.inr rfl)) (by decide) (by decide)) pa_nil (by rfl)) (by omega) (by rfl) (by rfl) (by decide) (by rfl) (by rfl) (by rfl)) (by rfl)) (@pss_cons _ _ _ _ _ (@ps_fld _ _ _ _ _ _ _ _ (@pv _ 0 _ _ (by rfl) (by first | exact Or.inl rfl | exact Or.inr (Or.inl rfl) | exact Or.inr (Or.inr rfl)) (by decide) (by decide)) (@pv _ 1 _ _ (by rfl) (by first | exact Or.inl rfl | exact Or.inr (Or.inl rfl) | exact Or.inr (Or.inr rfl)) (by decide) (by decide)) rfl) (@pss_one _ _ _ (@ps_fld _ _ _ _ _ _ _ _ (@pv _ 0 _ _ (by rfl) (by first | exact Or.inl rfl | exact Or.inr (Or.inl rfl) | exact Or.inr (Or.inr rfl)) (by decide) (by decide)) (@pv _ 2 _ _ (by rfl) (by first | exact Or.inl rfl | exact Or.inr (Or.inl rfl) | exact Or.inr (Or.inr rfl)) (by decide) (by decide)) rfl)))), ?_⟩
  walk_at "rd"
  refine ⟨p, dx, _, rfl, .inr (.inr (.inr (.inr (.inl rfl)))), hp, fun c hc => ?_⟩
  have hne : p ≠ c := ne_of_none hp hc
  refine ⟨_, dx, _, upd_same, Zi, Zo, lt1000 (show 1 ≤ 3 by decide), _, dx, _, upd_same, Zi, Zn, lt1000 (Nat.le_trans (length_putF _ _ _) (show 2 ≤ 3 by decide)), ?_⟩
  refine q c _ hc (fun x o hx h => ?_) ?_ ?_
  · rw [upd_ne hx, upd_ne hx, upd_ne hx, upd_ne (ne_of_none h hc)]; exact h
  · rw [upd_same, put1 (n1 (by decide +kernel)), put2 (n1 (by decide +kernel)) (n1 (by decide +kernel))]; rfl
  · rw [upd_ne (Ne.symm hne), upd_ne (Ne.symm hne), upd_ne (Ne.symm hne), upd_same]
def Z46 (C : Cs) : Sp := fun vs H Q _ => ∃ (p dx : Addr), vs = [.ref p] ∧ H p = some (.ins C.use dx []) ∧ ∀ c H', H c = none → SameBut p H H' → H' p = some (.ins C.use dx (mf c (fU .non))) → H' c = some (.lst []) → Q .non H'
theorem Z2V {k : Nat} {Z7 Z2 Z1 Z4 Z6 Z3 Z5 Z0 : Addr} (R : g.RawI "UseMaker" Z5 "UseMaker.__init__" Z0H ["self"]) (ZJ : g.Cf k "Maker" "__init__" ["self"] (Z09 (Cs.mk Z0 Z3 Z4 Z6 Z2 Z1 Z5))) (Zj : Cls g.K Z5) (Ze : NoAttr g.K Z5 "counts") (Zf : NoAttr g.K Z5 "named") : g.Ma (k + 1) "UseMaker" Z5 ["self"] (Z46 (Cs.mk Z0 Z3 Z4 Z6 Z2 Z1 Z5)) := by
  refine R.ma Z2N (fun vs H Q E h => by obtain ⟨p, dx, rfl, hp, q⟩ := h; rfl) fun f_ cdv A outer s H vs Q E hr h => ?_
  obtain ⟨p, dx, rfl, hp, q⟩ := h
  refine ⟨_, (@pss_cons _ _ _ _ _ (@ps_expr _ _ _ _ (@pe_cf _ _ _ _ _ _ _ _ _ _ _ _ _ _ _ ZJ hr (@pa_cons _ _ _ _ _ (@pv _ 0 _ _ (by rfl) (by first | exact Or.inl rfl | exact Or.inr (Or.inl rfl) | exact Or.inr (Or.inr rfl)) (by decide) (by decide)) pa_nil (by rfl)) (by omega) (by rfl) (by rfl) (by decide) (by rfl) (by rfl) (by rfl)) (by rfl)) (@pss_one _ _ _ (@ps_fld _ _ _ _ _ _ _ _ (@pv _ 0 _ _ (by rfl) (by first | exact Or.inl rfl | exact Or.inr (Or.inl rfl) | exact Or.inr (Or.inr rfl)) (by decide) (by decide)) pe_non rfl))), ?_⟩
  walk_at "rd"
  refine ⟨p, dx, _, rfl, .inr (.inr (.inr (.inr (.inr rfl)))), hp, fun c hc => ?_⟩
  have hne : p ≠ c := ne_of_none hp hc
  refine ⟨_, dx, _, upd_same, Zj, Zf, lt1000 (show 1 ≤ 3 by decide), ?_⟩
  refine q c _ hc (fun x o hx h => ?_) ?_ ?_
  · rw [upd_ne hx, upd_ne hx, upd_ne (ne_of_none h hc)]; exact h
  · rw [upd_same, put1 (n1 (by decide +kernel))]; rfl
  · rw [upd_ne (Ne.symm hne), upd_ne (Ne.symm hne), upd_same]
def Z3R (C : Cs) : Sp := fun vs H Q _ => ∃ (T dx P : Addr) (as : List Addr), vs = [.ref T, .ref P] ∧ H T = some (.ins C.tab dx []) ∧ H P = some (.lst (as.map V.ref)) ∧ as.length ≤ 100 ∧
  ∀ L (ws : List Addr) H', H L = none → (∀ x ∈ ws, H x = none) → ws.Nodup → ws.length = as.length + 1 → SameBut T H H' → H' T = some (.ins C.tab dx (fTab P L)) → H' L = some (.lst (ws.map V.ref)) → (∀ x ∈ ws, H' x = some (.lst [])) → Q .non H'
theorem Z2W {Z7 Z2 Z1 Z4 Z6 Z3 Z5 Z0 : Addr} (R : g.RawI "RowTable" Z6 "RowTable.__init__" Z0D ["self", "parts"]) (b_len : g.mg "len" = none) (ZA : g.mg "range" = none) (Zv : Cls g.K Z6) (Zx : NoAttr g.K Z6 "parts") (Zu : NoAttr g.K Z6 "ways") : g.Ma (1) "RowTable" Z6 ["self", "parts"] (Z3R (Cs.mk Z0 Z3 Z4 Z6 Z2 Z1 Z5)) := by
  refine R.ma Z2K (fun vs H Q E h => by obtain ⟨T, dx, P, as, rfl, hT, hP, hl, q⟩ := h; rfl) fun f_ cdv A outer s H vs Q E hr h => ?_
  obtain ⟨T, dx, P, as, rfl, hT, hP, hl, q⟩ := h
  refine ⟨_, (@pss_cons _ _ _ _ _ (@ps_fld _ _ _ _ _ _ _ _ (@pv _ 0 _ _ (by rfl) (by first | exact Or.inl rfl | exact Or.inr (Or.inl rfl) | exact Or.inr (Or.inr rfl)) (by decide) (by decide)) (@pv _ 1 _ _ (by rfl) (by first | exact Or.inl rfl | exact Or.inr (Or.inl rfl) | exact Or.inr (Or.inr rfl)) (by decide) (by decide)) rfl) (@pss_one _ _ _ (@ps_fld _ _ _ _ _ _ _ _ (@pv _ 0 _ _ (by rfl) (by first | exact Or.inl rfl | exact Or.inr (Or.inl rfl) | exact Or.inr (Or.inr rfl)) (by decide) (by decide)) (@pe_lc _ _ _ _ _ _ _ ([none]) ((["place"] : List Str)) _ (gName 0) _ _ (.own .nil) rfl (@pi_range1 _ _ _ _ _ _ rfl ZA (@pa_cons _ _ _ _ _ (@pe_op _ _ _ _ _ _ _ _ op_add (@pe_bf _ _ _ _ _ _ _ _ _ _ b_len call_len_seq (@pa_cons _ _ _ _ _ (@pv _ 1 _ _ (by rfl) (by first | exact Or.inl rfl | exact Or.inr (Or.inl rfl) | exact Or.inr (Or.inr rfl)) (by decide) (by decide)) pa_nil (by rfl)) (by decide +kernel) (by rfl) (by rfl) (by decide) (by decide) (by rfl) (by rfl)) pe_int) pa_nil (by rfl)) (by rfl)) (fun cl C s₀ H₀ fp pn => (@pg_name _ _ (0) _ (show List.Nodup (["place"] : List Str) by decide +kernel) rfl (Or.inl rfl) (Or.inr rfl))) (fun cl C s₀ H₀ fp pn => pts_nil) (fun cl C s₀ H₀ fp pn => (@pe_lst _ _ _ _ pa_nil)) (by intro x hx; simp at hx) (by rfl) (by decide) (by decide +kernel) (by intro _; rfl)) rfl))), ?_⟩
  walk_at "rd"
  have nTP : T ≠ P := ne_of hT hP (by simp)
  refine ⟨_, dx, _, hT, Zv, Zx, by decide, ?_⟩
  obtain ⟨H1, hH1⟩ : ∃ H1, H1 = upd H T (.ins Z6 dx (putF "parts" (.ref P) [])) := ⟨_, rfl⟩
  rw [← hH1]
  have h1T : H1 T = some (.ins Z6 dx (putF "parts" (.ref P) [])) := by rw [hH1, upd_same]
  have h1 : ∀ {b : Addr}, b ≠ T → H1 b = H b := fun n => by rw [hH1, upd_ne n]
  refine tLC_rangeI (n := as.length + 1) (fun D i zs H' => ∃ ws : List Addr, zs = ws.map V.ref ∧ ws.length = i ∧ ws.Nodup ∧ (∀ x ∈ ws, H1 x = none ∧ x ≠ D ∧ H' x = some (.lst [])) ∧ H' D = some (.lst zs) ∧ ∀ b o, b ≠ D → H1 b = some o → H' b = some o) (fun R r => ?_) (by omega) ?_ ?_ ?_ ?_
  · walk_at "rd"
    refine ⟨_, .inl (SqL.of ((h1 (Ne.symm nTP)).trans hP)), ?_⟩
    rw [List.length_map]
    exact r
  · intro D hD
    exact ⟨[], rfl, rfl, .nil, fun x hx => (by cases hx), upd_same, fun b o hb e => by rw [upd_ne hb]; exact e⟩
  · rintro D i zs H' ⟨ws, rfl, h2, _, _, h3, _⟩
    exact ⟨by rw [List.length_map, h2], h3⟩
  · rintro D i zs H' hD hi ⟨ws, rfl, hwl, hnd, hws, hd, fr⟩ R r
    walk_at "rd"
    refine ⟨few (by decide), fun X gX => ?_⟩
    have nXD : X ≠ D := Ne.symm (ne_of_none hd gX)
    have sX := Same.upd_new gX (.lst [])
    have gX1 : H1 X = none := by
      cases e : H1 X with
      | none => rfl
      | some o => rw [fr X o nXD e] at gX; cases gX
    refine r _ _ (sX _ _ hd) ⟨ws ++ [X], by rw [List.map_append]; rfl, by rw [List.length_append, hwl]; rfl, ?_, fun x hx => ?_, upd_same, fun b o hb e => by rw [upd_ne hb]; exact sX _ _ (fr b o hb e)⟩
    · rw [List.nodup_append]
      refine ⟨hnd, by simp, fun x hx y hy => ?_⟩
      have : y = X := by simpa using hy
      subst this
      intro z
      subst z
      rw [(hws x hx).2.2] at gX
      cases gX
    · rcases List.mem_append.mp hx with hx | hx
      · obtain ⟨k1, k2, k3⟩ := hws x hx
        exact ⟨k1, k2, by rw [upd_ne k2]; exact sX _ _ k3⟩
      · have : x = X := by simpa using hx
        subst this
        exact ⟨gX1, nXD, by rw [upd_ne nXD, upd_same]⟩
  · rintro L zs H' hL ⟨ws, rfl, hwl, hnd, hws, hd, fr⟩
    have nLT : L ≠ T := Ne.symm (ne_of_none h1T hL)
    have nf : ∀ {b : Addr}, H1 b = none → H b = none := fun {b} e => by
      by_cases c : b = T
      · subst c; rw [h1T] at e; cases e
      · rw [← h1 c]; exact e
    have h'T := fr T _ (Ne.symm nLT) h1T
    refine ⟨_, dx, _, h'T, Zv, Zu, lt1000 (show 1 ≤ 3 by decide), ?_⟩
    have nw : ∀ x ∈ ws, x ≠ T := fun x hx => ne_of (hws x hx).2.2 h'T (by simp)
    refine q L ws _ (nf hL) (fun x hx => nf (hws x hx).1) hnd hwl (fun b o hb e => ?_) ?_ (by rw [upd_ne nLT]; exact hd) (fun x hx => by rw [upd_ne (nw x hx)]; exact (hws x hx).2.2)
    · rw [upd_ne hb]
      exact fr b o (ne_of_none ((h1 hb).trans e) hL) ((h1 hb).trans e)
    · rw [upd_same]
      refine congrArg some (congrArg (HO.ins _ _) ?_)
      show putF "ways" (.ref L) [(("parts" : Str), V.ref P)] = fTab P L
      simp only [putF, if_neg (n1 (a := ("parts" : Str)) (b := ("ways" : Str)) (by decide +kernel))]; rfl
def Z47 (C : Cs) : Sp := fun vs H Q _ => ∃ (p dx P : Addr) (as : List Addr), vs = [.ref p, .ref P] ∧ H p = some (.ins C.row dx []) ∧ H P = some (.lst (as.map V.ref)) ∧ as.length ≤ 100 ∧
  ∀ c T dt L (ws : List Addr) H', H c = none → H T = none → H L = none → (∀ x ∈ ws, H x = none) → (c :: ws).Nodup → ws.length = as.length + 1 → SameBut p H H' → H' p = some (.ins C.row dx (mf c (fR P T))) → H' c = some (.lst []) → H' T = some (.ins C.tab dt (fTab P L)) → H' L = some (.lst (ws.map V.ref)) → (∀ x ∈ ws, H' x = some (.lst [])) → Q .non H'
theorem Z2X {k : Nat} {Z7 Z2 Z1 Z4 Z6 Z3 Z5 Z0 : Addr} (R : g.RawI "RowMaker" Z4 "RowMaker.__init__" Z0F ["self", "parts"]) {j_RowTable___init__ : Nat} (Z3h : g.Ma j_RowTable___init__ "RowTable" Z6 ["self", "parts"] (Z3R (Cs.mk Z0 Z3 Z4 Z6 Z2 Z1 Z5))) (h_RowTable___init__ : j_RowTable___init__ + 1 ≤ k) (ZJ : g.Cf k "Maker" "__init__" ["self"] (Z09 (Cs.mk Z0 Z3 Z4 Z6 Z2 Z1 Z5))) (Zq : Cls g.K Z4) (Zd : NoAttr g.K Z4 "counts") (Zs : NoAttr g.K Z4 "parts") (Zp : NoAttr g.K Z4 "table") : g.Ma (k + 1) "RowMaker" Z4 ["self", "parts"] (Z47 (Cs.mk Z0 Z3 Z4 Z6 Z2 Z1 Z5)) := by
  refine R.ma Z2L (fun vs H Q E h => by obtain ⟨p, dx, P, as, rfl, hp, hP, hl, q⟩ := h; rfl) fun f_ cdv A outer s H vs Q E hr h => ?_
  obtain ⟨p, dx, P, as, rfl, hp, hP, hl, q⟩ := h
  refine ⟨_, (@pss_cons _ _ _ _ _ (@ps_expr _ _ _ _ (@pe_cf _ _ _ _ _ _ _ _ _ _ _ _ _ _ _ ZJ hr (@pa_cons _ _ _ _ _ (@pv _ 0 _ _ (by rfl) (by first | exact Or.inl rfl | exact Or.inr (Or.inl rfl) | exact Or.inr (Or.inr rfl)) (by decide) (by decide)) pa_nil (by rfl)) (by omega) (by rfl) (by rfl) (by decide) (by rfl) (by rfl) (by rfl)) (by rfl)) (@pss_cons _ _ _ _ _ (@ps_fld _ _ _ _ _ _ _ _ (@pv _ 0 _ _ (by rfl) (by first | exact Or.inl rfl | exact Or.inr (Or.inl rfl) | exact Or.inr (Or.inr rfl)) (by decide) (by decide)) (@pv _ 1 _ _ (by rfl) (by first | exact Or.inl rfl | exact Or.inr (Or.inl rfl) | exact Or.inr (Or.inr rfl)) (by decide) (by decide)) rfl) (@pss_one _ _ _ (@ps_fld _ _ _ _ _ _ _ _ (@pv _ 0 _ _ (by rfl) (by first | exact Or.inl rfl | exact Or.inr (Or.inl rfl) | exact Or.inr (Or.inr rfl)) (by decide) (by decide)) (@pe_ma _ _ _ _ _ _ _ _ _ _ _ _ _ Z3h hr (@pa_cons _ _ _ _ _ (@pv _ 1 _ _ (by rfl) (by first | exact Or.inl rfl | exact Or.inr (Or.inl rfl) | exact Or.inr (Or.inr rfl)) (by decide) (by decide)) pa_nil (by rfl)) (by omega) (by rfl) (by rfl) (by decide) (by rfl) (by rfl)) rfl)))), ?_⟩
  walk_at "rd"
  refine ⟨p, dx, _, rfl, .inr (.inr (.inl rfl)), hp, fun c hc => ?_⟩
  have hne : p ≠ c := ne_of_none hp hc
  have npP : p ≠ P := ne_of hp hP (by simp)
  have nPc : P ≠ c := ne_of_none hP hc
  refine ⟨_, dx, _, upd_same, Zq, Zs, lt1000 (show 1 ≤ 3 by decide), ?_⟩
  obtain ⟨H1, hH1⟩ : ∃ H1, H1 = upd (upd (upd H c (.lst [])) p (.ins Z4 dx [("counts", .ref c)])) p (.ins Z4 dx (putF "parts" (.ref P) [("counts", .ref c)])) := ⟨_, rfl⟩
  rw [← hH1]
  have h1p : H1 p = some (.ins Z4 dx (mf c [("parts", .ref P)])) := by rw [hH1, upd_same, put1 (n1 (by decide +kernel))]
  have h1c : H1 c = some (.lst []) := by rw [hH1, upd_ne (Ne.symm hne), upd_ne (Ne.symm hne), upd_same]
  have h1 : ∀ {b : Addr} {o : HO}, b ≠ p → H b = some o → H1 b = some o := fun n e => by rw [hH1, upd_ne n, upd_ne n, upd_ne (ne_of_none e hc)]; exact e
  have nf : ∀ {b : Addr}, H1 b = none → H b = none := fun {b} e => by
    cases z : H b with
    | none => rfl
    | some o =>
      exfalso
      by_cases cc : b = p
      · subst cc; rw [h1p] at e; cases e
      · rw [h1 cc z] at e; cases e
  intro T dt gT gdt hnd
  have sd := Same.upd_new gdt (.own T)
  have gT2 : upd H1 dt (.own T) T = none := by rw [upd_ne (Ne.symm hnd)]; exact gT
  have s12 := sd.trans (.upd_new gT2 (.ins Z6 dt []))
  refine ⟨T, dt, P, as, rfl, upd_same, s12 _ _ (h1 (Ne.symm npP) hP), hl, fun L ws H3 gL gws hndw hwl sb h3T h3L h3w => ?_⟩
  have npT : p ≠ T := ne_of_none h1p gT
  have ncT : c ≠ T := ne_of_none h1c gT
  have h3p := sb _ _ npT (s12 _ _ h1p)
  have h3c := sb _ _ ncT (s12 _ _ h1c)
  have ncw : c ∉ ws := fun z => by have := gws c z; rw [s12 _ _ h1c] at this; cases this
  have npw : ∀ x ∈ ws, x ≠ p := fun x hx => ne_of (h3w x hx) h3p (by simp)
  have npL : L ≠ p := ne_of h3L h3p (by simp)
  refine ⟨rfl, _, dx, _, h3p, Zq, Zp, lt1000 (show 2 ≤ 3 by decide), ?_⟩
  refine q c T dt L ws _ hc (nf gT) (nf (s12.free gL)) (fun x hx => nf (s12.free (gws x hx))) (List.nodup_cons.mpr ⟨ncw, hndw⟩) hwl (fun b o hb e => ?_) ?_ ?_ ?_ ?_ (fun x hx => ?_)
  · rw [upd_ne hb]
    exact sb _ _ (ne_of_none (h1 hb e) gT) (s12 _ _ (h1 hb e))
  · rw [upd_same, put2 (n1 (by decide +kernel)) (n1 (by decide +kernel))]; rfl
  · rw [upd_ne (Ne.symm hne)]; exact h3c
  · rw [upd_ne (Ne.symm npT)]; exact h3T
  · rw [upd_ne npL]; exact h3L
  · rw [upd_ne (npw x hx)]; exact h3w x hx
def lf (b : V) (d : Addr) : List (Str × V) := [("book", b), ("makers", .ref d)]
theorem nbm : ¬ (("book" : Str) = "makers") := by decide +kernel
theorem lf_put (b : V) (d : Addr) : putF "makers" (.ref d) (putF "book" b []) = lf b d := by
  simp only [putF, if_neg nbm]; rfl
theorem lf_makers (b : V) (d : Addr) : (lf b d).lookup ("makers" : Str) = some (.ref d) := by
  show List.lookup ("makers" : Str) [(("book" : Str), b), (("makers" : Str), V.ref d)] = _
  rw [List.lookup_cons, show (("makers" : Str) == ("book" : Str)) = false by decide +kernel, List.lookup_cons, show (("makers" : Str) == ("makers" : Str)) = true by decide +kernel]
theorem lf_book (b : V) (d : Addr) : (lf b d).lookup ("book" : Str) = some b := rfl
theorem lf_no (b : V) (d : Addr) {m : Str} (h1 : (m == ("book" : Str)) = false) (h2 : (m == ("makers" : Str)) = false) : (lf b d).lookup m = none := by
  show List.lookup m [(("book" : Str), b), (("makers" : Str), V.ref d)] = _
  rw [List.lookup_cons, h1, List.lookup_cons, h2]; rfl
def Z48 (P : Program) (w : World) (C : Addr) : Sp := fun vs H Q _ => ∃ (p dx : Addr) (b : V), vs = [.ref p, b] ∧ H p = some (.ins C dx []) ∧ ∀ d H', H d = none → SameBut p H H' → H' p = some (.ins C dx (lf b d)) → H' d = some (DDi P w d []) → Q .non H'
theorem Z3u {Z7 Z2 Z1 Z4 Z6 Z3 Z5 Z0 : Addr} (R : g.RawI "Lister" Z7 "Lister.__init__" Z0U ["self", "book"]) (Zz : Cls g.K Z7) (ZE : NoAttr g.K Z7 "book") (Zw : NoAttr g.K Z7 "makers") : g.Ma (1) "Lister" Z7 ["self", "book"] (Z48 g.P g.w Z7) := by
  refine R.ma Z3s (fun vs H Q E h => by obtain ⟨p, dx, b, rfl, hp, q⟩ := h; rfl) fun f_ cdv A outer s H vs Q E hr h => ?_
  obtain ⟨p, dx, b, rfl, hp, q⟩ := h
  refine ⟨_, (@pss_cons _ _ _ _ _ (@ps_fld _ _ _ _ _ _ _ _ (@pv _ 0 _ _ (by rfl) (by first | exact Or.inl rfl | exact Or.inr (Or.inl rfl) | exact Or.inr (Or.inr rfl)) (by decide) (by decide)) (@pv _ 1 _ _ (by rfl) (by first | exact Or.inl rfl | exact Or.inr (Or.inl rfl) | exact Or.inr (Or.inr rfl)) (by decide) (by decide)) rfl) (@pss_one _ _ _ (@ps_fld _ _ _ _ _ _ _ _ (@pv _ 0 _ _ (by rfl) (by first | exact Or.inl rfl | exact Or.inr (Or.inl rfl) | exact Or.inr (Or.inr rfl)) (by decide) (by decide)) pe_dnewD rfl))), ?_⟩
  walk_at "rd"
  refine ⟨Z7, dx, [], hp, Zz, ZE, by decide, fun d hd => ?_⟩
  have hne : p ≠ d := ne_of_none upd_same hd
  rw [upd_ne (Ne.symm hne)] at hd
  refine ⟨Z7, dx, _, by rw [upd_ne hne]; exact upd_same, Zz, Zw, by simp [putF], q d _ hd (fun x o hx h => ?_) ?_ ?_⟩
  · rw [upd_ne hx, upd_ne (ne_of_none h hd), upd_ne hx]; exact h
  · rw [upd_same, lf_put]
  · rw [upd_ne (Ne.symm hne), upd_same]
    rfl
theorem upd_none {H : Hp} {a b : Addr} {o : HO} (h : upd H a o b = none) : H b = none := by
  by_cases e : b = a
  · subst e; rw [upd_same] at h; cases h
  · rw [upd_ne e] at h; exact h
theorem made_same {H H' : Hp} {x dx : Addr} {o u : HO} (hx : H x = none) (hdx : H dx = none) (sb : SameBut x (upd (upd H dx o) x u) H') : Same H H' := fun y z h => by
  have n1 : y ≠ x := ne_of_none h hx
  have n2 : y ≠ dx := ne_of_none h hdx
  exact sb _ _ n1 (by rw [upd_ne n1, upd_ne n2]; exact h)
def BkAt (K : PySem.W.Frag) (H : Hp) (B : Addr) (prs : Prs) : Prop := ∃ vs : List V, H B = some (.lst vs) ∧ vs.length = prs.length ∧ ∀ (i : Nat) v q, vs[i]? = some v → prs[i]? = some q → ∃ T a, v = .ref T ∧ SqT K H T [.str (S q.1), .ref a] ∧ DK K H a (kd q.2)
def Z3S (K : PySem.W.Frag) : Sp := fun vs H Q _ => ∃ (prs : Prs) (B : Addr) (x : List Nat) (q : List Nat × Sh), vs = [.ref B, .str (S x)] ∧ BkAt K H B prs ∧ prs.find? (fun q => decide (q.1 = x)) = some q ∧ ∀ a, DK K H a (kd q.2) → Q (.ref a) H
theorem ok_shape_of {Z7 Z2 Z1 Z4 Z6 Z3 Z5 Z0 : Addr} (R : g.Raw "shape_of" "shape_of" Z2F ["book", "name"]) : g.Fn (1) "shape_of" ["book", "name"] (Z3S g.K) := by
  refine R.fn Z3P (fun vs H Q E h => by obtain ⟨prs, B, x, q, rfl, ⟨vs, hB, hl, hv⟩, hf, q'⟩ := h; rfl) fun f_ cdv A outer s H vs Q E hr h => ?_
  obtain ⟨prs, B, x, q, rfl, ⟨vs, hB, hl, hv⟩, hf, q'⟩ := h
  refine ⟨_, (@pss_cons _ _ _ _ _ (@ps_for _ _ _ _ _ _ _ _ PassesOwn.never rfl (@pi_list _ _ _ _ (@pv _ 0 _ _ (by rfl) (by first | exact Or.inl rfl | exact Or.inr (Or.inl rfl) | exact Or.inr (Or.inr rfl)) (by decide) (by decide))) (@pg_name _ _ (2) _ Z3P.nd rfl (Or.inl rfl) (by first | exact .inl rfl | exact .inr rfl | assumption)) (@pss_one _ _ _ (@ps_if _ _ _ _ _ _ _ _ (@pt_cmpR _ _ _ _ _ _ _ _ op_eq (@pe_ix _ _ _ _ _ _ _ ix_tup (@pv _ 2 _ _ (by rfl) (by first | exact Or.inl rfl | exact Or.inr (Or.inl rfl) | exact Or.inr (Or.inr rfl)) (by decide) (by decide)) pe_int (fun _ _ => rfl)) (@pv _ 1 _ _ (by rfl) (by first | exact Or.inl rfl | exact Or.inr (Or.inl rfl) | exact Or.inr (Or.inr rfl)) (by decide) (by decide)) (nomark _)) (@pss_one _ _ _ (@ps_ret _ _ _ _ (@pe_ix _ _ _ _ _ _ _ ix_tup (@pv _ 2 _ _ (by rfl) (by first | exact Or.inl rfl | exact Or.inr (Or.inl rfl) | exact Or.inr (Or.inr rfl)) (by decide) (by decide)) pe_int (fun _ _ => rfl)))) pss_nil)) (by intro _; rfl)) (@pss_one _ _ _ ps_never)), ?_⟩
  walk_at "rd"
  refine tFor_listN (K := g.K) (xs := vs) (fun c i σ H' => c = B ∧ H = H' ∧ (∃ o, σ = [some (.ref B), some (.str (S x)), o]) ∧ ∀ (j : Nat) p, j < i → prs[j]? = some p → p.1 ≠ x) (fun R r => by walk_at "rd"; exact r B _ ⟨rfl, rfl, ⟨_, rfl⟩, fun j p hj => by omega⟩) (fun c i σ H' _ ⟨e, e2, _⟩ => by subst e e2; exact SqL.of hB) ?_ ?_
  · rintro c i v σ H' hx ⟨rfl, rfl, ⟨o, rfl⟩, hall⟩
    have hi := (List.getElem?_eq_some_iff.mp hx).1
    have hp : prs[i]? = some (prs[i]'(by omega)) := List.getElem?_eq_getElem _
    generalize prs[i]'(by omega) = p at hp
    obtain ⟨T, a, rfl, hT, hk⟩ := hv i v p hx hp
    walk_at "rd"
    refine ⟨_, hT, _, atI_nat (j := 0) rfl, scal_ss _ _, ?_⟩
    by_cases e : p.1 = x
    · refine iteY (by rw [e]) ⟨_, hT, _, atI_nat (j := 1) rfl, q' a ?_⟩
      have : q = p := by
        obtain ⟨j, hj, e1, e2⟩ := List.find?_eq_some_iff_getElem.mp hf |>.2
        have e1' : prs[j]? = some q := by rw [List.getElem?_eq_getElem hj, e1]
        have hqx : q.1 = x := of_decide_eq_true (List.find?_eq_some_iff_getElem.mp hf).1
        rcases Nat.lt_trichotomy j i with c | c | c
        · exact absurd hqx (hall j q c e1')
        · subst c; rw [e1'] at hp; exact Option.some.inj hp
        · have := e2 i c
          rw [List.getElem?_eq_getElem (by omega)] at hp
          have hp := Option.some.inj hp
          rw [hp] at this
          simp [e] at this
      rw [this]
      exact hk
    · refine iteN (fun z => e (S_inj (V.str.inj z))) fun j p' hj hp' => ?_
      rcases Nat.lt_succ_iff_lt_or_eq.mp hj with c | rfl
      · exact hall j p' c hp'
      · rw [hp] at hp'
        have := Option.some.inj hp'
        subst this
        exact e
  · rintro c σ H' ⟨rfl, rfl, ⟨o, rfl⟩, hall⟩
    exfalso
    obtain ⟨j, hj, e1, e2⟩ := List.find?_eq_some_iff_getElem.mp hf |>.2
    have hqx : q.1 = x := of_decide_eq_true (List.find?_eq_some_iff_getElem.mp hf).1
    exact hall j q (by omega) (by rw [List.getElem?_eq_getElem hj, e1]) hqx
def FrB (d : Addr) (H H' : Hp) : Prop := ∀ b o, b ≠ d → H b = some o → H' b = some o
theorem FrB.trans {d : Addr} {H H1 H2 : Hp} (a : FrB d H H1) (b : FrB d H1 H2) : FrB d H H2 := fun c o n e => b c o n (a c o n e)
theorem frb_of {d : Addr} {H H' : Hp} (s : Same H H') : FrB d H H' := fun c o _ e => s _ _ e
theorem BkAt.tupk {K : PySem.W.Frag} {H H' : Hp} {B : Addr} {prs : Prs} (h : BkAt K H B prs) (t : TupK H H') (hB : ∀ o, H B = some o → H' B = some o) : BkAt K H' B prs := by
  obtain ⟨vs, h1, h2, h3⟩ := h
  refine ⟨vs, hB _ h1, h2, fun i v q e1 e2 => ?_⟩
  obtain ⟨T, a, k1, k2, k3⟩ := h3 i v q e1 e2
  exact ⟨T, a, k1, t.sq k2, k3.tupk t⟩
structure LS (P0 : Program) (w0 : World) (K : PySem.W.Frag) (C : Cs) (CL : Addr) (prs : Prs) (w : Wo) (U O : Addr → Prop) (H : Hp) (ls dx d B : Addr) (xs : Dx) : Prop where
  hl : H ls = some (.ins CL dx (lf (.ref B) d))
  hb : BkAt K H B prs
  hd : DictD P0 w0 K H d xs
  bi : BI C w U O H
  nd : ¬ U d
  nl : ¬ U ls
  keys : ∀ e ∈ xs, ∃ sh, e.1 = kd sh ∧ okS prs sh ∧ w.reg e.2.2 = some sh
  bk : w.bk = bkO prs
section
variable {P0 : Program} {w0 : World} {K : PySem.W.Frag} {C : Cs} {CL : Addr} {prs : Prs} {w : Wo} {U O : Addr → Prop} {H H' : Hp} {ls dx d B : Addr} {xs : Dx}
theorem LS.loc (L : LS P0 w0 K C CL prs w U O H ls dx d B xs) {D : Addr} (hD : ∀ o, H D = some o → ∃ zs, o = .lst zs) (nB : D ≠ B) (nU : ¬ U D) (hk : ∀ b o, b ≠ D → H b = some o → H' b = some o) : LS P0 w0 K C CL prs w U O H' ls dx d B xs := by
  have ne : ∀ {b : Addr} {o : HO}, H b = some o → (∀ zs, o ≠ .lst zs) → b ≠ D := fun e n z => by
    rw [z] at e
    obtain ⟨zs, h⟩ := hD _ e
    exact n zs h
  have tk : TupK H H' := fun b ys h => by
    rcases h with h | ⟨o, h⟩
    · exact .inl (hk _ _ (ne h (by intro zs z; cases z)) h)
    · exact .inr ⟨o, hk _ _ (ne h (by intro zs z; cases z)) h⟩
  refine ⟨hk _ _ (ne L.hl (by intro zs z; cases z)) L.hl, L.hb.tupk tk fun o e => hk _ _ (Ne.symm nB) e, L.hd.keep tk (hk _ _ (ne L.hd.at_ (by intro zs z; cases z)) L.hd.at_), L.bi.keep fun b o hb e => hk b o (fun z => nU (by rw [← z]; exact hb)) e, L.nd, L.nl, L.keys, L.bk⟩
theorem LS.same (L : LS P0 w0 K C CL prs w U O H ls dx d B xs) (s : Same H H') : LS P0 w0 K C CL prs w U O H' ls dx d B xs :=
  ⟨s _ _ L.hl, L.hb.tupk (tupK_of s) fun o e => s _ _ e, L.hd.keep (tupK_of s) (s _ _ L.hd.at_), L.bi.keep fun b o _ e => s _ _ e, L.nd, L.nl, L.keys, L.bk⟩
theorem dk_frb {a : Addr} {k : PyData} {φ : Heap → Prop} (h : DK K H a k) (fr : FrB d H H') (hd : H d = some (.ext φ)) : DK K H' a k := h.tupk (tupK_but fr hd (by intro xs z; cases z) (by intro o v z; cases z))
theorem LS.made (L : LS P0 w0 K C CL prs w U O H ls dx d B xs) (s : Same H H') {p : Addr} {os ss : List Addr} {sh : Sh} (N : New H H' U p os ss) (hd : d ∉ os ∧ d ∉ ss) (hl : ls ∉ os ∧ ls ∉ ss) (hm : MkAt C (w.add p sh os) (t0 (Ua U os ss)) H' p sh) : LS P0 w0 K C CL prs (w.add p sh os) (Ua U os ss) O H' ls dx d B xs := by
  have nOp : ¬ O p := fun z => by
    obtain ⟨_, _, _, _, h, _⟩ := L.bi.op p z
    exact N.nu _ (.inr N.inn) h.2
  refine ⟨s _ _ L.hl, L.hb.tupk (tupK_of s) fun o e => s _ _ e, L.hd.keep (tupK_of s) (s _ _ L.hd.at_), N.bi L.bi (fun _ _ => Iff.rfl) (fun _ => hm) (fun z => absurd z nOp), fun z => ?_, fun z => ?_, fun e he => ?_, L.bk⟩
  · rcases z with z | z | z
    · exact L.nd z
    · exact hd.1 z
    · exact hd.2 z
  · rcases z with z | z | z
    · exact L.nl z
    · exact hl.1 z
    · exact hl.2 z
  · obtain ⟨s', h1, h2, h3⟩ := L.keys e he
    exact ⟨s', h1, h2, (N.wg (H0 := fun _ => none) L.bi sh fun _ _ => rfl).reg _ _ h3⟩
theorem LS.reg (L : LS P0 w0 K C CL prs w U O H ls dx d B xs) {p : Addr} {sh : Sh} (hok : okS prs sh) (h : lookD xs (kd sh) = some p) : w.reg p = some sh := by
  obtain ⟨e, he, hp⟩ := Option.map_eq_some_iff.mp h
  have hm := List.mem_of_find?_eq_some he
  have hk : e.1 = kd sh := of_decide_eq_true (List.find?_some (p := fun (x : PyData × Addr × Addr) => decide (x.1 = kd sh)) he)
  obtain ⟨s', h1, h2, h3⟩ := L.keys e hm
  rw [hk] at h1
  rw [kd_inj hok h2 h1, ← hp]
  exact h3
end
def nm (sh : Sh) : Nat := if kind sh ≤ 1 then 0 else 2 * dep sh + 2
def NK (prs : Prs) (xs xs' : Dx) (n : Nat) : Prop := (∀ e v, lookD xs e = some v → lookD xs' e = some v) ∧ ∀ e, lookD xs' e ≠ none → lookD xs e ≠ none ∨ ∃ s, e = kd s ∧ okS prs s ∧ dep s < n
theorem NK.refl (prs : Prs) (xs : Dx) (n : Nat) : NK prs xs xs n := ⟨fun _ _ h => h, fun e h => .inl h⟩
theorem NK.trans {prs : Prs} {xs xs1 xs2 : Dx} {n : Nat} (a : NK prs xs xs1 n) (b : NK prs xs1 xs2 n) : NK prs xs xs2 n := ⟨fun e v h => b.1 e v (a.1 e v h), fun e h => by
  rcases b.2 e h with h | h
  · exact a.2 e h
  · exact .inr h⟩
theorem NK.mono {prs : Prs} {xs xs1 : Dx} {n n' : Nat} (a : NK prs xs xs1 n) (h : n ≤ n') : NK prs xs xs1 n' := ⟨a.1, fun e z => by
  rcases a.2 e z with h1 | ⟨s, h1, h2, h3⟩
  · exact .inl h1
  · exact .inr ⟨s, h1, h2, by omega⟩⟩
def kc (sh : Sh) : Nat := if kind sh ≤ 1 then 1 else 2 * wt sh
theorem kc_le (sh : Sh) : kc sh ≤ 2 * wt sh := by
  have := wt_pos sh
  unfold kc
  split <;> omega
def sp_new (P0 : Program) (w0 : World) (K : PySem.W.Frag) (C : Cs) (CL : Addr) (l : Nat) : Sp := fun vs H Q _ => ∃ (prs : Prs) (w : Wo) (U O : Addr → Prop) (ls dx d B a : Addr) (sh : Sh) (xs : Dx), vs = [.ref ls, .ref a] ∧ LS P0 w0 K C CL prs w U O H ls dx d B xs ∧ DK K H a (kd sh) ∧ okS prs sh ∧ kind sh ≤ 4 ∧ dep sh ≤ w.M ∧ wt sh ≤ 1000 ∧ xs.length + kc sh ≤ 900 ∧ nm sh + 1 ≤ l ∧
  ∀ p H' w' U' xs', LS P0 w0 K C CL prs w' U' O H' ls dx d B xs' → WG w w' U U' H → FrB d H H' → w'.reg p = some sh → xs'.length + 1 ≤ xs.length + kc sh → NK prs xs xs' (dep sh) → Q (.ref p) H'
def Z0h (P0 : Program) (w0 : World) (K : PySem.W.Frag) (C : Cs) (CL : Addr) (l : Nat) : Sp := fun vs H Q _ => ∃ (prs : Prs) (w : Wo) (U O : Addr → Prop) (ls dx d B a : Addr) (sh : Sh) (xs : Dx), vs = [.ref ls, .ref a] ∧ LS P0 w0 K C CL prs w U O H ls dx d B xs ∧ DK K H a (kd sh) ∧ okS prs sh ∧ dep sh ≤ w.M ∧ wt sh ≤ 1000 ∧ xs.length + kc sh ≤ 900 ∧ nm sh + 2 ≤ l ∧
  ∀ p H' w' U' xs', LS P0 w0 K C CL prs w' U' O H' ls dx d B xs' → WG w w' U U' H → FrB d H H' → w'.reg p = some sh → xs'.length ≤ xs.length + kc sh → NK prs xs xs' (dep sh + 1) → Q (.ref p) H'
def Z1Y (P0 : Program) (w0 : World) (K : PySem.W.Frag) (C : Cs) (CL : Addr) (l : Nat) : Sp := fun vs H Q _ => ∃ (prs : Prs) (w : Wo) (U O : Addr → Prop) (ls dx d B a : Addr) (x : List Nat) (xs : Dx), vs = [.ref ls, .ref a] ∧ LS P0 w0 K C CL prs w U O H ls dx d B xs ∧ DK K H a (kd (.use x)) ∧ okS prs (.use x) ∧ lookD xs (kd (.use x)) = none ∧ xs.length + 2 ≤ 900 ∧ 3 ≤ l ∧
  ∀ p H' w' U' xs', LS P0 w0 K C CL prs w' U' O H' ls dx d B xs' → WG w w' U U' H → FrB d H H' → lookD xs' (kd (.use x)) = some p → xs'.length ≤ xs.length + 2 → NK prs xs xs' 1 → Q .non H'
theorem no_new {P0 : Program} {w0 : World} {K : PySem.W.Frag} {C : Cs} {CL : Addr} {vs : List V} {H : Hp} {Q : VK} {E : XK} (h : sp_new P0 w0 K C CL 0 vs H Q E) : False := by
  obtain ⟨prs, w, U, O, ls, dx, d, B, a, sh, xs, _, _, _, _, _, _, _, _, h, _⟩ := h
  omega
theorem Z3T {P0 : Program} {w0 : World} {K : PySem.W.Frag} {C : Cs} {CL : Addr} {vs : List V} {H : Hp} {Q : VK} {E : XK} (h : Z0h P0 w0 K C CL 0 vs H Q E) : False := by
  obtain ⟨prs, w, U, O, ls, dx, d, B, a, sh, xs, _, _, _, _, _, _, _, h, _⟩ := h
  omega
theorem no_add_use {P0 : Program} {w0 : World} {K : PySem.W.Frag} {C : Cs} {CL : Addr} {vs : List V} {H : Hp} {Q : VK} {E : XK} (h : Z1Y P0 w0 K C CL 0 vs H Q E) : False := by
  obtain ⟨prs, w, U, O, ls, dx, d, B, a, x, xs, _, _, _, _, _, _, h, _⟩ := h
  omega
theorem sm_of {prs : Prs} {sh : Sh} (h : okS prs sh) (hw : wt sh ≤ 1000) {s : Nat} (hs : s ≤ 45) : sm (cnt (bkO prs) sh s) := by
  obtain ⟨h1, h2⟩ := cnt_bd prs sh s hs h hw
  refine ⟨12100 * s + (12 * wt sh - 6) + 1, by omega, ?_⟩
  have h3 : (2 : Int) ^ (12100 * s + (12 * wt sh - 6)) < 2 ^ (12100 * s + (12 * wt sh - 6) + 1) := by
    have : (2 : Nat) ^ (12100 * s + (12 * wt sh - 6)) < 2 ^ (12100 * s + (12 * wt sh - 6) + 1) := Nat.pow_lt_pow_right (by decide) (by omega)
    exact_mod_cast this
  have h4 : ((cnt (bkO prs) sh s).natAbs : Int) < ((2 ^ (12100 * s + (12 * wt sh - 6) + 1) : Nat) : Int) := by
    rw [Int.natAbs_of_nonneg h1]
    have := Int.lt_of_le_of_lt h2 h3
    exact_mod_cast this
  exact_mod_cast h4
theorem sm_row {prs : Prs} {ps : List Sh} (h : okSs prs ps) (hw : wts ps ≤ 1000) {s : Nat} (hs : s ≤ 45) : sm (rowc (bkO prs) ps s) := by
  obtain ⟨h1, h2⟩ := rowc_bd prs ps s hs h hw
  refine ⟨12100 * s + 12 * wts ps + 1, by omega, ?_⟩
  have h3 : (2 : Int) ^ (12100 * s + 12 * wts ps) < 2 ^ (12100 * s + 12 * wts ps + 1) := by
    have : (2 : Nat) ^ (12100 * s + 12 * wts ps) < 2 ^ (12100 * s + 12 * wts ps + 1) := Nat.pow_lt_pow_right (by decide) (by omega)
    exact_mod_cast this
  have h4 : ((rowc (bkO prs) ps s).natAbs : Int) < ((2 ^ (12100 * s + 12 * wts ps + 1) : Nat) : Int) := by
    rw [Int.natAbs_of_nonneg h1]
    have := Int.lt_of_le_of_lt h2 h3
    exact_mod_cast this
  exact_mod_cast h4
section
variable {P0 : Program} {w0 : World} {K : PySem.W.Frag} {C : Cs} {CL : Addr} {prs : Prs} {w w1 : Wo} {U U1 O : Addr → Prop} {H H1 H3 : Hp} {ls dx d B : Addr} {xs xs1 : Dx}
theorem LS.fin (L : LS P0 w0 K C CL prs w U O H ls dx d B xs) (L1 : LS P0 w0 K C CL prs w1 U1 O H1 ls dx d B xs1) (G1 : WG w w1 U U1 H) (fr1 : FrB d H H1) (s : Same H1 H3) {p : Addr} {os ss : List Addr} {sh : Sh} (N : New H1 H3 U1 p os ss) (h0 : ∀ b, b ∈ os ∨ b ∈ ss → H b = none) (hm : MkAt C (w1.add p sh os) (t0 (Ua U1 os ss)) H3 p sh) :
    LS P0 w0 K C CL prs (w1.add p sh os) (Ua U1 os ss) O H3 ls dx d B xs1 ∧ WG w (w1.add p sh os) U (Ua U1 os ss) H ∧ FrB d H H3 ∧ (w1.add p sh os).reg p = some sh := by
  have nd : ∀ {l : List Addr}, (∀ b ∈ l, H b = none) → d ∉ l := fun h z => by have := h d z; rw [L.hd.at_] at this; cases this
  have nl : ∀ {l : List Addr}, (∀ b ∈ l, H b = none) → ls ∉ l := fun h z => by have := h ls z; rw [L.hl] at this; cases this
  exact ⟨L1.made s N ⟨nd fun b hb => h0 b (.inl hb), nd fun b hb => h0 b (.inr hb)⟩ ⟨nl fun b hb => h0 b (.inl hb), nl fun b hb => h0 b (.inr hb)⟩ hm, G1.trans (N.wg L1.bi sh h0) (fun _ h => h), fr1.trans (frb_of s), if_pos rfl⟩
theorem LS.back (L1 : LS P0 w0 K C CL prs w1 U1 O H1 ls dx d B xs1) (fr1 : FrB d H H1) {b : Addr} (h : H1 b = none) : H b = none := by
  cases e : H b with
  | none => rfl
  | some o =>
    exfalso
    by_cases c : b = d
    · subst c; rw [L1.hd.at_] at h; cases h
    · rw [fr1 b o c e] at h; cases h
end
theorem subs_ok {prs : Prs} {sh q : Sh} (h : okS prs sh) (hq : q ∈ subs sh) : okS prs q := by
  cases sh with
  | row ps => rw [okS] at h; exact okS_mem h.2 hq
  | pick mk ps => rw [okS] at h; exact okS_mem h.2.2 hq
  | many p =>
    rw [okS] at h
    have : q = p := by simpa [subs] using hq
    rw [this]; exact h
  | _ => cases hq
theorem subs_dep {sh q : Sh} (hq : q ∈ subs sh) : dep q + 1 ≤ dep sh := by
  cases sh with
  | row ps => rw [show dep (.row ps) = deps ps + 1 by rw [dep]]; have := dep_mem (ps := ps) hq; omega
  | pick mk ps => rw [show dep (.pick mk ps) = deps ps + 1 by rw [dep]]; have := dep_mem (ps := ps) hq; omega
  | many p =>
    have : q = p := by simpa [subs] using hq
    rw [this, show dep (.many p) = dep p + 1 by rw [dep]]; omega
  | _ => cases hq
theorem subs_wt {sh : Sh} (h : kind sh = 2 ∨ kind sh = 3 ∨ kind sh = 4) : wts (subs sh) + 1 = wt sh := by
  cases sh with
  | row ps => rw [show wt (.row ps) = wts ps + 1 by rw [wt]]; rfl
  | pick mk ps => rw [show wt (.pick mk ps) = wts ps + 1 by rw [wt]]; rfl
  | many p => rw [show wt (.many p) = wt p + 1 by rw [wt], subs]; simp [wts]
  | _ => simp [kind] at h
theorem wts_app : ∀ a b : List Sh, wts (a ++ b) = wts a + wts b
  | [], b => by simp [wts]
  | p :: a, b => by
    have := wts_app a b
    rw [List.cons_append, wts, wts]
    omega
theorem wts_take {l : List Sh} {i : Nat} {q : Sh} (h : l[i]? = some q) : wts (l.take (i + 1)) = wts (l.take i) + wt q := by
  rw [take_snoc h, wts_app]
  simp [wts]
theorem wts_take_le (l : List Sh) (i : Nat) : wts (l.take i) ≤ wts l := by
  have e : wts l = wts (l.take i) + wts (l.drop i) := by rw [← wts_app, List.take_append_drop]
  omega
theorem len_wts : ∀ l : List Sh, l.length ≤ wts l
  | [] => Nat.zero_le _
  | p :: l => by
    have := len_wts l
    have := wt_pos p
    rw [wts, List.length_cons]
    omega
theorem nm_le {sh q : Sh} (hk : 2 ≤ kind sh) (hd : dep q + 1 ≤ dep sh) : nm q + 2 ≤ nm sh := by
  unfold nm
  rw [if_neg (by omega : ¬ kind sh ≤ 1)]
  split <;> omega
variable {m : Nat}
theorem Z1B {k : Nat} {Z7 Z2 Z1 Z4 Z6 Z3 Z5 Z0 : Addr} (R : g.RawM Z7 "new_maker" "Lister.new_maker" Z0O ["self", "shape"]) (F_parts_of : g.Fn k "parts_of" ["shape"] (Z2c g.K)) (Z0a : g.Me k Z7 "maker_of" ["self", "shape"] (Z0h g.P g.w g.K (Cs.mk Z0 Z3 Z4 Z6 Z2 Z1 Z5) Z7 m)) {j_WholeMaker___init__ : Nat} (Z2y : g.Ma j_WholeMaker___init__ "WholeMaker" Z0 ["self", "low", "high"] (Z42 (Cs.mk Z0 Z3 Z4 Z6 Z2 Z1 Z5))) (h_WholeMaker___init__ : j_WholeMaker___init__ + 1 ≤ k) {j_TextMaker___init__ : Nat} (Z2Y : g.Ma j_TextMaker___init__ "TextMaker" Z3 ["self", "signs"] (Z43 (Cs.mk Z0 Z3 Z4 Z6 Z2 Z1 Z5))) (h_TextMaker___init__ : j_TextMaker___init__ + 1 ≤ k) {j_RowMaker___init__ : Nat} (Z3i : g.Ma j_RowMaker___init__ "RowMaker" Z4 ["self", "parts"] (Z47 (Cs.mk Z0 Z3 Z4 Z6 Z2 Z1 Z5))) (h_RowMaker___init__ : j_RowMaker___init__ + 1 ≤ k) {j_ManyMaker___init__ : Nat} (Z2Z : g.Ma j_ManyMaker___init__ "ManyMaker" Z2 ["self", "part"] (Z44 (Cs.mk Z0 Z3 Z4 Z6 Z2 Z1 Z5))) (h_ManyMaker___init__ : j_ManyMaker___init__ + 1 ≤ k) {j_PickMaker___init__ : Nat} (Z30 : g.Ma j_PickMaker___init__ "PickMaker" Z1 ["self", "marks", "parts"] (Z45 (Cs.mk Z0 Z3 Z4 Z6 Z2 Z1 Z5))) (h_PickMaker___init__ : j_PickMaker___init__ + 1 ≤ k) (Zz : Cls g.K Z7) (ZE : NoAttr g.K Z7 "book") (Zw : NoAttr g.K Z7 "makers") : g.Me (k + 1) Z7 "new_maker" ["self", "shape"] (sp_new g.P g.w g.K (Cs.mk Z0 Z3 Z4 Z6 Z2 Z1 Z5) Z7 (m + 1)) := by
  refine R.me Z0C (fun vs H Q E h => by obtain ⟨prs, w, U, O, ls, dx, d, B, a, sh, xs, rfl, L, hk, hok, hki, hdp, hwt, hxl, hnm, q⟩ := h; rfl) fun f_ cdv A outer s H vs Q E hr h => ?_
  obtain ⟨prs, w, U, O, ls, dx, d, B, a, sh, xs, rfl, L, hk, hok, hki, hdp, hwt, hxl, hnm, q⟩ := h
  refine ⟨_, (@pss_cons _ _ _ _ _ (@ps_set _ _ (2) _ _ _ _ Z0C.nd rfl (Or.inl rfl) (@pe_ix _ _ _ _ _ _ _ ix_tup (@pv _ 1 _ _ (by rfl) (by first | exact Or.inl rfl | exact Or.inr (Or.inl rfl) | exact Or.inr (Or.inr rfl)) (by decide) (by decide)) pe_int (fun _ _ => rfl)) (by rfl) (by first | exact .inl rfl | exact .inr rfl | assumption)) (@pss_cons _ _ _ _ _ (@ps_if _ _ _ _ _ _ _ _ (@pt_cmpR _ _ _ _ _ _ _ _ op_eq (@pv _ 2 _ _ (by rfl) (by first | exact Or.inl rfl | exact Or.inr (Or.inl rfl) | exact Or.inr (Or.inr rfl)) (by decide) (by decide)) pe_str (nomark _)) (@pss_one _ _ _ (@ps_ret _ _ _ _ (@pe_ma _ _ _ _ _ _ _ _ _ _ _ _ _ Z2y hr (@pa_cons _ _ _ _ _ (@pe_ix _ _ _ _ _ _ _ ix_tup (@pv _ 1 _ _ (by rfl) (by first | exact Or.inl rfl | exact Or.inr (Or.inl rfl) | exact Or.inr (Or.inr rfl)) (by decide) (by decide)) pe_int (fun _ _ => rfl)) (@pa_cons _ _ _ _ _ (@pe_ix _ _ _ _ _ _ _ ix_tup (@pv _ 1 _ _ (by rfl) (by first | exact Or.inl rfl | exact Or.inr (Or.inl rfl) | exact Or.inr (Or.inr rfl)) (by decide) (by decide)) pe_int (fun _ _ => rfl)) pa_nil (by rfl)) (by rfl)) (by omega) (by rfl) (by rfl) (by decide) (by rfl) (by rfl)))) pss_nil) (@pss_cons _ _ _ _ _ (@ps_if _ _ _ _ _ _ _ _ (@pt_cmpR _ _ _ _ _ _ _ _ op_eq (@pv _ 2 _ _ (by rfl) (by first | exact Or.inl rfl | exact Or.inr (Or.inl rfl) | exact Or.inr (Or.inr rfl)) (by decide) (by decide)) pe_str (nomark _)) (@pss_one _ _ _ (@ps_ret _ _ _ _ (@pe_ma _ _ _ _ _ _ _ _ _ _ _ _ _ Z2Y hr (@pa_cons _ _ _ _ _ (@pe_ix _ _ _ _ _ _ _ ix_tup (@pv _ 1 _ _ (by rfl) (by first | exact Or.inl rfl | exact Or.inr (Or.inl rfl) | exact Or.inr (Or.inr rfl)) (by decide) (by decide)) pe_int (fun _ _ => rfl)) pa_nil (by rfl)) (by omega) (by rfl) (by rfl) (by decide) (by rfl) (by rfl)))) pss_nil) (@pss_cons _ _ _ _ _ (@ps_setC _ (3) _ _ _ _ _ _ _ _ _ ([none, some 0]) ((["part", "self"] : List Str)) _ (gName 0) _ _ Z0C.nd rfl (Or.inl rfl) (.own (.cap (i := 0) rfl rfl (by first | exact Or.inl rfl | exact Or.inr rfl) .nil)) rfl (@pi_list _ _ _ _ (@pe_fn _ _ _ _ _ _ _ _ _ _ _ _ F_parts_of hr (@pa_cons _ _ _ _ _ (@pv _ 1 _ _ (by rfl) (by first | exact Or.inl rfl | exact Or.inr (Or.inl rfl) | exact Or.inr (Or.inr rfl)) (by decide) (by decide)) pa_nil (by rfl)) (by omega) (by rfl) (by rfl) (by decide) (by rfl) (by rfl))) (fun cl C s₀ H₀ fp pn => (@pg_name _ _ (0) _ (show List.Nodup (["part", "self"] : List Str) by decide +kernel) rfl (Or.inl rfl) (Or.inr rfl))) (fun cl C s₀ H₀ fp pn => pts_nil) (fun cl C s₀ H₀ fp pn => (@pe_me _ _ _ _ _ _ _ _ _ _ _ _ _ _ _ _ Z0a Zz hr (@pv _ 1 _ _ (by rfl) (by first | exact Or.inl rfl | exact Or.inr (Or.inl rfl) | exact Or.inr (Or.inr rfl)) (by decide) (by decide)) (@pa_cons _ _ _ _ _ (@pv _ 0 _ _ (by rfl) (by first | exact Or.inl rfl | exact Or.inr (Or.inl rfl) | exact Or.inr (Or.inr rfl)) (by decide) (by decide)) pa_nil (by rfl)) (by omega) (by rfl) (by rfl) (by rfl) (by rfl))) (by intro x hx; simp at hx; first | (subst hx; exact Or.inl rfl) | (rcases hx with rfl | rfl <;> exact Or.inl rfl) | (rcases hx with rfl | rfl | rfl <;> exact Or.inl rfl) | (rcases hx with rfl | rfl | rfl | rfl <;> exact Or.inl rfl) | (rcases hx with rfl | rfl | rfl | rfl | rfl <;> exact Or.inl rfl)) (by rfl) (by decide) (by decide +kernel) (by intro _; rfl) (by rfl) (by first | exact .inl rfl | exact .inr rfl | assumption)) (@pss_cons _ _ _ _ _ (@ps_if _ _ _ _ _ _ _ _ (@pt_cmpR _ _ _ _ _ _ _ _ op_eq (@pv _ 2 _ _ (by rfl) (by first | exact Or.inl rfl | exact Or.inr (Or.inl rfl) | exact Or.inr (Or.inr rfl)) (by decide) (by decide)) pe_str (nomark _)) (@pss_one _ _ _ (@ps_ret _ _ _ _ (@pe_ma _ _ _ _ _ _ _ _ _ _ _ _ _ Z3i hr (@pa_cons _ _ _ _ _ (@pv _ 3 _ _ (by rfl) (by first | exact Or.inl rfl | exact Or.inr (Or.inl rfl) | exact Or.inr (Or.inr rfl)) (by decide) (by decide)) pa_nil (by rfl)) (by omega) (by rfl) (by rfl) (by decide) (by rfl) (by rfl)))) pss_nil) (@pss_cons _ _ _ _ _ (@ps_if _ _ _ _ _ _ _ _ (@pt_cmpR _ _ _ _ _ _ _ _ op_eq (@pv _ 2 _ _ (by rfl) (by first | exact Or.inl rfl | exact Or.inr (Or.inl rfl) | exact Or.inr (Or.inr rfl)) (by decide) (by decide)) pe_str (nomark _)) (@pss_one _ _ _ (@ps_ret _ _ _ _ (@pe_ma _ _ _ _ _ _ _ _ _ _ _ _ _ Z30 hr (@pa_cons _ _ _ _ _ (@pe_lc _ _ _ _ _ _ _ ([none, none]) ((["mark", "part"] : List Str)) _ (gTup g.K 2 (gCons (gName 0) (gCons (gName 1) gNil))) _ _ (.own (.own .nil)) rfl (@pi_tup _ _ _ _ (@pe_ix _ _ _ _ _ _ _ ix_tup (@pv _ 1 _ _ (by rfl) (by first | exact Or.inl rfl | exact Or.inr (Or.inl rfl) | exact Or.inr (Or.inr rfl)) (by decide) (by decide)) pe_int (fun _ _ => rfl))) (fun cl C s₀ H₀ fp pn => (@pg_tup _ _ _ _ _ (2) rfl (@pgs_cons _ _ _ _ _ (@pg_name _ _ (0) _ (show List.Nodup (["mark", "part"] : List Str) by decide +kernel) rfl (Or.inl rfl) (Or.inr rfl)) (@pgs_cons _ _ _ _ _ (@pg_name _ _ (1) _ (show List.Nodup (["mark", "part"] : List Str) by decide +kernel) rfl (Or.inl rfl) (Or.inr rfl)) pgs_nil (by rfl)) (by rfl)) (by rfl) (by rfl))) (fun cl C s₀ H₀ fp pn => pts_nil) (fun cl C s₀ H₀ fp pn => (@pv _ 0 _ _ (by rfl) (by first | exact Or.inl rfl | exact Or.inr (Or.inl rfl) | exact Or.inr (Or.inr rfl)) (by decide) (by decide))) (by intro x hx; simp at hx) (by rfl) (by decide) (by decide +kernel) (by intro _; rfl)) (@pa_cons _ _ _ _ _ (@pv _ 3 _ _ (by rfl) (by first | exact Or.inl rfl | exact Or.inr (Or.inl rfl) | exact Or.inr (Or.inr rfl)) (by decide) (by decide)) pa_nil (by rfl)) (by rfl)) (by omega) (by rfl) (by rfl) (by decide) (by rfl) (by rfl)))) pss_nil) (@pss_cons _ _ _ _ _ (@ps_if _ _ _ _ _ _ _ _ (@pt_cmpR _ _ _ _ _ _ _ _ op_eq (@pv _ 2 _ _ (by rfl) (by first | exact Or.inl rfl | exact Or.inr (Or.inl rfl) | exact Or.inr (Or.inr rfl)) (by decide) (by decide)) pe_str (nomark _)) (@pss_one _ _ _ (@ps_ret _ _ _ _ (@pe_ma _ _ _ _ _ _ _ _ _ _ _ _ _ Z2Z hr (@pa_cons _ _ _ _ _ (@pe_ix _ _ _ _ _ _ _ ix_list (@pv _ 3 _ _ (by rfl) (by first | exact Or.inl rfl | exact Or.inr (Or.inl rfl) | exact Or.inr (Or.inr rfl)) (by decide) (by decide)) pe_int (fun _ _ => rfl)) pa_nil (by rfl)) (by omega) (by rfl) (by rfl) (by decide) (by rfl) (by rfl)))) pss_nil) (@pss_cons _ _ _ _ _ ps_never (@pss_one _ _ _ ps_never))))))))), ?_⟩
  have hkd := hk.den
  have nU : ∀ {b : Addr}, H b = none → ¬ U b := fun e z => L.bi.al _ z e
  have parts : (kind sh = 2 ∨ kind sh = 3 ∨ kind sh = 4) → ∀ (mv : V) (Qc : VK), (∀ D (as : List Addr) H1 w1 U1 xs1, LS g.P g.w g.K (Cs.mk Z0 Z3 Z4 Z6 Z2 Z1 Z5) Z7 prs w1 U1 O H1 ls dx d B xs1 → WG w w1 U U1 H → FrB d H H1 → H D = none → ¬ U1 D → H1 D = some (.lst (as.map V.ref)) → RegAll w1.reg as (subs sh) → xs1.length + 2 ≤ xs.length + 2 * wt sh → NK prs xs xs1 (dep sh) → Qc (.ref D) H1) →
      tLC [none, some 0] (iList g.K (tCall (Z2c g.K) [] E0 (tCons (tVar 1) tNil))) (gName 0) tYes (tMeth Z7 "maker_of" (Z0h g.P g.w g.K (Cs.mk Z0 Z3 Z4 Z6 Z2 Z1 Z5) Z7 m) [] E0 (tVar 1) (tCons (tVar 0) tNil)) [some (V.ref ls), some (V.ref a), some mv, none] H Qc := by
    intro h3 mv Qc hq
    have hsw := subs_wt h3
    have hkc : kc sh = 2 * wt sh := if_neg (by omega)
    refine tLC_listIG (K := g.K) (fun b vs H1 => Same H H1 ∧ H b = none ∧ ∃ bs : List Addr, vs = bs.map V.ref ∧ H1 b = some (.lst vs) ∧ bs.length = (subs sh).length ∧ ∀ (i : Nat) b q, bs[i]? = some b → (subs sh)[i]? = some q → DK g.K H b (kd q)) (fun R r => ?_) ?_
    · walk_at "rd"
      exact ⟨prs, a, sh, rfl, hk, hok, h3, fun D bs H1 s1 hD hd hl hb => r D _ H1 ⟨s1, hD, bs, rfl, hd, hl, hb⟩⟩
    · rintro b vs H1 ⟨s1, gb, bs, rfl, hb1, hbl, hbs⟩
      have hlw := len_wts (subs sh)
      refine ⟨SqL.of hb1, by rw [List.length_map]; omega, fun D i zs H' => ∃ (as : List Addr) (w1 : Wo) (U1 : Addr → Prop) (xs1 : Dx), zs = as.map V.ref ∧ as.length = i ∧ LS g.P g.w g.K (Cs.mk Z0 Z3 Z4 Z6 Z2 Z1 Z5) Z7 prs w1 U1 O H' ls dx d B xs1 ∧ WG w w1 U U1 H ∧ FrB d H1 H' ∧ ¬ U1 D ∧ H' D = some (.lst zs) ∧ (∀ (j : Nat) a q, as[j]? = some a → (subs sh)[j]? = some q → w1.reg a = some q) ∧ xs1.length ≤ xs.length + 2 * wts ((subs sh).take i) ∧ NK prs xs xs1 (dep sh), ?_, ?_, ?_, ?_⟩
      · intro D hD
        have sD := Same.upd_new hD (.lst [])
        exact ⟨[], w, U, xs, rfl, rfl, (L.same s1).same sD, .refl _ _ _, frb_of sD, nU (s1.free hD), upd_same, fun j a q h => (by simp at h), by simp [wts], .refl _ _ _⟩
      · rintro D i zs H' hD ⟨as, w1, U1, xs1, rfl, h1, L1, G1, fr1, hU1, h2, _⟩
        have nbd : b ≠ d := ne_of hb1 (s1 _ _ L.hd.at_) (by intro z; cases z)
        exact ⟨by rw [List.length_map, h1], h2, SqL.of (fr1 _ _ nbd hb1)⟩
      · rintro D i x zs H' hD hx ⟨as, w1, U1, xs1, rfl, hal, L1, G1, fr1, hU1, hD', hreg, hxl1, nk1⟩ R r
        rw [List.getElem?_map] at hx
        obtain ⟨bq, hbq, rfl⟩ := Option.map_eq_some_iff.mp hx
        have hi := (List.getElem?_eq_some_iff.mp hbq).1
        have hsq : (subs sh)[i]? = some ((subs sh)[i]'(by omega)) := List.getElem?_eq_getElem _
        generalize (subs sh)[i]'(by omega) = sq at hsq
        have hmem := List.mem_of_getElem? hsq
        have hdq := subs_dep hmem
        have hwq := wts_take hsq
        have hwl := wts_take_le (subs sh) (i + 1)
        have hkq := kc_le sq
        have hnq := nm_le (by omega : 2 ≤ kind sh) hdq
        have frH : FrB d H H' := (frb_of s1).trans fr1
        have dkq := dk_frb (hbs i bq sq hbq hsq) frH L.hd.at_
        walk_at "rd"
        refine ⟨_, _, L1.hl, lf_no _ _ (by decide +kernel) (by decide +kernel), prs, w1, U1, O, ls, dx, d, B, bq, sq, xs1, rfl, L1, dkq, subs_ok hok hmem, by rw [G1.M]; omega, by omega, by omega, by omega, fun p H2 w2 U2 xs2 L2 G2 fr2 hr2 hl2 nk2 => ?_⟩
        have nDd : D ≠ d := ne_of hD' L1.hd.at_ (by intro z; cases z)
        have hD2 := fr2 _ _ nDd hD'
        have hU2 : ¬ U2 D := fun z => by
          rcases G2.u2 D z with z | z
          · exact hU1 z
          · rw [hD'] at z; cases z
        have nDB : D ≠ B := fun z => by
          obtain ⟨vs, hB, _⟩ := L.hb
          rw [z, s1 _ _ hB] at hD; cases hD
        refine r _ _ hD2 ⟨as ++ [p], w2, U2, xs2, by rw [List.map_append]; rfl, by rw [List.length_append, hal]; rfl, L2.loc (fun o e => by rw [hD2] at e; exact ⟨_, (Option.some.inj e).symm⟩) nDB hU2 (fun b o hb e => by rw [upd_ne hb]; exact e), G1.trans G2 fun z hz => ?_, fun z o hz e => ?_, hU2, upd_same, fun j a' q' h1 h2 => ?_, by omega, nk1.trans (nk2.mono (by omega))⟩
        · intro e
          exact hz (L1.back frH e)
        · rw [upd_ne (ne_of_none e hD)]
          exact fr2 _ _ hz (fr1 _ _ hz e)
        · by_cases c : j < as.length
          · rw [List.getElem?_append_left c] at h1
            exact G2.reg _ _ (hreg j a' q' h1 h2)
          · have hj : j = as.length := by
              have := (List.getElem?_eq_some_iff.mp h1).1
              rw [List.length_append, List.length_singleton] at this
              omega
            subst hj
            rw [List.getElem?_append_right (Nat.le_refl _), Nat.sub_self] at h1
            have : p = a' := Option.some.inj h1
            subst this
            rw [hal, hsq] at h2
            have := Option.some.inj h2
            subst this
            exact hr2
      · rintro D zs H' hD ⟨as, w1, U1, xs1, rfl, hal, L1, G1, fr1, hU1, hD', hreg, hxl1, nk1⟩
        rw [List.length_map] at hal hxl1
        rw [List.take_of_length_le (by omega)] at hxl1
        exact hq D as H' w1 U1 xs1 L1 G1 ((frb_of s1).trans fr1) (s1.free hD) hU1 hD' ⟨by omega, hreg⟩ (by omega) nk1
  walk_at "rd"
  cases sh with
  | w lo span =>
    rw [kd] at hkd
    obtain ⟨b, vs, e, hT, hvs⟩ := den_tup hkd
    have := V.ref.inj e
    subst this
    obtain ⟨u1, r1, rfl, h5, h6⟩ := dens_cons hvs
    obtain ⟨u2, r2, rfl, h7, h8⟩ := dens_cons h6
    obtain ⟨u3, r3, rfl, h9, h10⟩ := dens_cons h8
    have := dens_nil h10
    subst this
    have := den_str h5
    subst this
    have := den_int h7
    subst this
    have := den_int h9
    subst this
    refine ⟨_, hT, _, atI_nat (j := 0) rfl, scal_ss _ _, iteY rfl ⟨_, hT, _, atI_nat (j := 1) rfl, _, hT, _, atI_nat (j := 2) rfl, fun x dx' hx hdx hne => ⟨x, dx', lo, span, rfl, upd_same, fun c H3 hc sb h3 h4 => ⟨rfl, ?_⟩⟩⟩⟩
    have s3 := made_same hx hdx sb
    have hcH := upd_none (upd_none hc)
    have ncx : c ≠ x := fun z => by rw [z, upd_same] at hc; cases hc
    have N : New H H3 U x [c] [x] := ⟨fun b hb => by
      rcases hb with hb | hb
      · rw [List.mem_singleton.mp hb]; exact nU hcH
      · rw [List.mem_singleton.mp hb]; exact nU hx, .head _, by simp, fun b hb hb' => ncx ((List.mem_singleton.mp hb).symm.trans (List.mem_singleton.mp hb')), fun b o _ e => s3 _ _ e, fun b hb => by
      rcases hb with hb | hb
      · rw [List.mem_singleton.mp hb, h4]; intro z; cases z
      · rw [List.mem_singleton.mp hb, h3]; intro z; cases z⟩
    have hm : MkAt (Cs.mk Z0 Z3 Z4 Z6 Z2 Z1 Z5) (w.add x (.w lo span) [c]) (t0 (Ua U [c] [x])) H3 x (.w lo span) := ⟨dx', c, fW lo span, N.un L.bi _ (.head _), hdp, fun s hs => by show sm (cnt w.bk _ s); rw [L.bk]; exact sm_of hok hwt hs, Nat.zero_le _, h3, N.dat _ (i := 0) rfl, h4, rfl⟩
    obtain ⟨r1, r2, r3, r4⟩ := L.fin L (.refl _ _ _) (fun _ _ _ e => e) s3 N (fun b hb => by
      rcases hb with hb | hb
      · rw [List.mem_singleton.mp hb]; exact hcH
      · rw [List.mem_singleton.mp hb]; exact hx) hm
    have := wt_pos (.w lo span)
    have hkc : kc (.w lo span) = 1 := rfl
    exact q x H3 _ _ xs r1 r2 r3 r4 (by omega) (.refl _ _ _)
  | t sg =>
    rw [kd] at hkd
    obtain ⟨v, hT, hv⟩ := den2 hkd
    have := den_str hv
    subst this
    refine ⟨_, hT, _, atI_nat (j := 0) rfl, scal_ss _ _, iteN (by decide +kernel) ⟨scal_ss _ _, iteY rfl ⟨_, hT, _, atI_nat (j := 1) rfl, fun x dx' hx hdx hne => ⟨x, dx', sg, rfl, upd_same, fun c H3 hc sb h3 h4 => ⟨rfl, ?_⟩⟩⟩⟩⟩
    have s3 := made_same hx hdx sb
    have hcH := upd_none (upd_none hc)
    have ncx : c ≠ x := fun z => by rw [z, upd_same] at hc; cases hc
    have N : New H H3 U x [c] [x] := ⟨fun b hb => by
      rcases hb with hb | hb
      · rw [List.mem_singleton.mp hb]; exact nU hcH
      · rw [List.mem_singleton.mp hb]; exact nU hx, .head _, by simp, fun b hb hb' => ncx ((List.mem_singleton.mp hb).symm.trans (List.mem_singleton.mp hb')), fun b o _ e => s3 _ _ e, fun b hb => by
      rcases hb with hb | hb
      · rw [List.mem_singleton.mp hb, h4]; intro z; cases z
      · rw [List.mem_singleton.mp hb, h3]; intro z; cases z⟩
    have hok' := hok
    rw [okS] at hok'
    have hm : MkAt (Cs.mk Z0 Z3 Z4 Z6 Z2 Z1 Z5) (w.add x (.t sg) [c]) (t0 (Ua U [c] [x])) H3 x (.t sg) := ⟨dx', c, fT sg, N.un L.bi _ (.head _), hdp, fun s hs => by show sm (cnt w.bk _ s); rw [L.bk]; exact sm_of hok hwt hs, Nat.zero_le _, h3, N.dat _ (i := 0) rfl, h4, rfl, hok'⟩
    obtain ⟨r1, r2, r3, r4⟩ := L.fin L (.refl _ _ _) (fun _ _ _ e => e) s3 N (fun b hb => by
      rcases hb with hb | hb
      · rw [List.mem_singleton.mp hb]; exact hcH
      · rw [List.mem_singleton.mp hb]; exact hx) hm
    have := wt_pos (.t sg)
    have hkc : kc (.t sg) = 1 := rfl
    exact q x H3 _ _ xs r1 r2 r3 r4 (by omega) (.refl _ _ _)
  | many p =>
    rw [kd] at hkd
    obtain ⟨v, hT, hv⟩ := den2 hkd
    refine ⟨_, hT, _, atI_nat (j := 0) rfl, scal_ss _ _, iteN (by decide +kernel) ⟨scal_ss _ _, iteN (by decide +kernel) (parts (.inr (.inr rfl)) _ _ fun D as H1 w1 U1 xs1 L1 G1 fr1 gD hU1 hD1 hra hxl1 nk1 => ?_)⟩⟩
    have nU1 : ∀ {b : Addr}, H1 b = none → ¬ U1 b := fun e z => L1.bi.al _ z e
    have hal : as.length = 1 := hra.1
    obtain ⟨a0, rfl⟩ : ∃ a0, as = [a0] := List.length_eq_one_iff.mp hal
    have hr0 := hra.2 0 a0 p rfl rfl
    refine ⟨scal_ss _ _, iteN (by decide +kernel) ⟨scal_ss _ _, iteN (by decide +kernel) ⟨scal_ss _ _, iteY rfl ⟨D, rfl, _, SqL.of hD1, _, atI_nat (j := 0) rfl, fun x dx' hx hdx hne => ⟨x, dx', a0, rfl, upd_same, fun c H3 hc sb h3 h4 => ⟨rfl, ?_⟩⟩⟩⟩⟩⟩
    have s3 := made_same hx hdx sb
    have hcH := upd_none (upd_none hc)
    have ncx : c ≠ x := fun z => by rw [z, upd_same] at hc; cases hc
    have N : New H1 H3 U1 x [c] [x] := ⟨fun b hb => by
      rcases hb with hb | hb
      · rw [List.mem_singleton.mp hb]; exact nU1 hcH
      · rw [List.mem_singleton.mp hb]; exact nU1 hx, .head _, by simp, fun b hb hb' => ncx ((List.mem_singleton.mp hb).symm.trans (List.mem_singleton.mp hb')), fun b o _ e => s3 _ _ e, fun b hb => by
      rcases hb with hb | hb
      · rw [List.mem_singleton.mp hb, h4]; intro z; cases z
      · rw [List.mem_singleton.mp hb, h3]; intro z; cases z⟩
    have hm : MkAt (Cs.mk Z0 Z3 Z4 Z6 Z2 Z1 Z5) (w1.add x (.many p) [c]) (t0 (Ua U1 [c] [x])) H3 x (.many p) := ⟨dx', c, fM a0, N.un L1.bi _ (.head _), by show _ ≤ w1.M; rw [G1.M]; exact hdp, fun s hs => by show sm (cnt w1.bk _ s); rw [L1.bk]; exact sm_of hok hwt hs, Nat.zero_le _, h3, N.dat _ (i := 0) rfl, h4, a0, rfl, (N.wg (H0 := fun _ => none) L1.bi _ fun _ _ => rfl).reg _ _ hr0⟩
    obtain ⟨r1, r2, r3, r4⟩ := L.fin L1 G1 fr1 s3 N (fun b hb => by
      rcases hb with hb | hb
      · rw [List.mem_singleton.mp hb]; exact L1.back fr1 hcH
      · rw [List.mem_singleton.mp hb]; exact L1.back fr1 hx) hm
    exact q x H3 _ _ xs1 r1 r2 r3 r4 (by rw [show kc (.many p) = 2 * wt (.many p) from rfl]; omega) nk1
  | row ps =>
    rw [kd] at hkd
    obtain ⟨v, hT, hv⟩ := den2 hkd
    have hok' := hok
    rw [okS] at hok'
    have hw' : wts ps + 1 = wt (.row ps) := subs_wt (sh := .row ps) (.inl rfl)
    refine ⟨_, hT, _, atI_nat (j := 0) rfl, scal_ss _ _, iteN (by decide +kernel) ⟨scal_ss _ _, iteN (by decide +kernel) (parts (.inl rfl) _ _ fun D as H1 w1 U1 xs1 L1 G1 fr1 gD hU1 hD1 hra hxl1 nk1 => ?_)⟩⟩
    have nU1 : ∀ {b : Addr}, H1 b = none → ¬ U1 b := fun e z => L1.bi.al _ z e
    have hal : as.length = ps.length := hra.1
    refine ⟨scal_ss _ _, iteY rfl fun x dx' hx hdx hne => ⟨x, dx', D, as, rfl, upd_same, by rw [upd_ne (ne_of_none hD1 hx), upd_ne (ne_of_none hD1 hdx)]; exact hD1, by omega, fun c T dt Lw ws H3 hc hT3 hL hws hnd hwl sb h3 h4 hTT hLL hww => ⟨rfl, ?_⟩⟩⟩
    have s3 := made_same hx hdx sb
    have fr : ∀ {b : Addr}, upd (upd H1 dx' (.own x)) x (.ins Z4 dx' []) b = none → H1 b = none := fun e => upd_none (upd_none e)
    have fos : ∀ b ∈ c :: ws, H1 b = none := fun b hb => by
      rcases List.mem_cons.mp hb with rfl | hb
      · exact fr hc
      · exact fr (hws b hb)
    have los : ∀ b ∈ c :: ws, H3 b = some (.lst []) := fun b hb => by
      rcases List.mem_cons.mp hb with rfl | hb
      · exact h4
      · exact hww b hb
    have N : New H1 H3 U1 x (c :: ws) [x, D, T, Lw] := by
      refine ⟨fun b hb => ?_, .head _, hnd, fun b hb hb' => ?_, fun b o _ e => s3 _ _ e, fun b hb => ?_⟩
      · rcases hb with hb | hb
        · exact nU1 (fos b hb)
        · simp only [List.mem_cons, List.not_mem_nil, or_false] at hb
          rcases hb with rfl | rfl | rfl | rfl
          · exact nU1 hx
          · exact hU1
          · exact nU1 (fr hT3)
          · exact nU1 (fr hL)
      · have e1 := los b hb
        have e2 := fos b hb
        simp only [List.mem_cons, List.not_mem_nil, or_false] at hb'
        rcases hb' with rfl | rfl | rfl | rfl
        · rw [h3] at e1; cases e1
        · rw [hD1] at e2; cases e2
        · rw [hTT] at e1; cases e1
        · rw [hLL] at e1
          injection e1 with e1
          injection e1 with e1
          have := congrArg List.length e1
          rw [List.length_map, hwl] at this
          simp at this
      · rcases hb with hb | hb
        · rw [los b hb]; intro z; cases z
        · simp only [List.mem_cons, List.not_mem_nil, or_false] at hb
          rcases hb with rfl | rfl | rfl | rfl
          · rw [h3]; intro z; cases z
          · rw [s3 _ _ hD1]; intro z; cases z
          · rw [hTT]; intro z; cases z
          · rw [hLL]; intro z; cases z
    have hm : MkAt (Cs.mk Z0 Z3 Z4 Z6 Z2 Z1 Z5) (w1.add x (.row ps) (c :: ws)) (t0 (Ua U1 (c :: ws) [x, D, T, Lw])) H3 x (.row ps) := by
      refine ⟨dx', c, fR D T, N.un L1.bi _ (.head _), by show _ ≤ w1.M; rw [G1.M]; exact hdp, fun s hs => by show sm (cnt w1.bk _ s); rw [L1.bk]; exact sm_of hok hwt hs, Nat.zero_le _, h3, N.dat _ (i := 0) rfl, h4, D, T, dt, Lw, as, ws, rfl, N.un L1.bi _ (.tail _ (.head _)), N.un L1.bi _ (.tail _ (.tail _ (.head _))), N.un L1.bi _ (.tail _ (.tail _ (.tail _ (.head _)))), s3 _ _ hD1, hra.grow (N.wg (H0 := fun _ => none) L1.bi _ fun _ _ => rfl), by omega, hTT, hLL, by omega, fun i y hy => ⟨N.dat _ (i := i + 1) (by simpa using hy), Nat.le_refl _, Nat.zero_le _, hww y (List.mem_of_getElem? hy)⟩, fun i s hs => ?_⟩
      show sm (rowc w1.bk _ s)
      rw [L1.bk]
      have := wts_drop ps i
      exact sm_row (okS_drop i hok'.2) (by omega) hs
    obtain ⟨r1, r2, r3, r4⟩ := L.fin L1 G1 fr1 s3 N (fun b hb => by
      rcases hb with hb | hb
      · exact L1.back fr1 (fos b hb)
      · simp only [List.mem_cons, List.not_mem_nil, or_false] at hb
        rcases hb with rfl | rfl | rfl | rfl
        · exact L1.back fr1 hx
        · exact gD
        · exact L1.back fr1 (fr hT3)
        · exact L1.back fr1 (fr hL)) hm
    exact q x H3 _ _ xs1 r1 r2 r3 r4 (by rw [show kc (.row ps) = 2 * wt (.row ps) from rfl]; omega) nk1
  | pick mk ps =>
    rw [kd] at hkd
    obtain ⟨v, hT, hv⟩ := den2 hkd
    have hok' := hok
    rw [okS] at hok'
    refine ⟨_, hT, _, atI_nat (j := 0) rfl, scal_ss _ _, iteN (by decide +kernel) ⟨scal_ss _ _, iteN (by decide +kernel) (parts (.inr (.inl rfl)) _ _ fun D as H1 w1 U1 xs1 L1 G1 fr1 gD hU1 hD1 hra hxl1 nk1 => ?_)⟩⟩
    have hal : as.length = ps.length := hra.1
    refine ⟨scal_ss _ _, iteN (by decide +kernel) ⟨scal_ss _ _, iteY rfl ?_⟩⟩
    have hkd1 := (dk_frb hk fr1 L.hd.at_).den
    rw [kd] at hkd1
    obtain ⟨v1, hT1, hv1⟩ := den2 hkd1
    obtain ⟨b, vs, rfl, hb, hvs⟩ := den_tup hv1
    obtain ⟨ts, bs, rfl, hl1, hl2, hts, hbs⟩ := dens_kdp hok'.1 hvs
    have hlz : ((mk.zip bs).map fun p => (V.str (S p.1), V.ref p.2)).length = bs.length := by rw [List.length_map, List.length_zip]; omega
    refine tLC_pairsT (K := g.K) (b := b) (xs := ts.map V.ref) ((mk.zip bs).map fun p => (V.str (S p.1), V.ref p.2)) (mk.map fun m => V.str (S m)) (fun R r => by walk_at "rd"; exact ⟨_, hT1, _, atI_nat (j := 1) rfl, r⟩) hb ?_ (by rw [hlz, List.length_map]; omega) (by rw [List.length_map, List.length_map]; omega) (by rw [List.length_map]; omega) ?_ ?_
    · intro i x p hx hp
      rw [List.getElem?_map] at hx hp
      obtain ⟨T, hT', rfl⟩ := Option.map_eq_some_iff.mp hx
      obtain ⟨⟨m, b'⟩, hz, rfl⟩ := Option.map_eq_some_iff.mp hp
      rw [List.getElem?_zip_eq_some] at hz
      exact ⟨T, rfl, hts i T m b' hT' hz.1 hz.2⟩
    · intro i p y H' hp hy sm R r
      rw [List.getElem?_map] at hp hy
      obtain ⟨⟨m, b'⟩, hz, rfl⟩ := Option.map_eq_some_iff.mp hp
      rw [List.getElem?_zip_eq_some] at hz
      rw [hz.1] at hy
      have : V.str (S m) = y := Option.some.inj hy
      subst this
      walk_at "rd"
      exact r H' (.refl _)
    · intro M H2 gM s2 hM x dx' hx hdx hne
      have L2 := L1.same s2
      have nU1 : ∀ {b : Addr}, H2 b = none → ¬ U1 b := fun e z => L2.bi.al _ z e
      have hUM : ¬ U1 M := fun z => L1.bi.al _ z gM
      have hD2 := s2 _ _ hD1
      refine ⟨x, dx', M, D, rfl, upd_same, fun c H3 hc sb h3 h4 => ⟨rfl, ?_⟩⟩
      have s3 := made_same hx hdx sb
      have hcH := upd_none (upd_none hc)
      have N : New H2 H3 U1 x [c] [x, M, D] := by
        refine ⟨fun b hb => ?_, .head _, by simp, fun b hb hb' => ?_, fun b o _ e => s3 _ _ e, fun b hb => ?_⟩
        · rcases hb with hb | hb
          · rw [List.mem_singleton.mp hb]; exact nU1 hcH
          · simp only [List.mem_cons, List.not_mem_nil, or_false] at hb
            rcases hb with rfl | rfl | rfl
            · exact nU1 hx
            · exact hUM
            · exact hU1
        · have := List.mem_singleton.mp hb
          subst this
          simp only [List.mem_cons, List.not_mem_nil, or_false] at hb'
          rcases hb' with rfl | rfl | rfl
          · rw [h3] at h4; cases h4
          · rw [hM] at hcH; cases hcH
          · rw [hD2] at hcH; cases hcH
        · rcases hb with hb | hb
          · rw [List.mem_singleton.mp hb, h4]; intro z; cases z
          · simp only [List.mem_cons, List.not_mem_nil, or_false] at hb
            rcases hb with rfl | rfl | rfl
            · rw [h3]; intro z; cases z
            · rw [s3 _ _ hM]; intro z; cases z
            · rw [s3 _ _ hD2]; intro z; cases z
      have hm : MkAt (Cs.mk Z0 Z3 Z4 Z6 Z2 Z1 Z5) (w1.add x (.pick mk ps) [c]) (t0 (Ua U1 [c] [x, M, D])) H3 x (.pick mk ps) := ⟨dx', c, fP M D, N.un L2.bi _ (.head _), by show _ ≤ w1.M; rw [G1.M]; exact hdp, fun s hs => by show sm (cnt w1.bk _ s); rw [L1.bk]; exact sm_of hok hwt hs, Nat.zero_le _, h3, N.dat _ (i := 0) rfl, h4, M, D, as, rfl, N.un L2.bi _ (.tail _ (.head _)), N.un L2.bi _ (.tail _ (.tail _ (.head _))), s3 _ _ hM, s3 _ _ hD2, hra.grow (N.wg (H0 := fun _ => none) L2.bi _ fun _ _ => rfl), by omega⟩
      have fr2 : FrB d H H2 := fr1.trans (frb_of s2)
      obtain ⟨r1, r2, r3, r4⟩ := L.fin L2 G1 fr2 s3 N (fun b hb => by
        rcases hb with hb | hb
        · rw [List.mem_singleton.mp hb]; exact L2.back fr2 hcH
        · simp only [List.mem_cons, List.not_mem_nil, or_false] at hb
          rcases hb with rfl | rfl | rfl
          · exact L2.back fr2 hx
          · exact L1.back fr1 gM
          · exact gD) hm
      exact q x H3 _ _ xs1 r1 r2 r3 r4 (by rw [show kc (.pick mk ps) = 2 * wt (.pick mk ps) from rfl]; omega) nk1
  | _ => simp [kind] at hki
theorem MkAt.updp {C : Cs} {w : Wo} {t : Sw} {H : Hp} {p r cl dxp : Addr} {fp : List (Str × V)} {o : HO} {sh : Sh} {cp : Addr} (hp : H p = some (.ins cl dxp (mf cp fp))) (hD : w.D p = none) (n : r ≠ p) (h : MkAt C w t H r sh) : MkAt C w t (upd H p o) r sh := by
  obtain ⟨dx, c, fs, h1, h2, h3, h4, h5, h6, h7, h8⟩ := h
  have no : ∀ {b : Addr} {x : Addr × Nat}, w.D b = some x → b ≠ p := fun e z => by rw [z, hD] at e; cases e
  have nl : ∀ {b : Addr} {vs : List V}, H b = some (.lst vs) → b ≠ p := fun e z => by rw [z, hp] at e; cases e
  refine ⟨dx, c, fs, h1, h2, h3, h4, (upd_ne n).trans h5, h6, (upd_ne (no h6)).trans h7, ?_⟩
  cases sh with
  | w lo span => exact h8
  | t sg => exact h8
  | row ps =>
    obtain ⟨P, T, dt, L, as, ws, k1, k2, k3, k4, k5, k6, k7, k8, k9, k10, k11, k12⟩ := h8
    have nT : T ≠ p := fun z => by
      rw [z, hp] at k8
      have e := Option.some.inj k8
      injection e with _ _ e
      unfold mf fTab at e
      injection e with e _
      injection e with e _
      exact n1 (a := ("counts" : Str)) (b := ("parts" : Str)) (by decide +kernel) e
    refine ⟨P, T, dt, L, as, ws, k1, k2, k3, k4, (upd_ne (nl k5)).trans k5, k6, k7, (upd_ne nT).trans k8, (upd_ne (nl k9)).trans k9, k10, fun i x hx => ?_, k12⟩
    obtain ⟨j1, j2, j3, j4⟩ := k11 i x hx
    exact ⟨j1, j2, j3, (upd_ne (no j1)).trans j4⟩
  | pick mk ps =>
    obtain ⟨M, P, as, k1, k2, k3, k4, k5, k6, k7⟩ := h8
    exact ⟨M, P, as, k1, k2, k3, (upd_ne (nl k4)).trans k4, (upd_ne (nl k5)).trans k5, k6, k7⟩
  | many q => exact h8
  | alike _ _ => exact h8
  | use x => exact h8
theorem BI.close {C : Cs} {w : Wo} {U O O' : Addr → Prop} {H : Hp} (B : BI C w U O' H) {p q : Addr} {x : List Nat} (hO : ∀ r, r ≠ p → (O' r ↔ O r)) (hp' : O' p) (hr : w.reg p = some (.use x)) (hq : w.reg q = some (w.bk x)) : ∃ dx c, H p = some (.ins C.use dx (mf c (fU .non))) ∧ (¬ O p → BI C w U O (upd H p (.ins C.use dx (mf c (fU (.ref q)))))) := by
  obtain ⟨x', dx, c, e1, e2, e3, e4, e5, e6⟩ := B.op p hp'
  rw [hr] at e1
  have := Sh.use.inj (Option.some.inj e1)
  subst this
  refine ⟨dx, c, e4, fun nO => ⟨fun r s hrs ho => ?_, fun r hor => ?_, fun b hb => ?_, B.ow, B.oo, B.inj⟩⟩
  · by_cases cc : r = p
    · subst cc
      rw [hr] at hrs
      have := Option.some.inj hrs
      subst this
      have ncp : c ≠ r := fun z => by rw [z, e2.1] at e5; cases e5
      exact ⟨dx, c, _, e2, by simp [dep], e3, Nat.zero_le _, upd_same, e5, (upd_ne ncp).trans e6, q, rfl, hq⟩
    · exact (B.at_ r s hrs fun z => ho ((hO r cc).mp z)).updp e4 e2.1 cc
  · have cc : r ≠ p := fun z => nO (by rw [← z]; exact hor)
    obtain ⟨y, dy, cy, f1, f2, f3, f4, f5, f6⟩ := B.op r ((hO r cc).mpr hor)
    have ncp : cy ≠ p := fun z => by rw [z, e2.1] at f5; cases f5
    exact ⟨y, dy, cy, f1, f2, f3, (upd_ne cc).trans f4, f5, (upd_ne ncp).trans f6⟩
  · by_cases cc : b = p
    · rw [cc, upd_same]; intro z; cases z
    · rw [upd_ne cc]; exact B.al b hb
section
variable {P0 : Program} {w0 : World} {K : PySem.W.Frag} {C : Cs} {CL : Addr} {prs : Prs} {w : Wo} {U O O' : Addr → Prop} {H H' : Hp} {ls dx d B : Addr} {xs : Dx}
theorem LS.close (L : LS P0 w0 K C CL prs w U O' H ls dx d B xs) {p q : Addr} {x : List Nat} (hO : ∀ r, r ≠ p → (O' r ↔ O r)) (hp' : O' p) (nO : ¬ O p) (hr : w.reg p = some (.use x)) (hq : w.reg q = some (w.bk x)) (nls : ls ≠ p) : ∃ dxp c, H p = some (.ins C.use dxp (mf c (fU .non))) ∧ LS P0 w0 K C CL prs w U O (upd H p (.ins C.use dxp (mf c (fU (.ref q))))) ls dx d B xs := by
  obtain ⟨dxp, c, h1, h2⟩ := L.bi.close hO hp' hr hq
  have hk : ∀ b o, b ≠ p → H b = some o → upd H p (.ins C.use dxp (mf c (fU (.ref q)))) b = some o := fun b o n e => (upd_ne n).trans e
  have tk : TupK H (upd H p (.ins C.use dxp (mf c (fU (.ref q))))) := tupK_but hk h1 (by intro xs z; cases z) (by intro o v z; cases z)
  obtain ⟨vs, hB, _⟩ := L.hb
  exact ⟨dxp, c, h1, hk _ _ nls L.hl, L.hb.tupk tk fun o e => hk _ _ (ne_of hB h1 (by intro z; cases z)) e, L.hd.keep tk (hk _ _ (ne_of L.hd.at_ h1 (by intro z; cases z)) L.hd.at_), h2 nO, L.nd, L.nl, L.keys, L.bk⟩
theorem LS.put (L : LS P0 w0 K C CL prs w U O H ls dx d B xs) {a p : Addr} {sh : Sh} (hk : DK K H a (kd sh)) (hok : okS prs sh) (hn : lookD xs (kd sh) = none) (hl : xs.length < 1000) (hr : w.reg p = some sh) : LS P0 w0 K C CL prs w U O (upd H d (DDi P0 w0 d (xs ++ [(kd sh, a, p)]))) ls dx d B (xs ++ [(kd sh, a, p)]) := by
  have hkk : ∀ b o, b ≠ d → H b = some o → upd H d (DDi P0 w0 d (xs ++ [(kd sh, a, p)])) b = some o := fun b o n e => (upd_ne n).trans e
  have tk : TupK H (upd H d (DDi P0 w0 d (xs ++ [(kd sh, a, p)]))) := tupK_but hkk L.hd.at_ (by intro xs z; cases z) (by intro o v z; cases z)
  obtain ⟨vs, hB, _⟩ := L.hb
  refine ⟨hkk _ _ (ne_of L.hl L.hd.at_ (by intro z; cases z)) L.hl, L.hb.tupk tk fun o e => hkk _ _ (ne_of hB L.hd.at_ (by intro z; cases z)) e, L.hd.put hk hn hl, L.bi.keep fun b o hb e => hkk b o (fun z => L.nd (by rw [← z]; exact hb)) e, L.nd, L.nl, fun e he => ?_, L.bk⟩
  rcases List.mem_append.mp he with he | he
  · exact L.keys e he
  · have := List.mem_singleton.mp he
    subst this
    exact ⟨sh, rfl, hok, hr⟩
theorem LS.opened (L : LS P0 w0 K C CL prs w U O H ls dx d B xs) (s : Same H H') {p dxp c : Addr} {x : List Nat} (hx : H p = none) (hc : H c = none) (hok : okS prs (.use x)) (h3 : H' p = some (.ins C.use dxp (mf c (fU .non)))) (h4 : H' c = some (.lst [])) :
    LS P0 w0 K C CL prs (w.add p (.use x) [c]) (Ua U [c] [p]) (fun r => O r ∨ r = p) H' ls dx d B xs ∧ WG w (w.add p (.use x) [c]) U (Ua U [c] [p]) H ∧ (w.add p (.use x) [c]).reg p = some (.use x) := by
  have nU : ∀ {b : Addr}, H b = none → ¬ U b := fun e z => L.bi.al _ z e
  have N : New H H' U p [c] [p] := by
    refine ⟨fun b hb => ?_, .head _, by simp, fun b hb hb' => ?_, fun b o _ e => s _ _ e, fun b hb => ?_⟩
    · rcases hb with hb | hb
      · rw [List.mem_singleton.mp hb]; exact nU hc
      · rw [List.mem_singleton.mp hb]; exact nU hx
    · have e1 := List.mem_singleton.mp hb
      have e2 := List.mem_singleton.mp hb'
      rw [← e1, e2, h3] at h4
      cases h4
    · rcases hb with hb | hb
      · rw [List.mem_singleton.mp hb, h4]; intro z; cases z
      · rw [List.mem_singleton.mp hb, h3]; intro z; cases z
  have h0 : ∀ b, b ∈ [c] ∨ b ∈ [p] → H b = none := fun b hb => by
    rcases hb with hb | hb
    · rw [List.mem_singleton.mp hb]; exact hc
    · rw [List.mem_singleton.mp hb]; exact hx
  have G := N.wg L.bi (.use x) h0
  have nd : ∀ {z : Addr} {o : HO}, H z = some o → ¬ (z = c ∨ z = p) := fun e h => by
    rcases h with h | h
    · rw [h, hc] at e; cases e
    · rw [h, hx] at e; cases e
  have bi : BI C (w.add p (.use x) [c]) (Ua U [c] [p]) (fun r => O r ∨ r = p) H' := N.bi L.bi (fun r hr => ⟨fun z => z.resolve_right hr, .inl⟩) (fun z => absurd (.inr rfl) z) (fun _ => ⟨x, dxp, c, rfl, N.un L.bi _ (.head _), fun s' hs => by rw [L.bk]; exact sm_of hok (by simp [wt]) hs, h3, N.dat _ (i := 0) rfl, h4⟩)
  have out : ∀ {z : Addr} {o : HO}, H z = some o → ¬ U z → ¬ Ua U [c] [p] z := fun e hU h => by
    rcases h with h | h | h
    · exact hU h
    · exact nd e (.inl (List.mem_singleton.mp h))
    · exact nd e (.inr (List.mem_singleton.mp h))
  refine ⟨⟨s _ _ L.hl, L.hb.tupk (tupK_of s) fun o e => s _ _ e, L.hd.keep (tupK_of s) (s _ _ L.hd.at_), bi, out L.hd.at_ L.nd, out L.hl L.nl, fun e he => ?_, L.bk⟩, G, if_pos rfl⟩
  obtain ⟨s', h1, h2, h3⟩ := L.keys e he
  exact ⟨s', h1, h2, G.reg _ _ h3⟩
end
theorem nk_put {prs : Prs} {xs : Dx} {sh : Sh} {a p : Addr} {n : Nat} (hok : okS prs sh) (hn : lookD xs (kd sh) = none) (hd : dep sh < n) : NK prs xs (xs ++ [(kd sh, a, p)]) n := ⟨fun e v h => by
  rw [lookD_snoc _ _ _ _ _ hn, if_neg fun z => by rw [z, hn] at h; cases h]
  exact h, fun e h => by
  rw [lookD_snoc _ _ _ _ _ hn] at h
  by_cases c : e = kd sh
  · exact .inr ⟨sh, c, hok, hd⟩
  · rw [if_neg c] at h; exact .inl h⟩
theorem put_named (c : Addr) (v v' : V) : putF "named" v' (mf c (fU v)) = mf c (fU v') := by
  show putF "named" v' [(("counts" : Str), V.ref c), (("named" : Str), v)] = _
  simp only [putF, if_neg (n1 (a := ("counts" : Str)) (b := ("named" : Str)) (by decide +kernel))]; rfl
theorem Z1Q {k : Nat} {Z7 Z2 Z1 Z4 Z6 Z3 Z5 Z0 : Addr} (R : g.RawM Z7 "add_use" "Lister.add_use" Z15 ["self", "shape"]) (F_shape_of : g.Fn k "shape_of" ["book", "name"] (Z3S g.K)) (Z0a : g.Me k Z7 "maker_of" ["self", "shape"] (Z0h g.P g.w g.K (Cs.mk Z0 Z3 Z4 Z6 Z2 Z1 Z5) Z7 m)) {j_UseMaker___init__ : Nat} (Z3j : g.Ma j_UseMaker___init__ "UseMaker" Z5 ["self"] (Z46 (Cs.mk Z0 Z3 Z4 Z6 Z2 Z1 Z5))) (h_UseMaker___init__ : j_UseMaker___init__ + 1 ≤ k) (Zz : Cls g.K Z7) (ZE : NoAttr g.K Z7 "book") (Zw : NoAttr g.K Z7 "makers") (Zj : Cls g.K Z5) (Ze : NoAttr g.K Z5 "counts") (Zf : NoAttr g.K Z5 "named") : g.Me (k + 1) Z7 "add_use" ["self", "shape"] (Z1Y g.P g.w g.K (Cs.mk Z0 Z3 Z4 Z6 Z2 Z1 Z5) Z7 (m + 1)) := by
  refine R.me Z1P (fun vs H Q E h => by obtain ⟨prs, w, U, O, ls, dx, d, B, a, x, xs, rfl, L, hk, hok, hno, hxl, hl3, q⟩ := h; rfl) fun f_ cdv A outer s H vs Q E hr h => ?_
  obtain ⟨prs, w, U, O, ls, dx, d, B, a, x, xs, rfl, L, hk, hok, hno, hxl, hl3, q⟩ := h
  refine ⟨_, (@pss_cons _ _ _ _ _ (@ps_set _ _ (2) _ _ _ _ Z1P.nd rfl (Or.inl rfl) (@pe_ma0 _ _ _ _ _ _ _ _ _ _ Z3j hr (by omega) (by rfl) (by rfl) (by decide)) (by rfl) (by first | exact .inl rfl | exact .inr rfl | assumption)) (@pss_cons _ _ _ _ _ (@ps_dputD _ _ _ _ _ _ _ _ _ _ hr (@pe_fld _ _ _ _ _ (@pv _ 0 _ _ (by rfl) (by first | exact Or.inl rfl | exact Or.inr (Or.inl rfl) | exact Or.inr (Or.inr rfl)) (by decide) (by decide)) rfl) (@pv _ 1 _ _ (by rfl) (by first | exact Or.inl rfl | exact Or.inr (Or.inl rfl) | exact Or.inr (Or.inr rfl)) (by decide) (by decide)) (@pv _ 2 _ _ (by rfl) (by first | exact Or.inl rfl | exact Or.inr (Or.inl rfl) | exact Or.inr (Or.inr rfl)) (by decide) (by decide)) rfl) (@pss_one _ _ _ (@ps_fld _ _ _ _ _ _ _ _ (@pv _ 2 _ _ (by rfl) (by first | exact Or.inl rfl | exact Or.inr (Or.inl rfl) | exact Or.inr (Or.inr rfl)) (by decide) (by decide)) (@pe_me _ _ _ _ _ _ _ _ _ _ _ _ _ _ _ _ Z0a Zz hr (@pv _ 0 _ _ (by rfl) (by first | exact Or.inl rfl | exact Or.inr (Or.inl rfl) | exact Or.inr (Or.inr rfl)) (by decide) (by decide)) (@pa_cons _ _ _ _ _ (@pe_fn _ _ _ _ _ _ _ _ _ _ _ _ F_shape_of hr (@pa_cons _ _ _ _ _ (@pe_fld _ _ _ _ _ (@pv _ 0 _ _ (by rfl) (by first | exact Or.inl rfl | exact Or.inr (Or.inl rfl) | exact Or.inr (Or.inr rfl)) (by decide) (by decide)) rfl) (@pa_cons _ _ _ _ _ (@pe_ix _ _ _ _ _ _ _ ix_tup (@pv _ 1 _ _ (by rfl) (by first | exact Or.inl rfl | exact Or.inr (Or.inl rfl) | exact Or.inr (Or.inr rfl)) (by decide) (by decide)) pe_int (fun _ _ => rfl)) pa_nil (by rfl)) (by rfl)) (by omega) (by rfl) (by rfl) (by decide) (by rfl) (by rfl)) pa_nil (by rfl)) (by omega) (by rfl) (by rfl) (by rfl) (by rfl)) rfl)))), ?_⟩
  walk_at "rd"
  intro p dxp gp gdx hne
  refine ⟨p, dxp, rfl, upd_same, fun c H1 hc sb h3 h4 => ⟨rfl, ?_⟩⟩
  have s1 := made_same gp gdx sb
  have hcH := upd_none (upd_none hc)
  obtain ⟨L1, G1, hr1⟩ := L.opened (x := x) s1 gp hcH hok h3 h4
  have dk1 := hk.keep s1
  have L2 := L1.put dk1 hok hno (by omega) hr1
  have fr2 : FrB d H (upd H1 d (DDi g.P g.w d (xs ++ [(kd (.use x), a, p)]))) := fun b o hb e => by rw [upd_ne hb]; exact s1 _ _ e
  have dk2 := dk_frb hk fr2 L.hd.at_
  have hkd := dk2.den
  rw [kd] at hkd
  obtain ⟨v, hT2, hv⟩ := den2 hkd
  have := den_str hv
  subst this
  have hok' := hok
  rw [okS] at hok'
  obtain ⟨q0, hf0, hleaf⟩ := hok'
  have eb : bkO prs x = q0.2 := by rw [bkO, hf0]; rfl
  unfold sDPutD
  walk_at "rd"
  refine ⟨_, _, _, L1.hl, Zz, Zw, _, lf_makers _ _, d, rfl, xs, L1.hd, kd (.use x), dk1, hno, by omega, ?_⟩
  refine ⟨_, _, L2.hl, lf_no _ _ (by decide +kernel) (by decide +kernel), _, _, _, L2.hl, Zz, ZE, _, lf_book _ _, _, hT2, _, atI_nat (j := 1) rfl, prs, B, x, q0, rfl, L2.hb, hf0, fun b dkb => ?_⟩
  have hw0 : wt q0.2 = 1 := leaf_wt hleaf
  have hd0 : dep q0.2 = 0 := leaf_dep hleaf
  have hkc0 : kc q0.2 = 1 := by
    unfold kc
    rw [if_pos]
    revert hleaf
    cases q0.2 <;> intro hleaf <;> first | exact Nat.zero_le _ | exact Nat.le_refl _ | cases hleaf
  have hnm0 : nm q0.2 = 0 := by
    unfold nm
    rw [if_pos]
    revert hleaf
    cases q0.2 <;> intro hleaf <;> first | exact Nat.zero_le _ | exact Nat.le_refl _ | cases hleaf
  refine ⟨prs, _, _, _, ls, dx, d, B, b, q0.2, _, rfl, L2, dkb, leaf_ok hleaf, by omega, by omega, by rw [List.length_append, List.length_singleton]; omega, by omega, fun q' H3 w3 U3 xs3 L3 G3 fr3 hr3 hl3' nk3 => ?_⟩
  have np : p ≠ d := fun z => by rw [z, L.hd.at_] at gp; cases gp
  have nOp : ¬ O p := fun z => by
    obtain ⟨_, _, _, _, h, _⟩ := L.bi.op p z
    exact L.bi.al _ h.2 gp
  have hg3 := G3.reg _ _ hr1
  obtain ⟨dxp', c', hp3, L4⟩ := L3.close (p := p) (q := q') (x := x) (O := O) (fun r hr' => ⟨fun z => z.resolve_right hr', .inl⟩) (.inr rfl) nOp hg3 (by rw [L3.bk, eb]; exact hr3) (ne_of_none L.hl gp)
  have nk := (nk_put (a := a) (p := p) hok hno (show dep (.use x) < 1 by simp [dep])).trans (nk3.mono (by omega))
  refine ⟨_, _, _, hp3, Zj, Zf, lt1000 (show 2 ≤ 3 by decide), ?_⟩
  rw [put_named]
  refine q p _ w3 U3 xs3 L4 (G1.trans G3 fun z hz => ?_) (fun z o hz e => ?_) (nk3.1 _ _ (by rw [lookD_snoc _ _ _ _ _ hno, if_pos rfl])) ?_ nk
  · intro e
    exact hz (L2.back fr2 e)
  · rw [upd_ne (ne_of_none e gp)]
    exact fr3 _ _ hz (fr2 _ _ hz e)
  · rw [List.length_append, List.length_singleton] at hl3'
    omega
theorem kd_mark {K : PySem.W.Frag} {H : Hp} {a : Addr} {sh : Sh} (h : Den K H (.ref a) (kd sh)) : ∃ r, SqT K H a (.str (kdm (kd sh)) :: r) := by
  obtain ⟨ds, hd⟩ := kd_tup sh
  have hm : ∃ r, ds = .str (kdm (kd sh)) :: r := by
    cases sh <;> (rw [kd] at hd ⊢; injection hd with hd; exact ⟨_, hd.symm⟩)
  obtain ⟨r, rfl⟩ := hm
  rw [hd] at h
  obtain ⟨b, vs, e, h1, h2⟩ := den_tup h
  have := V.ref.inj e
  subst this
  obtain ⟨u, r', rfl, h3, _⟩ := dens_cons h2
  have := den_str h3
  subst this
  exact ⟨r', h1⟩
theorem Z1J {k : Nat} {Z7 Z2 Z1 Z4 Z6 Z3 Z5 Z0 : Addr} (R : g.RawM Z7 "maker_of" "Lister.maker_of" Z0V ["self", "shape"]) (Z3Y : g.Me k Z7 "add_use" ["self", "shape"] (Z1Y g.P g.w g.K (Cs.mk Z0 Z3 Z4 Z6 Z2 Z1 Z5) Z7 m)) (Z3v : g.Me k Z7 "new_maker" ["self", "shape"] (sp_new g.P g.w g.K (Cs.mk Z0 Z3 Z4 Z6 Z2 Z1 Z5) Z7 m)) (Zz : Cls g.K Z7) (ZE : NoAttr g.K Z7 "book") (Zw : NoAttr g.K Z7 "makers") : g.Me (k + 1) Z7 "maker_of" ["self", "shape"] (Z0h g.P g.w g.K (Cs.mk Z0 Z3 Z4 Z6 Z2 Z1 Z5) Z7 (m + 1)) := by
  refine R.me Z3t (fun vs H Q E h => by obtain ⟨prs, w, U, O, ls, dx, d, B, a, sh, xs, rfl, L, hk, hok, hdp, hwt, hxl, hnm, q⟩ := h; rfl) fun f_ cdv A outer s H vs Q E hr h => ?_
  obtain ⟨prs, w, U, O, ls, dx, d, B, a, sh, xs, rfl, L, hk, hok, hdp, hwt, hxl, hnm, q⟩ := h
  refine ⟨_, (@pss_cons _ _ _ _ _ (@ps_if _ _ _ _ _ _ _ _ (@pt_cmpR _ _ _ _ _ _ _ _ (op_notInDD hr) (@pv _ 1 _ _ (by rfl) (by first | exact Or.inl rfl | exact Or.inr (Or.inl rfl) | exact Or.inr (Or.inr rfl)) (by decide) (by decide)) (@pe_fld _ _ _ _ _ (@pv _ 0 _ _ (by rfl) (by first | exact Or.inl rfl | exact Or.inr (Or.inl rfl) | exact Or.inr (Or.inr rfl)) (by decide) (by decide)) rfl) rfl) (@pss_one _ _ _ (@ps_if _ _ _ _ _ _ _ _ (@pt_cmpR _ _ _ _ _ _ _ _ op_eq (@pe_ix _ _ _ _ _ _ _ ix_tup (@pv _ 1 _ _ (by rfl) (by first | exact Or.inl rfl | exact Or.inr (Or.inl rfl) | exact Or.inr (Or.inr rfl)) (by decide) (by decide)) pe_int (fun _ _ => rfl)) pe_str (nomark _)) (@pss_one _ _ _ (@ps_expr _ _ _ _ (@pe_me _ _ _ _ _ _ _ _ _ _ _ _ _ _ _ _ Z3Y Zz hr (@pv _ 0 _ _ (by rfl) (by first | exact Or.inl rfl | exact Or.inr (Or.inl rfl) | exact Or.inr (Or.inr rfl)) (by decide) (by decide)) (@pa_cons _ _ _ _ _ (@pv _ 1 _ _ (by rfl) (by first | exact Or.inl rfl | exact Or.inr (Or.inl rfl) | exact Or.inr (Or.inr rfl)) (by decide) (by decide)) pa_nil (by rfl)) (by omega) (by rfl) (by rfl) (by rfl) (by rfl)) (by rfl))) (@pss_one _ _ _ (@ps_dputD _ _ _ _ _ _ _ _ _ _ hr (@pe_fld _ _ _ _ _ (@pv _ 0 _ _ (by rfl) (by first | exact Or.inl rfl | exact Or.inr (Or.inl rfl) | exact Or.inr (Or.inr rfl)) (by decide) (by decide)) rfl) (@pv _ 1 _ _ (by rfl) (by first | exact Or.inl rfl | exact Or.inr (Or.inl rfl) | exact Or.inr (Or.inr rfl)) (by decide) (by decide)) (@pe_me _ _ _ _ _ _ _ _ _ _ _ _ _ _ _ _ Z3v Zz hr (@pv _ 0 _ _ (by rfl) (by first | exact Or.inl rfl | exact Or.inr (Or.inl rfl) | exact Or.inr (Or.inr rfl)) (by decide) (by decide)) (@pa_cons _ _ _ _ _ (@pv _ 1 _ _ (by rfl) (by first | exact Or.inl rfl | exact Or.inr (Or.inl rfl) | exact Or.inr (Or.inr rfl)) (by decide) (by decide)) pa_nil (by rfl)) (by omega) (by rfl) (by rfl) (by rfl) (by rfl)) rfl)))) pss_nil) (@pss_one _ _ _ (@ps_ret _ _ _ _ (@pe_dgetD _ _ _ _ _ _ _ hr (@pe_fld _ _ _ _ _ (@pv _ 0 _ _ (by rfl) (by first | exact Or.inl rfl | exact Or.inr (Or.inl rfl) | exact Or.inr (Or.inr rfl)) (by decide) (by decide)) rfl) (@pv _ 1 _ _ (by rfl) (by first | exact Or.inl rfl | exact Or.inr (Or.inl rfl) | exact Or.inr (Or.inr rfl)) (by decide) (by decide)) (fun _ _ => rfl))))), ?_⟩
  walk_at "rd"
  refine ⟨_, _, _, L.hl, Zz, Zw, _, lf_makers _ _, d, rfl, xs, L.hd, kd sh, hk, ?_⟩
  have wp := wt_pos sh
  cases hlk : lookD xs (kd sh) with
  | some p =>
    refine iteN (by simp) ?_
    unfold tDGetD
    walk_at "rd"
    exact ⟨_, _, _, L.hl, Zz, Zw, _, lf_makers _ _, d, rfl, xs, L.hd, kd sh, hk, p, hlk, q p H w U xs L (.refl _ _ _) (fun _ _ _ e => e) (L.reg hok hlk) (by omega) (.refl _ _ _)⟩
  | none =>
    refine iteY rfl ?_
    obtain ⟨r, hT⟩ := kd_mark hk.den
    refine ⟨_, hT, _, atI_nat (j := 0) rfl, scal_ss _ _, ?_⟩
    by_cases c : ∃ x, sh = .use x
    · obtain ⟨x, rfl⟩ := c
      have e5 : nm (.use x) = 2 := by simp [nm, kind, dep]
      have e6 : wt (.use x) = 1 := by simp [wt]
      have e8 : kc (.use x) = 2 := by simp [kc, kind, wt]
      have e7 : dep (.use x) = 0 := by simp [dep]
      refine iteY (by rw [kd]; rfl) ⟨_, _, L.hl, lf_no _ _ (by decide +kernel) (by decide +kernel), prs, w, U, O, ls, dx, d, B, a, x, xs, rfl, L, hk, hok, hlk, by omega, by omega, fun p H' w' U' xs' L' G' fr' hl' hlen nk => ?_⟩
      unfold tDGetD
      walk_at "rd"
      exact ⟨_, _, _, L'.hl, Zz, Zw, _, lf_makers _ _, d, rfl, xs', L'.hd, kd (.use x), dk_frb hk fr' L.hd.at_, p, hl', q p H' w' U' xs' L' G' fr' (L'.reg hok hl') (by omega) (nk.mono (by omega))⟩
    · have hki : kind sh ≤ 4 := by
        cases sh with
        | use x => exact absurd ⟨x, rfl⟩ c
        | alike p n => rw [okS] at hok; cases hok
        | _ => simp [kind]
      refine iteN (fun z => c ?_) ?_
      · have z := V.str.inj z
        cases sh with
        | use x => exact ⟨x, rfl⟩
        | _ => exact absurd z (by simp only [kd, kdm]; decide +kernel)
      · unfold sDPutD
        walk_at "rd"
        refine ⟨_, _, L.hl, lf_no _ _ (by decide +kernel) (by decide +kernel), prs, w, U, O, ls, dx, d, B, a, sh, xs, rfl, L, hk, hok, hki, hdp, hwt, hxl, by omega, fun p H1 w1 U1 xs1 L1 G1 fr1 hr1 hl1 nk1 => ?_⟩
        have dk1 := dk_frb hk fr1 L.hd.at_
        have hn1 : lookD xs1 (kd sh) = none := by
          cases e : lookD xs1 (kd sh) with
          | none => rfl
          | some p' =>
            exfalso
            rcases nk1.2 (kd sh) (by rw [e]; intro z; cases z) with z | ⟨s', z1, z2, z3⟩
            · exact z hlk
            · rw [kd_inj hok z2 z1] at z3; omega
        have L2 := L1.put dk1 hok hn1 (by omega) hr1
        have fr2 : FrB d H (upd H1 d (DDi g.P g.w d (xs1 ++ [(kd sh, a, p)]))) := fun b o hb e => by rw [upd_ne hb]; exact fr1 _ _ hb e
        refine ⟨_, _, _, L1.hl, Zz, Zw, _, lf_makers _ _, d, a, xs1, kd sh, p, rfl, rfl, rfl, L1.hd, dk1, hn1, by omega, ?_⟩
        unfold tDGetD
        walk_at "rd"
        refine ⟨_, _, _, L2.hl, Zz, Zw, _, lf_makers _ _, d, rfl, _, L2.hd, kd sh, dk_frb hk fr2 L.hd.at_, p, by rw [lookD_snoc _ _ _ _ _ hn1, if_pos rfl], q p _ w1 U1 _ L2 G1 fr2 hr1 ?_ ((nk1.mono (by omega)).trans (nk_put hok hn1 (by omega)))⟩
        rw [List.length_append, List.length_singleton]
        omega
def MW (C : Cs) (prs : Prs) (M : Nat) (H H' : Hp) (p : Addr) (sh : Sh) : Prop := ∃ (w : Wo) (U : Addr → Prop), WI C w (t0 U) H' ∧ w.reg p = some sh ∧ w.bk = bkO prs ∧ w.M = M ∧ Same H H' ∧ ∀ b, U b → H b = none
def Z21 (K : PySem.W.Frag) (C : Cs) : Sp := fun vs H Q _ => ∃ (prs : Prs) (B a : Addr) (sh : Sh), vs = [.ref B, .ref a] ∧ BkAt K H B prs ∧ DK K H a (kd sh) ∧ okS prs sh ∧ wt sh ≤ 400 ∧ nm sh + 2 ≤ 20 ∧ ∀ p H', MW C prs (dep sh) H H' p sh → Q (.ref p) H'
theorem ok_maker_for {k : Nat} {Z7 Z2 Z1 Z4 Z6 Z3 Z5 Z0 : Addr} (R : g.Raw "maker_for" "maker_for" Z25 ["book", "shape"]) {j_Lister___init__ : Nat} (Z3I : g.Ma j_Lister___init__ "Lister" Z7 ["self", "book"] (Z48 g.P g.w Z7)) (h_Lister___init__ : j_Lister___init__ + 1 ≤ k) (Z0a : g.Me k Z7 "maker_of" ["self", "shape"] (Z0h g.P g.w g.K (Cs.mk Z0 Z3 Z4 Z6 Z2 Z1 Z5) Z7 20)) (Zz : Cls g.K Z7) (ZE : NoAttr g.K Z7 "book") (Zw : NoAttr g.K Z7 "makers") : g.Fn (k + 1) "maker_for" ["book", "shape"] (Z21 g.K (Cs.mk Z0 Z3 Z4 Z6 Z2 Z1 Z5)) := by
  refine R.fn sc_maker_for (fun vs H Q E h => by obtain ⟨prs, B, a, sh, rfl, hB, hk, hok, hwt, hnm, q⟩ := h; rfl) fun f_ cdv A outer s H vs Q E hr h => ?_
  obtain ⟨prs, B, a, sh, rfl, hB, hk, hok, hwt, hnm, q⟩ := h
  refine ⟨_, (@pss_one _ _ _ (@ps_ret _ _ _ _ (@pe_me _ _ _ _ _ _ _ _ _ _ _ _ _ _ _ _ Z0a Zz hr (@pe_ma _ _ _ _ _ _ _ _ _ _ _ _ _ Z3I hr (@pa_cons _ _ _ _ _ (@pv _ 0 _ _ (by rfl) (by first | exact Or.inl rfl | exact Or.inr (Or.inl rfl) | exact Or.inr (Or.inr rfl)) (by decide) (by decide)) pa_nil (by rfl)) (by omega) (by rfl) (by rfl) (by decide) (by rfl) (by rfl)) (@pa_cons _ _ _ _ _ (@pv _ 1 _ _ (by rfl) (by first | exact Or.inl rfl | exact Or.inr (Or.inl rfl) | exact Or.inr (Or.inr rfl)) (by decide) (by decide)) pa_nil (by rfl)) (by omega) (by rfl) (by rfl) (by rfl) (by rfl)))), ?_⟩
  walk_at "rd"
  intro ls dxl gl gdl hne
  refine ⟨ls, dxl, .ref B, rfl, upd_same, fun d H1 gd sb h1 h2 => ⟨rfl, _, _, h1, lf_no _ _ (by decide +kernel) (by decide +kernel), ?_⟩⟩
  have s1 := made_same gl gdl sb
  have gd' := upd_none (upd_none gd)
  have hkc := kc_le sh
  have bi : BI (Cs.mk Z0 Z3 Z4 Z6 Z2 Z1 Z5) ⟨bkO prs, fun _ => none, fun _ => none, dep sh⟩ (fun _ => False) (fun _ => False) H1 := ⟨fun p s' h => (by cases h), fun p h => h.elim, fun b h => h.elim, fun b x h => (by cases h), fun b q i h => (by cases h), fun b b' x h => (by cases h)⟩
  have L1 : LS g.P g.w g.K (Cs.mk Z0 Z3 Z4 Z6 Z2 Z1 Z5) Z7 prs ⟨bkO prs, fun _ => none, fun _ => none, dep sh⟩ (fun _ => False) (fun _ => False) H1 ls dxl d B [] := ⟨h1, hB.tupk (tupK_of s1) fun o e => s1 _ _ e, dictD_new h2, bi, fun z => z, fun z => z, fun e he => (by cases he), rfl⟩
  refine ⟨prs, _, _, _, ls, dxl, d, B, a, sh, [], rfl, L1, hk.keep s1, hok, Nat.le_refl _, by omega, by rw [List.length_nil]; omega, hnm, fun p H2 w2 U2 xs2 L2 G2 fr2 hr2 _ _ => q p H2 ⟨w2, U2, L2.bi.wi fun _ h => h, hr2, L2.bk, G2.M, fun b o e => fr2 _ _ (ne_of_none e gd') (s1 _ _ e), fun b hb => ?_⟩⟩
  rcases G2.u2 b hb with z | z
  · exact z.elim
  · exact s1.free z
theorem ready0 (w : Wo) (U : Addr → Prop) (s d : Nat) : Ready w (t0 U) s d := fun p sh _ _ i => rfl
def Z3w (K : PySem.W.Frag) (C : Cs) (lv : Nat) : Sp := fun vs H Q _ => ∃ (prs : Prs) (B a : Addr) (sh : Sh) (n : Nat), vs = [.ref B, .ref a, .int n] ∧ BkAt K H B prs ∧ DK K H a (kd sh) ∧ okS prs sh ∧ wt sh ≤ 400 ∧ nm sh + 2 ≤ 20 ∧ n ≤ 40 ∧ 5 * (n * (dep sh + 1) + dep sh) + 5 ≤ lv ∧
  ∀ D H', Same H H' → H D = none → H' D = some (.lst (cnts (cnt (bkO prs) sh) (n + 1))) → Q (.ref D) H'
theorem ok_counts_to {k : Nat} {Z7 Z2 Z1 Z4 Z6 Z3 Z5 Z0 : Addr} (R : g.Raw "counts_to" "counts_to" Z26 ["book", "shape", "size"]) (Z0d : g.Fn k "maker_for" ["book", "shape"] (Z21 g.K (Cs.mk Z0 Z3 Z4 Z6 Z2 Z1 Z5))) (ZC : g.Me k Z0 "count_at" ["self", "size"] (Zt (Cs.mk Z0 Z3 Z4 Z6 Z2 Z1 Z5) 0 160)) (Zy : g.Me k Z3 "count_at" ["self", "size"] (Zt (Cs.mk Z0 Z3 Z4 Z6 Z2 Z1 Z5) 1 160)) (ZF : g.Me k Z4 "count_at" ["self", "size"] (Zt (Cs.mk Z0 Z3 Z4 Z6 Z2 Z1 Z5) 2 160)) (ZB : g.Me k Z2 "count_at" ["self", "size"] (Zt (Cs.mk Z0 Z3 Z4 Z6 Z2 Z1 Z5) 4 160)) (ZD : g.Me k Z1 "count_at" ["self", "size"] (Zt (Cs.mk Z0 Z3 Z4 Z6 Z2 Z1 Z5) 3 160)) (ZG : g.Me k Z5 "count_at" ["self", "size"] (Zt (Cs.mk Z0 Z3 Z4 Z6 Z2 Z1 Z5) 5 160)) (ZA : g.mg "range" = none) (Zc : Cls g.K Z2) (Zb : NoAttr g.K Z2 "counts") (Zh : NoAttr g.K Z2 "part") (Zi : Cls g.K Z1) (Za : NoAttr g.K Z1 "counts") (Zo : NoAttr g.K Z1 "marks") (Zn : NoAttr g.K Z1 "parts") (Zq : Cls g.K Z4) (Zd : NoAttr g.K Z4 "counts") (Zs : NoAttr g.K Z4 "parts") (Zp : NoAttr g.K Z4 "table") (Zk : Cls g.K Z3) (Z9 : NoAttr g.K Z3 "counts") (Zm : NoAttr g.K Z3 "signs") (Zj : Cls g.K Z5) (Ze : NoAttr g.K Z5 "counts") (Zf : NoAttr g.K Z5 "named") (Zg : Cls g.K Z0) (Z8 : NoAttr g.K Z0 "counts") (Zr : NoAttr g.K Z0 "low") (Zl : NoAttr g.K Z0 "span") : g.Fn (k + 1) "counts_to" ["book", "shape", "size"] (Z3w g.K (Cs.mk Z0 Z3 Z4 Z6 Z2 Z1 Z5) 160) := by
  refine R.fn Z3q (fun vs H Q E h => by obtain ⟨prs, B, a, sh, n, rfl, hB, hk, hok, hwt, hnm, hn, hlv, q⟩ := h; rfl) fun f_ cdv A outer s H vs Q E hr h => ?_
  obtain ⟨prs, B, a, sh, n, rfl, hB, hk, hok, hwt, hnm, hn, hlv, q⟩ := h
  refine ⟨_, (@pss_cons _ _ _ _ _ (@ps_set _ _ (3) _ _ _ _ Z3q.nd rfl (Or.inr rfl) (@pe_fn _ _ _ _ _ _ _ _ _ _ _ _ Z0d hr (@pa_cons _ _ _ _ _ (@pv _ 0 _ _ (by rfl) (by first | exact Or.inl rfl | exact Or.inr (Or.inl rfl) | exact Or.inr (Or.inr rfl)) (by decide) (by decide)) (@pa_cons _ _ _ _ _ (@pv _ 1 _ _ (by rfl) (by first | exact Or.inl rfl | exact Or.inr (Or.inl rfl) | exact Or.inr (Or.inr rfl)) (by decide) (by decide)) pa_nil (by rfl)) (by rfl)) (by omega) (by rfl) (by rfl) (by decide) (by rfl) (by rfl)) (by rfl) (by first | exact .inl rfl | exact .inr rfl | assumption)) (@pss_one _ _ _ (@ps_ret _ _ _ _ (@pe_lc _ _ _ _ _ _ _ ([none, some 3]) ((["each", "maker"] : List Str)) _ (gName 0) _ _ (.own (.cap (i := 3) rfl rfl (by first | exact Or.inl rfl | exact Or.inr rfl) .nil)) rfl (@pi_range1 _ _ _ _ _ _ rfl ZA (@pa_cons _ _ _ _ _ (@pe_op _ _ _ _ _ _ _ _ op_add (@pv _ 2 _ _ (by rfl) (by first | exact Or.inl rfl | exact Or.inr (Or.inl rfl) | exact Or.inr (Or.inr rfl)) (by decide) (by decide)) pe_int) pa_nil (by rfl)) (by rfl)) (fun cl C s₀ H₀ fp pn => (@pg_name _ _ (0) _ (show List.Nodup (["each", "maker"] : List Str) by decide +kernel) rfl (Or.inl rfl) (Or.inr rfl))) (fun cl C s₀ H₀ fp pn => pts_nil) (fun cl C s₀ H₀ fp pn => (@pe_either _ _ _ _ (@pe_me _ _ _ _ _ _ _ _ _ _ _ _ _ _ _ _ ZC Zg hr (@pv _ 1 _ _ (by rfl) (by first | exact Or.inl rfl | exact Or.inr (Or.inl rfl) | exact Or.inr (Or.inr rfl)) (by decide) (by decide)) (@pa_cons _ _ _ _ _ (@pv _ 0 _ _ (by rfl) (by first | exact Or.inl rfl | exact Or.inr (Or.inl rfl) | exact Or.inr (Or.inr rfl)) (by decide) (by decide)) pa_nil (by rfl)) (by omega) (by rfl) (by rfl) (by rfl) (by rfl)) (@pe_either _ _ _ _ (@pe_me _ _ _ _ _ _ _ _ _ _ _ _ _ _ _ _ Zy Zk hr (@pv _ 1 _ _ (by rfl) (by first | exact Or.inl rfl | exact Or.inr (Or.inl rfl) | exact Or.inr (Or.inr rfl)) (by decide) (by decide)) (@pa_cons _ _ _ _ _ (@pv _ 0 _ _ (by rfl) (by first | exact Or.inl rfl | exact Or.inr (Or.inl rfl) | exact Or.inr (Or.inr rfl)) (by decide) (by decide)) pa_nil (by rfl)) (by omega) (by rfl) (by rfl) (by rfl) (by rfl)) (@pe_either _ _ _ _ (@pe_me _ _ _ _ _ _ _ _ _ _ _ _ _ _ _ _ ZF Zq hr (@pv _ 1 _ _ (by rfl) (by first | exact Or.inl rfl | exact Or.inr (Or.inl rfl) | exact Or.inr (Or.inr rfl)) (by decide) (by decide)) (@pa_cons _ _ _ _ _ (@pv _ 0 _ _ (by rfl) (by first | exact Or.inl rfl | exact Or.inr (Or.inl rfl) | exact Or.inr (Or.inr rfl)) (by decide) (by decide)) pa_nil (by rfl)) (by omega) (by rfl) (by rfl) (by rfl) (by rfl)) (@pe_either _ _ _ _ (@pe_me _ _ _ _ _ _ _ _ _ _ _ _ _ _ _ _ ZB Zc hr (@pv _ 1 _ _ (by rfl) (by first | exact Or.inl rfl | exact Or.inr (Or.inl rfl) | exact Or.inr (Or.inr rfl)) (by decide) (by decide)) (@pa_cons _ _ _ _ _ (@pv _ 0 _ _ (by rfl) (by first | exact Or.inl rfl | exact Or.inr (Or.inl rfl) | exact Or.inr (Or.inr rfl)) (by decide) (by decide)) pa_nil (by rfl)) (by omega) (by rfl) (by rfl) (by rfl) (by rfl)) (@pe_either _ _ _ _ (@pe_me _ _ _ _ _ _ _ _ _ _ _ _ _ _ _ _ ZD Zi hr (@pv _ 1 _ _ (by rfl) (by first | exact Or.inl rfl | exact Or.inr (Or.inl rfl) | exact Or.inr (Or.inr rfl)) (by decide) (by decide)) (@pa_cons _ _ _ _ _ (@pv _ 0 _ _ (by rfl) (by first | exact Or.inl rfl | exact Or.inr (Or.inl rfl) | exact Or.inr (Or.inr rfl)) (by decide) (by decide)) pa_nil (by rfl)) (by omega) (by rfl) (by rfl) (by rfl) (by rfl)) (@pe_me _ _ _ _ _ _ _ _ _ _ _ _ _ _ _ _ ZG Zj hr (@pv _ 1 _ _ (by rfl) (by first | exact Or.inl rfl | exact Or.inr (Or.inl rfl) | exact Or.inr (Or.inr rfl)) (by decide) (by decide)) (@pa_cons _ _ _ _ _ (@pv _ 0 _ _ (by rfl) (by first | exact Or.inl rfl | exact Or.inr (Or.inl rfl) | exact Or.inr (Or.inr rfl)) (by decide) (by decide)) pa_nil (by rfl)) (by omega) (by rfl) (by rfl) (by rfl) (by rfl)))))))) (by intro x hx; simp at hx; first | (subst hx; exact Or.inl rfl) | (rcases hx with rfl | rfl <;> exact Or.inl rfl) | (rcases hx with rfl | rfl | rfl <;> exact Or.inl rfl) | (rcases hx with rfl | rfl | rfl | rfl <;> exact Or.inl rfl) | (rcases hx with rfl | rfl | rfl | rfl | rfl <;> exact Or.inl rfl)) (by rfl) (by decide) (by decide +kernel) (by intro _; rfl))))), ?_⟩
  walk_at "rd"
  refine ⟨prs, B, a, sh, rfl, hB, hk, hok, hwt, hnm, fun p H1 ⟨w, U, W, hg, hbk, hM, s1, hU⟩ => ?_⟩
  refine tLC_rangeI (n := n + 1) (fun D i zs H' => ∃ t', Tr (Cs.mk Z0 Z3 Z4 Z6 Z2 Z1 Z5) w (t0 U) H1 t' H' n (dep sh + 1) ∧ zs = cnts (cnt (bkO prs) sh) i ∧ H' D = some (.lst zs) ∧ ¬ t'.U D) (fun R r => by walk_at "rd"; exact r) (by omega) ?_ ?_ ?_ ?_
  · intro D hD
    exact ⟨t0 U, (Tr.refl W _ _).put hD (W.new hD).2 _, rfl, upd_same, (W.new hD).2⟩
  · rintro D i zs H' ⟨t', _, rfl, h2, _⟩
    exact ⟨cnts_len _ _, h2⟩
  · rintro D i zs H' hD hi ⟨t', T1, rfl, hd, hUD⟩ R r
    have dD : w.D D = none := (W.new hD).1
    have hf : fu w i (dep sh) + 5 ≤ 160 := by
      have := fu_le (w := w) (d := dep sh) (show i ≤ n by omega)
      unfold fu at this ⊢
      rw [hM] at this ⊢
      omega
    walk_at "rd"
    refine any_call T1.wi hg (by omega) hf (T1.ready (ready0 _ _ _ _)) fun t2 H2 T2 hn2 => ?_
    have T12 := T1.trans (T2.mono (by omega))
    have hd2 := T2.fr _ _ dD hd
    have hUD2 := T2.ours hUD hd
    exact r _ _ hd2 ⟨t2, T12.put hD hUD2 _, by rw [cnts_succ, hbk], upd_same, hUD2⟩
  · rintro D zs H' hD ⟨t', T1, rfl, hd, hUD⟩
    refine q D H' (fun b o e => T1.fr b o ?_ (s1 _ _ e)) (s1.free hD) hd
    cases z : w.D b with
    | none => rfl
    | some x =>
      have := hU b (W.ow b x z)
      rw [e] at this
      cases this
def Z49 (K : PySem.W.Frag) (C : Cs) (lv : Nat) : Sp := fun vs H Q _ => ∃ (prs : Prs) (B a : Addr) (sh : Sh) (n : Nat), vs = [.ref B, .ref a, .int n] ∧ BkAt K H B prs ∧ DK K H a (kd sh) ∧ okS prs sh ∧ wt sh ≤ 400 ∧ nm sh + 2 ≤ 20 ∧ n ≤ 40 ∧ 5 * (n * (dep sh + 1) + dep sh) + 5 ≤ lv ∧
  ∀ H', Same H H' → Q (.int (cnt (bkO prs) sh n)) H'
theorem ok_counted {k : Nat} {Z7 Z2 Z1 Z4 Z6 Z3 Z5 Z0 : Addr} (R : g.Raw "counted" "counted" Z3p ["book", "shape", "size"]) (Z0d : g.Fn k "maker_for" ["book", "shape"] (Z21 g.K (Cs.mk Z0 Z3 Z4 Z6 Z2 Z1 Z5))) (ZC : g.Me k Z0 "count_at" ["self", "size"] (Zt (Cs.mk Z0 Z3 Z4 Z6 Z2 Z1 Z5) 0 160)) (Zy : g.Me k Z3 "count_at" ["self", "size"] (Zt (Cs.mk Z0 Z3 Z4 Z6 Z2 Z1 Z5) 1 160)) (ZF : g.Me k Z4 "count_at" ["self", "size"] (Zt (Cs.mk Z0 Z3 Z4 Z6 Z2 Z1 Z5) 2 160)) (ZB : g.Me k Z2 "count_at" ["self", "size"] (Zt (Cs.mk Z0 Z3 Z4 Z6 Z2 Z1 Z5) 4 160)) (ZD : g.Me k Z1 "count_at" ["self", "size"] (Zt (Cs.mk Z0 Z3 Z4 Z6 Z2 Z1 Z5) 3 160)) (ZG : g.Me k Z5 "count_at" ["self", "size"] (Zt (Cs.mk Z0 Z3 Z4 Z6 Z2 Z1 Z5) 5 160)) (Zc : Cls g.K Z2) (Zb : NoAttr g.K Z2 "counts") (Zh : NoAttr g.K Z2 "part") (Zi : Cls g.K Z1) (Za : NoAttr g.K Z1 "counts") (Zo : NoAttr g.K Z1 "marks") (Zn : NoAttr g.K Z1 "parts") (Zq : Cls g.K Z4) (Zd : NoAttr g.K Z4 "counts") (Zs : NoAttr g.K Z4 "parts") (Zp : NoAttr g.K Z4 "table") (Zk : Cls g.K Z3) (Z9 : NoAttr g.K Z3 "counts") (Zm : NoAttr g.K Z3 "signs") (Zj : Cls g.K Z5) (Ze : NoAttr g.K Z5 "counts") (Zf : NoAttr g.K Z5 "named") (Zg : Cls g.K Z0) (Z8 : NoAttr g.K Z0 "counts") (Zr : NoAttr g.K Z0 "low") (Zl : NoAttr g.K Z0 "span") : g.Fn (k + 1) "counted" ["book", "shape", "size"] (Z49 g.K (Cs.mk Z0 Z3 Z4 Z6 Z2 Z1 Z5) 160) := by
  refine R.fn sc_counted (fun vs H Q E h => by obtain ⟨prs, B, a, sh, n, rfl, hB, hk, hok, hwt, hnm, hn, hlv, q⟩ := h; rfl) fun f_ cdv A outer s H vs Q E hr h => ?_
  obtain ⟨prs, B, a, sh, n, rfl, hB, hk, hok, hwt, hnm, hn, hlv, q⟩ := h
  refine ⟨_, (@pss_one _ _ _ (@ps_ret _ _ _ _ (@pe_either _ _ _ _ (@pe_me _ _ _ _ _ _ _ _ _ _ _ _ _ _ _ _ ZC Zg hr (@pe_fn _ _ _ _ _ _ _ _ _ _ _ _ Z0d hr (@pa_cons _ _ _ _ _ (@pv _ 0 _ _ (by rfl) (by first | exact Or.inl rfl | exact Or.inr (Or.inl rfl) | exact Or.inr (Or.inr rfl)) (by decide) (by decide)) (@pa_cons _ _ _ _ _ (@pv _ 1 _ _ (by rfl) (by first | exact Or.inl rfl | exact Or.inr (Or.inl rfl) | exact Or.inr (Or.inr rfl)) (by decide) (by decide)) pa_nil (by rfl)) (by rfl)) (by omega) (by rfl) (by rfl) (by decide) (by rfl) (by rfl)) (@pa_cons _ _ _ _ _ (@pv _ 2 _ _ (by rfl) (by first | exact Or.inl rfl | exact Or.inr (Or.inl rfl) | exact Or.inr (Or.inr rfl)) (by decide) (by decide)) pa_nil (by rfl)) (by omega) (by rfl) (by rfl) (by rfl) (by rfl)) (@pe_either _ _ _ _ (@pe_me _ _ _ _ _ _ _ _ _ _ _ _ _ _ _ _ Zy Zk hr (@pe_fn _ _ _ _ _ _ _ _ _ _ _ _ Z0d hr (@pa_cons _ _ _ _ _ (@pv _ 0 _ _ (by rfl) (by first | exact Or.inl rfl | exact Or.inr (Or.inl rfl) | exact Or.inr (Or.inr rfl)) (by decide) (by decide)) (@pa_cons _ _ _ _ _ (@pv _ 1 _ _ (by rfl) (by first | exact Or.inl rfl | exact Or.inr (Or.inl rfl) | exact Or.inr (Or.inr rfl)) (by decide) (by decide)) pa_nil (by rfl)) (by rfl)) (by omega) (by rfl) (by rfl) (by decide) (by rfl) (by rfl)) (@pa_cons _ _ _ _ _ (@pv _ 2 _ _ (by rfl) (by first | exact Or.inl rfl | exact Or.inr (Or.inl rfl) | exact Or.inr (Or.inr rfl)) (by decide) (by decide)) pa_nil (by rfl)) (by omega) (by rfl) (by rfl) (by rfl) (by rfl)) (@pe_either _ _ _ _ (@pe_me _ _ _ _ _ _ _ _ _ _ _ _ _ _ _ _ ZF Zq hr (@pe_fn _ _ _ _ _ _ _ _ _ _ _ _ Z0d hr (@pa_cons _ _ _ _ _ (@pv _ 0 _ _ (by rfl) (by first | exact Or.inl rfl | exact Or.inr (Or.inl rfl) | exact Or.inr (Or.inr rfl)) (by decide) (by decide)) (@pa_cons _ _ _ _ _ (@pv _ 1 _ _ (by rfl) (by first | exact Or.inl rfl | exact Or.inr (Or.inl rfl) | exact Or.inr (Or.inr rfl)) (by decide) (by decide)) pa_nil (by rfl)) (by rfl)) (by omega) (by rfl) (by rfl) (by decide) (by rfl) (by rfl)) (@pa_cons _ _ _ _ _ (@pv _ 2 _ _ (by rfl) (by first | exact Or.inl rfl | exact Or.inr (Or.inl rfl) | exact Or.inr (Or.inr rfl)) (by decide) (by decide)) pa_nil (by rfl)) (by omega) (by rfl) (by rfl) (by rfl) (by rfl)) (@pe_either _ _ _ _ (@pe_me _ _ _ _ _ _ _ _ _ _ _ _ _ _ _ _ ZB Zc hr (@pe_fn _ _ _ _ _ _ _ _ _ _ _ _ Z0d hr (@pa_cons _ _ _ _ _ (@pv _ 0 _ _ (by rfl) (by first | exact Or.inl rfl | exact Or.inr (Or.inl rfl) | exact Or.inr (Or.inr rfl)) (by decide) (by decide)) (@pa_cons _ _ _ _ _ (@pv _ 1 _ _ (by rfl) (by first | exact Or.inl rfl | exact Or.inr (Or.inl rfl) | exact Or.inr (Or.inr rfl)) (by decide) (by decide)) pa_nil (by rfl)) (by rfl)) (by omega) (by rfl) (by rfl) (by decide) (by rfl) (by rfl)) (@pa_cons _ _ _ _ _ (@pv _ 2 _ _ (by rfl) (by first | exact Or.inl rfl | exact Or.inr (Or.inl rfl) | exact Or.inr (Or.inr rfl)) (by decide) (by decide)) pa_nil (by rfl)) (by omega) (by rfl) (by rfl) (by rfl) (by rfl)) (@pe_either _ _ _ _ (@pe_me _ _ _ _ _ _ _ _ _ _ _ _ _ _ _ _ ZD Zi hr (@pe_fn _ _ _ _ _ _ _ _ _ _ _ _ Z0d hr (@pa_cons _ _ _ _ _ (@pv _ 0 _ _ (by rfl) (by first | exact Or.inl rfl | exact Or.inr (Or.inl rfl) | exact Or.inr (Or.inr rfl)) (by decide) (by decide)) (@pa_cons _ _ _ _ _ (@pv _ 1 _ _ (by rfl) (by first | exact Or.inl rfl | exact Or.inr (Or.inl rfl) | exact Or.inr (Or.inr rfl)) (by decide) (by decide)) pa_nil (by rfl)) (by rfl)) (by omega) (by rfl) (by rfl) (by decide) (by rfl) (by rfl)) (@pa_cons _ _ _ _ _ (@pv _ 2 _ _ (by rfl) (by first | exact Or.inl rfl | exact Or.inr (Or.inl rfl) | exact Or.inr (Or.inr rfl)) (by decide) (by decide)) pa_nil (by rfl)) (by omega) (by rfl) (by rfl) (by rfl) (by rfl)) (@pe_me _ _ _ _ _ _ _ _ _ _ _ _ _ _ _ _ ZG Zj hr (@pe_fn _ _ _ _ _ _ _ _ _ _ _ _ Z0d hr (@pa_cons _ _ _ _ _ (@pv _ 0 _ _ (by rfl) (by first | exact Or.inl rfl | exact Or.inr (Or.inl rfl) | exact Or.inr (Or.inr rfl)) (by decide) (by decide)) (@pa_cons _ _ _ _ _ (@pv _ 1 _ _ (by rfl) (by first | exact Or.inl rfl | exact Or.inr (Or.inl rfl) | exact Or.inr (Or.inr rfl)) (by decide) (by decide)) pa_nil (by rfl)) (by rfl)) (by omega) (by rfl) (by rfl) (by decide) (by rfl) (by rfl)) (@pa_cons _ _ _ _ _ (@pv _ 2 _ _ (by rfl) (by first | exact Or.inl rfl | exact Or.inr (Or.inl rfl) | exact Or.inr (Or.inr rfl)) (by decide) (by decide)) pa_nil (by rfl)) (by omega) (by rfl) (by rfl) (by rfl) (by rfl))))))))), ?_⟩
  have key : ∀ p H1, MW (Cs.mk Z0 Z3 Z4 Z6 Z2 Z1 Z5) prs (dep sh) H H1 p sh → Cal (Cs.mk Z0 Z3 Z4 Z6 Z2 Z1 Z5) (clsO (Cs.mk Z0 Z3 Z4 Z6 Z2 Z1 Z5) sh) (kind sh) 160 H1 p n Q := fun p H1 ⟨w, U, W, hg, hbk, hM, s1, hU⟩ => by
    obtain ⟨dx, c, fs, hU', hd, hsm, hns, hp, hDc, hc, hsub⟩ := W.at_ p sh hg
    have hf : fu w n (dep sh) + 5 ≤ 160 := by
      unfold fu
      rw [hM]
      omega
    refine ⟨dx, _, hp, sub_no (by decide +kernel) hsub, w, t0 U, p, sh, n, rfl, rfl, W, hg, by omega, hn, fun h => absurd h (Nat.not_lt_zero _), fun _ => ⟨hf, ready0 _ _ _ _, fun t' H' T1 _ => ?_⟩⟩
    rw [hbk]
    refine q H' fun b o e => T1.fr b o ?_ (s1 _ _ e)
    cases z : w.D b with
    | none => rfl
    | some x =>
      have := hU b (W.ow b x z)
      rw [e] at this
      cases this
  walk_at "rd"
  cases sh with
  | w lo span => exact .inl ⟨prs, B, a, _, rfl, hB, hk, hok, hwt, hnm, fun p H1 mw => ⟨p, rfl, key p H1 mw⟩⟩
  | t sg => exact .inr (.inl ⟨prs, B, a, _, rfl, hB, hk, hok, hwt, hnm, fun p H1 mw => ⟨p, rfl, key p H1 mw⟩⟩)
  | row ps => exact .inr (.inr (.inl ⟨prs, B, a, _, rfl, hB, hk, hok, hwt, hnm, fun p H1 mw => ⟨p, rfl, key p H1 mw⟩⟩))
  | many p => exact .inr (.inr (.inr (.inl ⟨prs, B, a, _, rfl, hB, hk, hok, hwt, hnm, fun p H1 mw => ⟨p, rfl, key p H1 mw⟩⟩)))
  | pick mk ps => exact .inr (.inr (.inr (.inr (.inl ⟨prs, B, a, _, rfl, hB, hk, hok, hwt, hnm, fun p H1 mw => ⟨p, rfl, key p H1 mw⟩⟩))))
  | use x => exact .inr (.inr (.inr (.inr (.inr ⟨prs, B, a, _, rfl, hB, hk, hok, hwt, hnm, fun p H1 mw => ⟨p, rfl, key p H1 mw⟩⟩))))
  | alike p n => rw [okS] at hok; cases hok
theorem SameBut.upd {p : Addr} {H H' : Hp} (a : SameBut p H H') (o : HO) : SameBut p H (L2.upd H' p o) := fun q u n h => by rw [upd_ne n]; exact a q u n h
theorem tFor_listY {g : TG} {tb : TS} {D : Ends} {σ : St} {H : Hp} {K : PySem.W.Frag} {tl : TE} (Pv : List V → Addr → Nat → St → Hp → Prop) (ha : ∀ R : V → Hp → Prop, (∀ ys c H1, Pv ys c 0 σ H1 → R (.ref c) H1) → tl σ H R) (hl : ∀ ys c i σ H, i ≤ ys.length → Pv ys c i σ H → SqL K H c ys)
    (hs : ∀ ys c (i : Nat) x σ H, ys[i]? = some x → Pv ys c i σ H → g x σ H fun σ2 H2 => tb { D with nx := Pv ys c (i + 1), ct := Pv ys c (i + 1), bk := D.nx } σ2 H2) (hd : ∀ ys c σ H, Pv ys c ys.length σ H → D.nx σ H) : tFor (iList K tl) g tb D σ H := by
  refine ha _ fun ys c H1 h0 => ⟨c, rfl, ⟨ys, hl ys c 0 σ H1 (Nat.zero_le _) h0⟩, ?_⟩
  exact for_list (Pv ys c) h0 (hl ys c) (hs ys c) (hd ys c)
def Z3x : Sp := fun vs H Q _ => ∃ i : Int, vs = [.int i] ∧ Q (.bl true) H
theorem ok_law_whole {Z7 Z2 Z1 Z4 Z6 Z3 Z5 Z0 : Addr} (R : g.Raw "_law_whole" "_law_whole" Z27 ["_law_found"]) (b_bool : g.mg "bool" = none) (b_int : g.mg "int" = none) (ZU : g.mg "isinstance" = none) : g.Fn (1) "_law_whole" ["_law_found"] (Z3x) := by
  refine R.fn sc_law_whole (fun vs H Q E h => by obtain ⟨i, rfl, q⟩ := h; rfl) fun f_ cdv A outer s H vs Q E hr h => ?_
  obtain ⟨i, rfl, q⟩ := h
  refine ⟨_, (@pss_one _ _ _ (@ps_ret _ _ _ _ (@pe_and _ _ _ _ _ _ _ (@pe_bf _ _ _ _ _ _ _ _ _ _ ZU call_isinst (@pa_cons _ _ _ _ _ (@pv _ 0 _ _ (by rfl) (by first | exact Or.inl rfl | exact Or.inr (Or.inl rfl) | exact Or.inr (Or.inr rfl)) (by decide) (by decide)) (@pa_cons _ _ _ _ _ (@pe_bn _ _ _ _ ("int") b_int (by decide +kernel) (by rfl) (by rfl) (by decide) (by decide)) pa_nil (by rfl)) (by rfl)) (by decide +kernel) (by rfl) (by rfl) (by decide) (by decide) (by rfl) (by rfl)) (@pe_one _ _ _ _ _ (@pe_not _ _ _ _ (@pe_bf _ _ _ _ _ _ _ _ _ _ ZU call_isinst (@pa_cons _ _ _ _ _ (@pv _ 0 _ _ (by rfl) (by first | exact Or.inl rfl | exact Or.inr (Or.inl rfl) | exact Or.inr (Or.inr rfl)) (by decide) (by decide)) (@pa_cons _ _ _ _ _ (@pe_bn _ _ _ _ ("bool") b_bool (by decide +kernel) (by rfl) (by rfl) (by decide) (by decide)) pa_nil (by rfl)) (by rfl)) (by decide +kernel) (by rfl) (by rfl) (by decide) (by decide) (by rfl) (by rfl))))))), ?_⟩
  walk_at "rd"
  exact ⟨_, rfl, _, .int _, true, rfl, iteT ⟨_, rfl, _, .int _, false, rfl, q⟩⟩
def Z4a (K : PySem.W.Frag) : Sp := fun vs H Q _ => ∃ (a : Addr) (ns : List Int) (k st : Nat), vs = [.ref a, .int k, .int st] ∧ SqL K H a (ns.map V.int) ∧ ns.length ≤ 63 ∧ k ≤ 60 ∧ 0 < st ∧ st ≤ 60 ∧ ∀ (x : Nat) H', x < 2 ^ 210 → Same H H' → Q (.int x) H'
theorem ok_law_mix {Z7 Z2 Z1 Z4 Z6 Z3 Z5 Z0 : Addr} (R : g.Raw "_law_mix" "_law_mix" Z3r ["_law_script", "_law_k", "_law_step"]) : g.Fn (1) "_law_mix" ["_law_script", "_law_k", "_law_step"] (Z4a g.K) := by
  refine R.fn Z1T (fun vs H Q E h => by obtain ⟨a, ns, k, st, rfl, hS, hl, hk, h0, hst, q⟩ := h; rfl) fun f_ cdv A outer s H vs Q E hr h => ?_
  obtain ⟨a, ns, k, st, rfl, hS, hl, hk, h0, hst, q⟩ := h
  refine ⟨_, (@pss_cons _ _ _ _ _ (@ps_set _ _ (3) _ _ _ _ Z1T.nd rfl (Or.inl rfl) (@pe_op _ _ _ _ _ _ _ _ op_add (@pe_op _ _ _ _ _ _ _ _ op_mulC (@pv _ 1 _ _ (by rfl) (by first | exact Or.inl rfl | exact Or.inr (Or.inl rfl) | exact Or.inr (Or.inr rfl)) (by decide) (by decide)) (@pv _ 1 _ _ (by rfl) (by first | exact Or.inl rfl | exact Or.inr (Or.inl rfl) | exact Or.inr (Or.inr rfl)) (by decide) (by decide))) pe_int) (by rfl) (by first | exact .inl rfl | exact .inr rfl | assumption)) (@pss_cons _ _ _ _ _ (@ps_for _ _ _ _ _ _ _ _ PassesOwn.never rfl (@pi_list _ _ _ _ (@pe_slStep _ _ _ _ _ _ _ _ _ (@pv _ 0 _ _ (by rfl) (by first | exact Or.inl rfl | exact Or.inr (Or.inl rfl) | exact Or.inr (Or.inr rfl)) (by decide) (by decide)) (@pv _ 1 _ _ (by rfl) (by first | exact Or.inl rfl | exact Or.inr (Or.inl rfl) | exact Or.inr (Or.inr rfl)) (by decide) (by decide)) (@pv _ 2 _ _ (by rfl) (by first | exact Or.inl rfl | exact Or.inr (Or.inl rfl) | exact Or.inr (Or.inr rfl)) (by decide) (by decide)))) (@pg_name _ _ (4) _ Z1T.nd rfl (Or.inl rfl) (by first | exact .inl rfl | exact .inr rfl | assumption)) (@pss_one _ _ _ (@ps_set _ _ (3) _ _ _ _ Z1T.nd rfl (Or.inl rfl) (@pe_op _ _ _ _ _ _ _ _ op_mod (@pe_op _ _ _ _ _ _ _ _ op_add (@pe_op _ _ _ _ _ _ _ _ op_mulC (@pv _ 3 _ _ (by rfl) (by first | exact Or.inl rfl | exact Or.inr (Or.inl rfl) | exact Or.inr (Or.inr rfl)) (by decide) (by decide)) pe_int) (@pe_op _ _ _ _ _ _ _ _ op_mod (@pv _ 4 _ _ (by rfl) (by first | exact Or.inl rfl | exact Or.inr (Or.inl rfl) | exact Or.inr (Or.inr rfl)) (by decide) (by decide)) (@pe_op _ _ _ _ _ _ _ _ op_add (@pe_op _ _ _ _ _ _ _ _ op_pow pe_int pe_int) pe_int))) (@pe_op _ _ _ _ _ _ _ _ op_add (@pe_op _ _ _ _ _ _ _ _ op_pow pe_int pe_int) pe_int)) (by rfl) (by first | exact .inl rfl | exact .inr rfl | assumption))) (by intro _; rfl)) (@pss_one _ _ _ (@ps_ret _ _ _ _ (@pv _ 3 _ _ (by rfl) (by first | exact Or.inl rfl | exact Or.inr (Or.inl rfl) | exact Or.inr (Or.inr rfl)) (by decide) (by decide)))))), ?_⟩
  walk_at "rd"
  refine ⟨.inl (cm (m := 8) (n := 8) (by rw [Int.natAbs_natCast]; omega) (by rw [Int.natAbs_natCast]; omega)), ?_⟩
  refine tFor_listY (K := g.K) (fun ys c i σ H' => (∀ v ∈ ys, v ∈ ns.map V.int) ∧ Same H H' ∧ H' c = some (.lst ys) ∧ ∃ (x : Nat) (o : Option V), σ = [some (.ref a), some (.int k), some (.int st), some (.int x), o] ∧ x < 2 ^ 210) (fun R r => ?_) (fun ys c i σ H' _ h => SqL.of h.2.2.1) ?_ ?_
  · walk_at "rd"
    refine ⟨by omega, by omega, _, hS, fun p ys hp hm hle => r ys p _ ⟨hm, .upd_new hp _, upd_same, k * k + 3, none, by rw [Int.natCast_add, Int.natCast_mul]; rfl, ?_⟩⟩
    have : k * k ≤ 60 * 60 := Nat.mul_le_mul hk hk
    exact Nat.lt_of_le_of_lt (show k * k + 3 ≤ 3603 by omega) (by decide)
  · rintro ys c i v σ H' hv ⟨hm, sm, hc, x, o, rfl, hx⟩
    obtain ⟨z, _, rfl⟩ := List.mem_map.mp (hm v (List.mem_of_getElem? hv))
    walk_at "rd"
    have hp : (0 : Int) < 10 ^ Int.toNat 61 + 51 := by decide +kernel
    obtain ⟨r, hr1, hr2⟩ := mod_nat ((x : Int) * 48271 + z % (10 ^ Int.toNat 60 + 7)) hp
    refine ⟨.inl (cm (m := 210) (n := 16) (by rw [Int.natAbs_natCast]; exact hx) (by decide)), cpow, by decide +kernel, cpow, hp, hm, sm, hc, r, hr1, ?_⟩
    have hb : (10 : Int) ^ Int.toNat 61 + 51 < ((2 ^ 210 : Nat) : Int) := by decide +kernel
    exact Int.ofNat_lt.mp (Int.lt_trans hr2 hb)
  · rintro ys c σ H' ⟨hm, sm, hc, x, o, rfl, hx⟩
    walk_at "rd"
    exact q x H' hx sm
def natVs (xs : List Nat) : List V := xs.map fun (x : Nat) => V.int (x : Int)
theorem natVs_len (xs : List Nat) : (natVs xs).length = xs.length := by simp [natVs]
def Feed (H : Hp) (D : Addr) : Prop := ∃ xs : List Nat, H D = some (.lst (natVs xs)) ∧ (∀ x ∈ xs, x < 2 ^ 210) ∧ xs.length ≤ 60
def Z3U (K : PySem.W.Frag) : Sp := fun vs H Q _ => ∃ (a : Addr) (ns : List Int) (n : Nat), vs = [.ref a, .int n] ∧ SqL K H a (ns.map V.int) ∧ ns.length ≤ 63 ∧ n ≤ 60 ∧ ∀ (D : Addr) H', Feed H' D → Q (.ref D) H'
theorem ok_law_feed {k : Nat} {Z7 Z2 Z1 Z4 Z6 Z3 Z5 Z0 : Addr} (R : g.Raw "_law_feed" "_law_feed" Z2G ["_law_script", "_law_many"]) (F_law_mix : g.Fn k "_law_mix" ["_law_script", "_law_k", "_law_step"] (Z4a g.K)) (ZA : g.mg "range" = none) : g.Fn (k + 1) "_law_feed" ["_law_script", "_law_many"] (Z3U g.K) := by
  refine R.fn sc_law_feed (fun vs H Q E h => by obtain ⟨a, ns, n, rfl, hS, hl, hn, q⟩ := h; rfl) fun f_ cdv A outer s H vs Q E hr h => ?_
  obtain ⟨a, ns, n, rfl, hS, hl, hn, q⟩ := h
  refine ⟨_, (@pss_one _ _ _ (@ps_ret _ _ _ _ (@pe_lc _ _ _ _ _ _ _ ([none, some 0, some 1]) ((["_law_k", "_law_script", "_law_many"] : List Str)) _ (gName 0) _ _ (.own (.cap (i := 0) rfl rfl (by first | exact Or.inl rfl | exact Or.inr rfl) (.cap (i := 1) rfl rfl (by first | exact Or.inl rfl | exact Or.inr rfl) .nil))) rfl (@pi_range1 _ _ _ _ _ _ rfl ZA (@pa_cons _ _ _ _ _ (@pv _ 1 _ _ (by rfl) (by first | exact Or.inl rfl | exact Or.inr (Or.inl rfl) | exact Or.inr (Or.inr rfl)) (by decide) (by decide)) pa_nil (by rfl)) (by rfl)) (fun cl C s₀ H₀ fp pn => (@pg_name _ _ (0) _ (show List.Nodup (["_law_k", "_law_script", "_law_many"] : List Str) by decide +kernel) rfl (Or.inl rfl) (Or.inr rfl))) (fun cl C s₀ H₀ fp pn => pts_nil) (fun cl C s₀ H₀ fp pn => (@pe_fn _ _ _ _ _ _ _ _ _ _ _ _ F_law_mix hr (@pa_cons _ _ _ _ _ (@pv _ 1 _ _ (by rfl) (by first | exact Or.inl rfl | exact Or.inr (Or.inl rfl) | exact Or.inr (Or.inr rfl)) (by decide) (by decide)) (@pa_cons _ _ _ _ _ (@pe_op _ _ _ _ _ _ _ _ op_sub (@pe_op _ _ _ _ _ _ _ _ op_sub (@pv _ 2 _ _ (by rfl) (by first | exact Or.inl rfl | exact Or.inr (Or.inl rfl) | exact Or.inr (Or.inr rfl)) (by decide) (by decide)) pe_int) (@pv _ 0 _ _ (by rfl) (by first | exact Or.inl rfl | exact Or.inr (Or.inl rfl) | exact Or.inr (Or.inr rfl)) (by decide) (by decide))) (@pa_cons _ _ _ _ _ (@pv _ 2 _ _ (by rfl) (by first | exact Or.inl rfl | exact Or.inr (Or.inl rfl) | exact Or.inr (Or.inr rfl)) (by decide) (by decide)) pa_nil (by rfl)) (by rfl)) (by rfl)) (by omega) (by rfl) (by rfl) (by decide) (by rfl) (by rfl))) (by intro x hx; simp at hx; first | (subst hx; exact Or.inl rfl) | (rcases hx with rfl | rfl <;> exact Or.inl rfl) | (rcases hx with rfl | rfl | rfl <;> exact Or.inl rfl) | (rcases hx with rfl | rfl | rfl | rfl <;> exact Or.inl rfl) | (rcases hx with rfl | rfl | rfl | rfl | rfl <;> exact Or.inl rfl)) (by rfl) (by decide) (by decide +kernel) (by intro _; rfl)))), ?_⟩
  walk_at "rd"
  refine tLC_rangeI (n := n) (fun D i zs H' => Same H H' ∧ H' D = some (.lst zs) ∧ ∃ xs : List Nat, zs = natVs xs ∧ (∀ x ∈ xs, x < 2 ^ 210) ∧ xs.length = i) (fun R r => by walk_at "rd"; exact r) (by omega) ?_ ?_ ?_ ?_
  · intro D hD
    exact ⟨.upd_new hD _, upd_same, [], rfl, fun x hx => absurd hx (by simp), rfl⟩
  · rintro D i zs H' ⟨sm, hd, xs, rfl, hx, he⟩
    exact ⟨by rw [natVs_len]; exact he, hd⟩
  · rintro D i zs H' hD hi ⟨sm, hd, xs, rfl, hx, he⟩ R r
    walk_at "rd"
    refine ⟨a, ns, n - 1 - i, n, by rw [show (n : Int) - 1 - (i : Int) = ((n - 1 - i : Nat) : Int) by omega], Same.seq sm hS, hl, by omega, by omega, hn, fun y H2 hy s2 => r _ _ (s2 _ _ hd) ⟨.upd_over hD (sm.trans s2) _, upd_same, xs ++ [y], by simp [natVs], ?_, by rw [List.length_append, he]; rfl⟩⟩
    intro x hx'
    rcases List.mem_append.mp hx' with h | h
    · exact hx x h
    · rw [List.mem_singleton.mp h]; exact hy
  · rintro D zs H' hD ⟨sm, hd, xs, rfl, hx, he⟩
    exact q D H' ⟨xs, hd, hx, by omega⟩
theorem Feed.new {H : Hp} {D p : Addr} {o : HO} (h : Feed H D) (hp : H p = none) : Feed (upd H p o) D := by
  obtain ⟨xs, h1, h2⟩ := h
  exact ⟨xs, by rw [upd_ne (ne_of_none h1 hp)]; exact h1, h2⟩
def Z0B (K : PySem.W.Frag) : Sp := fun vs H Q _ => ∃ (D : Addr), vs = [.ref D] ∧ Feed H D ∧ ∀ (y : Nat) H', y < 2 ^ 210 → SameBut D H H' → Feed H' D → Q (.int y) H'
theorem ok_law_next {Z7 Z2 Z1 Z4 Z6 Z3 Z5 Z0 : Addr} (R : g.Raw "_law_next" "_law_next" Z2H ["_law_feed_here"]) (b_len : g.mg "len" = none) : g.Fn (1) "_law_next" ["_law_feed_here"] (Z0B g.K) := by
  refine R.fn sc_law_next (fun vs H Q E h => by obtain ⟨D, rfl, ⟨xs, hD, hx, hl⟩, q⟩ := h; rfl) fun f_ cdv A outer s H vs Q E hr h => ?_
  obtain ⟨D, rfl, ⟨xs, hD, hx, hl⟩, q⟩ := h
  refine ⟨_, (@pss_cons _ _ _ _ _ (@ps_if _ _ _ _ _ _ _ _ (@pt_cmpR _ _ _ _ _ _ _ _ op_eq (@pe_bf _ _ _ _ _ _ _ _ _ _ b_len call_len_seq (@pa_cons _ _ _ _ _ (@pv _ 0 _ _ (by rfl) (by first | exact Or.inl rfl | exact Or.inr (Or.inl rfl) | exact Or.inr (Or.inr rfl)) (by decide) (by decide)) pa_nil (by rfl)) (by decide +kernel) (by rfl) (by rfl) (by decide) (by decide) (by rfl) (by rfl)) pe_int (nomark _)) (@pss_one _ _ _ (@ps_ret _ _ _ _ pe_int)) pss_nil) (@pss_one _ _ _ (@ps_ret _ _ _ _ (@pe_bm0 _ _ _ _ _ _ _ _ _ PySem.F.plainAttrs_list PySem.F.slot_list_pop PySem.F.type_list_pop mt_pop (@pv _ 0 _ _ (by rfl) (by first | exact Or.inl rfl | exact Or.inr (Or.inl rfl) | exact Or.inr (Or.inr rfl)) (by decide) (by decide)) (by rfl) (by rfl))))), ?_⟩
  walk_at "rd"
  refine ⟨_, .inl (SqL.of hD), ?_⟩
  rw [natVs_len]
  refine ite2 (fun c => ?_) (fun c => ?_)
  · exact q 0 H (by decide) (.refl _ _) ⟨xs, hD, hx, hl⟩
  · obtain ⟨ys, y, rfl⟩ : ∃ ys y, xs = ys ++ [y] := ⟨xs.dropLast, xs.getLast (by intro e; subst e; exact c rfl), (List.dropLast_concat_getLast _).symm⟩
    refine ⟨.inl ⟨rfl, _, SqL.of hD⟩, D, _, .int y, rfl, rfl, hD, by simp [natVs], ?_⟩
    refine q y _ (hx y (by simp)) (SameBut.upd (.refl _ _) _) ⟨ys, ?_, fun x h => hx x (List.mem_append_left _ h), by rw [List.length_append] at hl; omega⟩
    rw [upd_same]
    simp [natVs]
def Z1K (K : PySem.W.Frag) : Sp := fun vs H Q _ => ∃ (D : Addr), vs = [.ref D] ∧ Feed H D ∧ ∀ (p : Addr) (lo : Int) (span : Nat) H', SameBut D H H' → Feed H' D → H' p = some (.tup [.str "whole", .int lo, .int (lo + span)]) → Q (.ref p) H'
theorem Z3y {k : Nat} {Z7 Z2 Z1 Z4 Z6 Z3 Z5 Z0 : Addr} (R : g.Raw "_law_whole_shape" "_law_whole_shape" Z0T ["_law_feed_here"]) (ZV : g.Fn k "_law_next" ["_law_feed_here"] (Z0B g.K)) (b_max : g.mg "max" = none) : g.Fn (k + 1) "_law_whole_shape" ["_law_feed_here"] (Z1K g.K) := by
  refine R.fn ZP (fun vs H Q E h => by obtain ⟨D, rfl, hD, q⟩ := h; rfl) fun f_ cdv A outer s H vs Q E hr h => ?_
  obtain ⟨D, rfl, hD, q⟩ := h
  refine ⟨_, (@pss_cons _ _ _ _ _ (@ps_set _ _ (1) _ _ _ _ ZP.nd rfl (Or.inl rfl) (@pe_fn _ _ _ _ _ _ _ _ _ _ _ _ ZV hr (@pa_cons _ _ _ _ _ (@pv _ 0 _ _ (by rfl) (by first | exact Or.inl rfl | exact Or.inr (Or.inl rfl) | exact Or.inr (Or.inr rfl)) (by decide) (by decide)) pa_nil (by rfl)) (by omega) (by rfl) (by rfl) (by decide) (by rfl) (by rfl)) (by rfl) (by first | exact .inl rfl | exact .inr rfl | assumption)) (@pss_cons _ _ _ _ _ (@ps_set _ _ (2) _ _ _ _ ZP.nd rfl (Or.inl rfl) (@pe_op _ _ _ _ _ _ _ _ op_sub (@pe_op _ _ _ _ _ _ _ _ op_mod (@pe_fn _ _ _ _ _ _ _ _ _ _ _ _ ZV hr (@pa_cons _ _ _ _ _ (@pv _ 0 _ _ (by rfl) (by first | exact Or.inl rfl | exact Or.inr (Or.inl rfl) | exact Or.inr (Or.inr rfl)) (by decide) (by decide)) pa_nil (by rfl)) (by omega) (by rfl) (by rfl) (by decide) (by rfl) (by rfl)) (@pe_op _ _ _ _ _ _ _ _ op_pow pe_int pe_int)) (@pe_op _ _ _ _ _ _ _ _ op_mulC pe_int (@pe_op _ _ _ _ _ _ _ _ op_pow pe_int pe_int))) (by rfl) (by first | exact .inl rfl | exact .inr rfl | assumption)) (@pss_cons _ _ _ _ _ (@ps_if _ _ _ _ _ _ _ _ (@pt_cmpR _ _ _ _ _ _ _ _ op_eq (@pe_op _ _ _ _ _ _ _ _ op_mod (@pv _ 1 _ _ (by rfl) (by first | exact Or.inl rfl | exact Or.inr (Or.inl rfl) | exact Or.inr (Or.inr rfl)) (by decide) (by decide)) pe_int) pe_int (nomark _)) (@pss_one _ _ _ (@ps_set _ _ (2) _ _ _ _ ZP.nd rfl (Or.inl rfl) (@pe_op _ _ _ _ _ _ _ _ op_sub (@pe_op _ _ _ _ _ _ _ _ op_mod (@pe_op _ _ _ _ _ _ _ _ op_fdivL (@pv _ 1 _ _ (by rfl) (by first | exact Or.inl rfl | exact Or.inr (Or.inl rfl) | exact Or.inr (Or.inr rfl)) (by decide) (by decide)) pe_int) pe_int) pe_int) (by rfl) (by first | exact .inl rfl | exact .inr rfl | assumption))) pss_nil) (@pss_cons _ _ _ _ _ (@ps_set _ _ (3) _ _ _ _ ZP.nd rfl (Or.inl rfl) (@pe_op _ _ _ _ _ _ _ _ op_mod (@pe_op _ _ _ _ _ _ _ _ op_fdivL (@pv _ 1 _ _ (by rfl) (by first | exact Or.inl rfl | exact Or.inr (Or.inl rfl) | exact Or.inr (Or.inr rfl)) (by decide) (by decide)) pe_int) pe_int) (by rfl) (by first | exact .inl rfl | exact .inr rfl | assumption)) (@pss_cons _ _ _ _ _ (@ps_if _ _ _ _ _ _ _ _ (@pt_cmpR _ _ _ _ _ _ _ _ op_eq (@pe_op _ _ _ _ _ _ _ _ op_mod (@pe_op _ _ _ _ _ _ _ _ op_fdivL (@pv _ 1 _ _ (by rfl) (by first | exact Or.inl rfl | exact Or.inr (Or.inl rfl) | exact Or.inr (Or.inr rfl)) (by decide) (by decide)) pe_int) pe_int) pe_int (nomark _)) (@pss_one _ _ _ (@ps_set _ _ (3) _ _ _ _ ZP.nd rfl (Or.inl rfl) (@pe_bf _ _ _ _ _ _ _ _ _ _ b_max (call_max2 rfl) (@pa_cons _ _ _ _ _ pe_int (@pa_cons _ _ _ _ _ (@pe_op _ _ _ _ _ _ _ _ op_add (@pe_op _ _ _ _ _ _ _ _ op_sub (@pe_op _ _ _ _ _ _ _ _ op_shl pe_int (@pe_op _ _ _ _ _ _ _ _ op_mod (@pe_op _ _ _ _ _ _ _ _ op_fdivL (@pv _ 1 _ _ (by rfl) (by first | exact Or.inl rfl | exact Or.inr (Or.inl rfl) | exact Or.inr (Or.inr rfl)) (by decide) (by decide)) pe_int) pe_int)) pe_int) (@pe_op _ _ _ _ _ _ _ _ op_mod (@pe_op _ _ _ _ _ _ _ _ op_fdivL (@pv _ 1 _ _ (by rfl) (by first | exact Or.inl rfl | exact Or.inr (Or.inl rfl) | exact Or.inr (Or.inr rfl)) (by decide) (by decide)) pe_int) pe_int)) pa_nil (by rfl)) (by rfl)) (by decide +kernel) (by rfl) (by rfl) (by decide) (by decide) (by rfl) (by rfl)) (by rfl) (by first | exact .inl rfl | exact .inr rfl | assumption))) pss_nil) (@pss_cons _ _ _ _ _ (@ps_if _ _ _ _ _ _ _ _ (@pt_cmpR _ _ _ _ _ _ _ _ op_eq (@pe_op _ _ _ _ _ _ _ _ op_mod (@pe_op _ _ _ _ _ _ _ _ op_fdivL (@pv _ 1 _ _ (by rfl) (by first | exact Or.inl rfl | exact Or.inr (Or.inl rfl) | exact Or.inr (Or.inr rfl)) (by decide) (by decide)) pe_int) pe_int) pe_int (nomark _)) (@pss_one _ _ _ (@ps_set _ _ (3) _ _ _ _ ZP.nd rfl (Or.inl rfl) (@pe_op _ _ _ _ _ _ _ _ op_mod (@pe_fn _ _ _ _ _ _ _ _ _ _ _ _ ZV hr (@pa_cons _ _ _ _ _ (@pv _ 0 _ _ (by rfl) (by first | exact Or.inl rfl | exact Or.inr (Or.inl rfl) | exact Or.inr (Or.inr rfl)) (by decide) (by decide)) pa_nil (by rfl)) (by omega) (by rfl) (by rfl) (by decide) (by rfl) (by rfl)) (@pe_op _ _ _ _ _ _ _ _ op_pow pe_int pe_int)) (by rfl) (by first | exact .inl rfl | exact .inr rfl | assumption))) pss_nil) (@pss_one _ _ _ (@ps_ret _ _ _ _ (@pe_tup _ _ _ _ _ (@pa_cons _ _ _ _ _ pe_str (@pa_cons _ _ _ _ _ (@pv _ 2 _ _ (by rfl) (by first | exact Or.inl rfl | exact Or.inr (Or.inl rfl) | exact Or.inr (Or.inr rfl)) (by decide) (by decide)) (@pa_cons _ _ _ _ _ (@pe_op _ _ _ _ _ _ _ _ op_add (@pv _ 2 _ _ (by rfl) (by first | exact Or.inl rfl | exact Or.inr (Or.inl rfl) | exact Or.inr (Or.inr rfl)) (by decide) (by decide)) (@pv _ 3 _ _ (by rfl) (by first | exact Or.inl rfl | exact Or.inr (Or.inl rfl) | exact Or.inr (Or.inr rfl)) (by decide) (by decide))) pa_nil (by rfl)) (by rfl)) (by rfl))))))))))), ?_⟩
  refine cut2 (fun σ H' => ∃ (c : Nat) (lo : Int), σ = [some (.ref D), some (.int c), some (.int lo), none] ∧ c < 2 ^ 210 ∧ SameBut D H H' ∧ Feed H' D) ?_ (fun N hN => ?_)
  rotate_left
  · walk_at "rd"
    exact ⟨D, rfl, hD, fun c H1 hc s1 f1 => ⟨D, rfl, f1, fun y H2 hy s2 f2 => ⟨cpow, _, rfl, by decide +kernel, cpow, .inl (cm (m := 3) (n := 200) (by decide) (by decide +kernel)), hN _ _ ⟨c, _, rfl, hc, s1.trans s2, f2⟩⟩⟩⟩
  rintro σ H1 ⟨c, lo, rfl, hc, s1, f1⟩
  refine cut1 (fun σ H' => ∃ (lo : Int), σ = [some (.ref D), some (.int c), some (.int lo), none] ∧ SameBut D H H' ∧ Feed H' D) ?_ (fun N hN => ?_)
  rotate_left
  · walk_at "rd"
    exact ⟨by decide, ite2 (fun _ => ⟨small_div (by decide) (by decide), by decide, hN _ _ ⟨_, rfl, s1, f1⟩⟩) (fun _ => hN _ _ ⟨_, rfl, s1, f1⟩)⟩
  rintro σ H2 ⟨lo, rfl, s2, f2⟩
  refine cut1 (fun σ H' => ∃ (n : Nat), σ = [some (.ref D), some (.int c), some (.int lo), some (.int n)] ∧ SameBut D H H' ∧ Feed H' D) ?_ (fun N hN => ?_)
  rotate_left
  · walk_at "rd"
    obtain ⟨r, h1, h2⟩ := mod_nat ((c : Int) / 21) (j := 9) (by decide)
    exact ⟨small_div (by decide) (by decide), by decide, hN _ _ ⟨r, by rw [h1], s2, f2⟩⟩
  rintro σ H3 ⟨n, rfl, s3, f3⟩
  refine cut1 (fun σ H' => ∃ (n : Nat), σ = [some (.ref D), some (.int c), some (.int lo), some (.int n)] ∧ SameBut D H H' ∧ Feed H' D) ?_ (fun N hN => ?_)
  rotate_left
  · walk_at "rd"
    refine ⟨small_div (by decide) (by decide), by decide, ite2 (fun _ => ?_) (fun _ => hN _ _ ⟨n, rfl, s3, f3⟩)⟩
    refine ⟨small_div (by decide) (by decide), by decide, ⟨by omega, by omega, by decide⟩, small_div (by decide) (by decide), by decide, ?_⟩
    have e : ∀ z : Int, ∃ r : Nat, (if z > 0 then z else 0) = (r : Int) := fun z => ⟨z.toNat, by split <;> omega⟩
    obtain ⟨r, hr1⟩ := e (1 * 2 ^ ((c : Int) / 756 % 18).toNat - 2 + (c : Int) / 13608 % 4)
    exact hN _ _ ⟨r, by rw [hr1], s3, f3⟩
  rintro σ H4 ⟨n, rfl, s4, f4⟩
  refine cut1 (fun σ H' => ∃ (n : Nat), σ = [some (.ref D), some (.int c), some (.int lo), some (.int n)] ∧ SameBut D H H' ∧ Feed H' D) ?_ (fun N hN => ?_)
  rotate_left
  · walk_at "rd"
    refine ⟨small_div (by decide) (by decide), by decide, ite2 (fun _ => ?_) (fun _ => hN _ _ ⟨n, rfl, s4, f4⟩)⟩
    refine ⟨D, rfl, f4, fun y H5 hy s5 f5 => ⟨cpow, _, rfl, by decide +kernel, ?_⟩⟩
    obtain ⟨r, h1, h2⟩ := mod_nat (y : Int) (j := 10 ^ Int.toNat 59) (by decide +kernel)
    exact hN _ _ ⟨r, by rw [h1], s4.trans s5, f5⟩
  rintro σ H5 ⟨n, rfl, s5, f5⟩
  walk_at "rd"
  exact ⟨few (by decide), fun p hp => q p lo n _ (fun x o h1 h2 => by rw [upd_ne (ne_of_none (s5 _ _ h1 h2) hp)]; exact s5 _ _ h1 h2) (f5.new hp) upd_same⟩
theorem joinL_one : ∀ cs : List Nat, joinL [] (cs.map fun c => [c]) = cs
  | [] => rfl
  | [x] => rfl
  | x :: y :: r => by
    have := joinL_one (y :: r)
    show [x] ++ [] ++ joinL [] ((y :: r).map fun c => [c]) = _
    rw [this]; rfl
theorem join_signs (cs : List Nat) : Txt.join ("" : Str) (cs.map fun c => S [c]) = S cs := by
  have := join_S [] (cs.map fun c => [c])
  rw [List.map_map, joinL_one] at this
  exact this
abbrev abc : Str := "abcdefghijklmnopqrstuvwxyzABCDEFGHIJKLMNOPQRSTUVWXYZ0123456789"
theorem abc_len : abc.length = 62 := by decide +kernel
theorem abc_small : abc.cps.toList.all (fun c => decide (c < 1000)) = true := by decide +kernel
theorem abc_at (x : Int) : ∃ c, atI abc.cps.toList (x % 62) = some c ∧ c < 1000 := by
  obtain ⟨r, h1, h2⟩ := mod_nat x (j := 62) (by decide)
  rw [h1]
  have hl : abc.cps.toList.length = 62 := by decide +kernel
  have h3 : abc.cps.toList[r]? = some (abc.cps.toList[r]'(by omega)) := List.getElem?_eq_getElem (by omega)
  exact ⟨_, atI_nat h3, of_decide_eq_true (List.all_eq_true.mp abc_small _ (List.mem_of_getElem? h3))⟩
theorem str_ok {l : List Nat} (h : ∀ c ∈ l, c < 1000) : PyData.strOk (S l) = true := by
  simp only [PyData.strOk, S, Array.all_eq_true', decide_eq_true_eq]
  intro x hx
  have := h x (by simpa using hx)
  omega
theorem at6 (n : Nat) (h : n ≤ 62) (h1 : 1 ≤ n) (x : Int) : ∃ m : Nat, atI [V.int 1, V.int 2, V.int 3, V.int 5, V.int 62, V.int n] (x % 6) = some (.int m) ∧ m ≤ 62 := by
  have : x % 6 = 0 ∨ x % 6 = 1 ∨ x % 6 = 2 ∨ x % 6 = 3 ∨ x % 6 = 4 ∨ x % 6 = 5 := by omega
  rcases this with h | h | h | h | h | h <;> rw [h]
  · exact ⟨1, rfl, by omega⟩
  · exact ⟨2, rfl, by omega⟩
  · exact ⟨3, rfl, by omega⟩
  · exact ⟨5, rfl, by omega⟩
  · exact ⟨62, rfl, by omega⟩
  · exact ⟨n, rfl, by omega⟩
theorem at5 (x : Int) : ∃ m : Nat, atI [V.int 1, V.int 61, V.int 3, V.int 13, V.int 25] (x % 5) = some (.int m) ∧ m ≤ 62 := by
  have : x % 5 = 0 ∨ x % 5 = 1 ∨ x % 5 = 2 ∨ x % 5 = 3 ∨ x % 5 = 4 := by omega
  rcases this with h | h | h | h | h <;> rw [h]
  · exact ⟨1, rfl, by omega⟩
  · exact ⟨61, rfl, by omega⟩
  · exact ⟨3, rfl, by omega⟩
  · exact ⟨13, rfl, by omega⟩
  · exact ⟨25, rfl, by omega⟩
theorem SameBut.upd_new {D : Addr} {H H' : Hp} {p : Addr} (s : SameBut D H H') (hp : H' p = none) (o : HO) : SameBut D H (L2.upd H' p o) := fun x u h1 h2 => by rw [upd_ne (ne_of_none (s _ _ h1 h2) hp)]; exact s _ _ h1 h2
def Z1R (K : PySem.W.Frag) : Sp := fun vs H Q _ => ∃ (D : Addr), vs = [.ref D] ∧ Feed H D ∧ ∀ (p : Addr) (sg : List Nat) H', sg.length ≤ 62 → (∀ c ∈ sg, c < 1000) → SameBut D H H' → Feed H' D → H' p = some (.tup [.str "text", .str (S sg)]) → Q (.ref p) H'
theorem Z3J {k : Nat} {Z7 Z2 Z1 Z4 Z6 Z3 Z5 Z0 : Addr} (R : g.Raw "_law_text_shape" "_law_text_shape" Z14 ["_law_feed_here"]) (ZV : g.Fn k "_law_next" ["_law_feed_here"] (Z0B g.K)) (ZA : g.mg "range" = none) : g.Fn (k + 1) "_law_text_shape" ["_law_feed_here"] (Z1R g.K) := by
  refine R.fn Z01 (fun vs H Q E h => by obtain ⟨D, rfl, hD, q⟩ := h; rfl) fun f_ cdv A outer s H vs Q E hr h => ?_
  obtain ⟨D, rfl, hD, q⟩ := h
  refine ⟨_, (@pss_cons _ _ _ _ _ (@ps_set _ _ (1) _ _ _ _ Z01.nd rfl (Or.inr rfl) pe_str (by rfl) (by first | exact .inl rfl | exact .inr rfl | assumption)) (@pss_cons _ _ _ _ _ (@ps_set _ _ (2) _ _ _ _ Z01.nd rfl (Or.inl rfl) (@pe_fn _ _ _ _ _ _ _ _ _ _ _ _ ZV hr (@pa_cons _ _ _ _ _ (@pv _ 0 _ _ (by rfl) (by first | exact Or.inl rfl | exact Or.inr (Or.inl rfl) | exact Or.inr (Or.inr rfl)) (by decide) (by decide)) pa_nil (by rfl)) (by omega) (by rfl) (by rfl) (by decide) (by rfl) (by rfl)) (by rfl) (by first | exact .inl rfl | exact .inr rfl | assumption)) (@pss_cons _ _ _ _ _ (@ps_set _ _ (3) _ _ _ _ Z01.nd rfl (Or.inl rfl) (@pe_ix _ _ _ _ _ _ _ ix_list (@pe_lst _ _ _ _ (@pa_cons _ _ _ _ _ pe_int (@pa_cons _ _ _ _ _ pe_int (@pa_cons _ _ _ _ _ pe_int (@pa_cons _ _ _ _ _ pe_int (@pa_cons _ _ _ _ _ pe_int (@pa_cons _ _ _ _ _ (@pe_op _ _ _ _ _ _ _ _ op_add pe_int (@pe_op _ _ _ _ _ _ _ _ op_mod (@pe_op _ _ _ _ _ _ _ _ op_fdivL (@pv _ 2 _ _ (by rfl) (by first | exact Or.inl rfl | exact Or.inr (Or.inl rfl) | exact Or.inr (Or.inr rfl)) (by decide) (by decide)) pe_int) pe_int)) pa_nil (by rfl)) (by rfl)) (by rfl)) (by rfl)) (by rfl)) (by rfl))) (@pe_op _ _ _ _ _ _ _ _ op_mod (@pv _ 2 _ _ (by rfl) (by first | exact Or.inl rfl | exact Or.inr (Or.inl rfl) | exact Or.inr (Or.inr rfl)) (by decide) (by decide)) pe_int) (fun _ _ => rfl)) (by rfl) (by first | exact .inl rfl | exact .inr rfl | assumption)) (@pss_cons _ _ _ _ _ (@ps_set _ _ (4) _ _ _ _ Z01.nd rfl (Or.inr rfl) (@pe_ix _ _ _ _ _ _ _ ix_list (@pe_lst _ _ _ _ (@pa_cons _ _ _ _ _ pe_int (@pa_cons _ _ _ _ _ pe_int (@pa_cons _ _ _ _ _ pe_int (@pa_cons _ _ _ _ _ pe_int (@pa_cons _ _ _ _ _ pe_int pa_nil (by rfl)) (by rfl)) (by rfl)) (by rfl)) (by rfl))) (@pe_op _ _ _ _ _ _ _ _ op_mod (@pe_op _ _ _ _ _ _ _ _ op_fdivL (@pv _ 2 _ _ (by rfl) (by first | exact Or.inl rfl | exact Or.inr (Or.inl rfl) | exact Or.inr (Or.inr rfl)) (by decide) (by decide)) pe_int) pe_int) (fun _ _ => rfl)) (by rfl) (by first | exact .inl rfl | exact .inr rfl | assumption)) (@pss_cons _ _ _ _ _ (@ps_set _ _ (5) _ _ _ _ Z01.nd rfl (Or.inr rfl) (@pe_op _ _ _ _ _ _ _ _ op_mod (@pe_op _ _ _ _ _ _ _ _ op_fdivL (@pv _ 2 _ _ (by rfl) (by first | exact Or.inl rfl | exact Or.inr (Or.inl rfl) | exact Or.inr (Or.inr rfl)) (by decide) (by decide)) pe_int) pe_int) (by rfl) (by first | exact .inl rfl | exact .inr rfl | assumption)) (@pss_one _ _ _ (@ps_ret _ _ _ _ (@pe_tup _ _ _ _ _ (@pa_cons _ _ _ _ _ pe_str (@pa_cons _ _ _ _ _ (@pe_bm _ _ _ _ _ _ _ _ _ _ _ _ PySem.F.plainAttrs_str PySem.F.slot_str_join PySem.F.type_str_join mt_join pe_str (@pa_cons _ _ _ _ _ (@pe_lc _ _ _ _ _ _ _ ([none, some 1, some 5, some 4]) ((["_law_k", "_law_some", "_law_start", "_law_step"] : List Str)) _ (gName 0) _ _ (.own (.cap (i := 1) rfl rfl (by first | exact Or.inl rfl | exact Or.inr rfl) (.cap (i := 5) rfl rfl (by first | exact Or.inl rfl | exact Or.inr rfl) (.cap (i := 4) rfl rfl (by first | exact Or.inl rfl | exact Or.inr rfl) .nil)))) rfl (@pi_range1 _ _ _ _ _ _ rfl ZA (@pa_cons _ _ _ _ _ (@pv _ 3 _ _ (by rfl) (by first | exact Or.inl rfl | exact Or.inr (Or.inl rfl) | exact Or.inr (Or.inr rfl)) (by decide) (by decide)) pa_nil (by rfl)) (by rfl)) (fun cl C s₀ H₀ fp pn => (@pg_name _ _ (0) _ (show List.Nodup (["_law_k", "_law_some", "_law_start", "_law_step"] : List Str) by decide +kernel) rfl (Or.inl rfl) (Or.inr rfl))) (fun cl C s₀ H₀ fp pn => pts_nil) (fun cl C s₀ H₀ fp pn => (@pe_ix _ _ _ _ _ _ _ ix_str (@pv _ 1 _ _ (by rfl) (by first | exact Or.inl rfl | exact Or.inr (Or.inl rfl) | exact Or.inr (Or.inr rfl)) (by decide) (by decide)) (@pe_op _ _ _ _ _ _ _ _ op_mod (@pe_op _ _ _ _ _ _ _ _ op_add (@pv _ 2 _ _ (by rfl) (by first | exact Or.inl rfl | exact Or.inr (Or.inl rfl) | exact Or.inr (Or.inr rfl)) (by decide) (by decide)) (@pe_op _ _ _ _ _ _ _ _ op_mulC (@pv _ 0 _ _ (by rfl) (by first | exact Or.inl rfl | exact Or.inr (Or.inl rfl) | exact Or.inr (Or.inr rfl)) (by decide) (by decide)) (@pv _ 3 _ _ (by rfl) (by first | exact Or.inl rfl | exact Or.inr (Or.inl rfl) | exact Or.inr (Or.inr rfl)) (by decide) (by decide)))) pe_int) (fun _ _ => rfl))) (by intro x hx; simp at hx; first | (subst hx; exact Or.inl rfl) | (rcases hx with rfl | rfl <;> exact Or.inl rfl) | (rcases hx with rfl | rfl | rfl <;> exact Or.inl rfl) | (rcases hx with rfl | rfl | rfl | rfl <;> exact Or.inl rfl) | (rcases hx with rfl | rfl | rfl | rfl | rfl <;> exact Or.inl rfl)) (by rfl) (by decide) (by decide +kernel) (by intro _; rfl)) pa_nil (by rfl)) (by rfl) (by rfl) (by rfl) (by rfl) (by rfl)) pa_nil (by rfl)) (by rfl)))))))))), ?_⟩
  refine cut2 (fun σ H' => ∃ (c : Nat), σ = [some (.ref D), some (.str abc), some (.int c), none, none, none] ∧ SameBut D H H' ∧ Feed H' D) ?_ (fun N hN => ?_)
  rotate_left
  · walk_at "rd"
    exact ⟨D, rfl, hD, fun c H1 hc s1 f1 => hN _ _ ⟨c, rfl, s1, f1⟩⟩
  rintro σ H1 ⟨c, rfl, s1, f1⟩
  refine cut1 (fun σ H' => ∃ (m : Nat), σ = [some (.ref D), some (.str abc), some (.int c), some (.int m), none, none] ∧ m ≤ 62 ∧ SameBut D H H' ∧ Feed H' D) ?_ (fun N hN => ?_)
  rotate_left
  · walk_at "rd"
    refine ⟨small_div (by decide) (by decide), by decide, few (by decide), fun p hp => ⟨by decide, _, SqL.of upd_same, ?_⟩⟩
    obtain ⟨r, h1, h2⟩ := mod_nat ((c : Int) / 6) (j := 62) (by decide)
    rw [h1, show (1 : Int) + (r : Int) = ((1 + r : Nat) : Int) by omega]
    obtain ⟨m, hm, hm2⟩ := at6 (1 + r) (by omega) (by omega) (c : Int)
    exact ⟨_, hm, hN _ _ ⟨m, rfl, hm2, s1.upd_new hp _, f1.new hp⟩⟩
  rintro σ H2 ⟨m, rfl, hm, s2, f2⟩
  refine cut2 (fun σ H' => ∃ (a b : Nat), σ = [some (.ref D), some (.str abc), some (.int c), some (.int m), some (.int a), some (.int b)] ∧ a ≤ 62 ∧ SameBut D H H' ∧ Feed H' D) ?_ (fun N hN => ?_)
  rotate_left
  · walk_at "rd"
    refine ⟨few (by decide), fun p hp => ⟨small_div (by decide) (by decide), by decide, _, SqL.of upd_same, ?_⟩⟩
    obtain ⟨a, ha, ha2⟩ := at5 ((c : Int) / 372)
    obtain ⟨b, h1, h2⟩ := mod_nat ((c : Int) / 1860) (j := 62) (by decide)
    exact ⟨_, ha, small_div (by decide) (by decide), by decide, hN _ _ ⟨a, b, by rw [h1], ha2, s2.upd_new hp _, f2.new hp⟩⟩
  rintro σ H3 ⟨a, b, rfl, ha, s3, f3⟩
  walk_at "rd"
  refine ⟨rfl, ?_⟩
  refine tLC_rangeI (n := m) (fun F i zs H' => SameBut D H H' ∧ Feed H' D ∧ D ≠ F ∧ H' F = some (.lst zs) ∧ ∃ cs : List Nat, zs = cs.map (fun c => V.str (S [c])) ∧ cs.length = i ∧ ∀ c ∈ cs, c < 1000) (fun R r => by walk_at "rd"; exact r) (by omega) ?_ ?_ ?_ ?_
  · intro F hF
    obtain ⟨xs, hx, _⟩ := id f3
    exact ⟨s3.upd_new hF _, f3.new hF, ne_of_none hx hF, upd_same, [], rfl, rfl, fun c hc => by cases hc⟩
  · rintro F i zs H' ⟨sm, _, _, hd, cs, rfl, he, _⟩
    exact ⟨by rw [List.length_map]; exact he, hd⟩
  · rintro F i zs H' hF hi ⟨sm, ff, nDF, hd, cs, rfl, he, hcs⟩ R r
    walk_at "rd"
    obtain ⟨x, hx, hx1⟩ := abc_at ((b : Int) + (i : Int) * (a : Int))
    refine ⟨.inl (cm (m := 8) (n := 8) (by rw [Int.natAbs_natCast]; omega) (by rw [Int.natAbs_natCast]; omega)), by decide, _, _, x, rfl, rfl, by rw [abc_len]; exact few (by decide), hx, r _ _ hd ⟨fun y o h1 h2 => ?_, ?_, nDF, upd_same, cs ++ [x], by rw [List.map_append]; rfl, by rw [List.length_append, he]; rfl, fun c hc => ?_⟩⟩
    rotate_left
    · obtain ⟨xs, h1, h2⟩ := ff
      exact ⟨xs, by rw [upd_ne nDF]; exact h1, h2⟩
    · rcases List.mem_append.mp hc with hc | hc
      · exact hcs c hc
      · rw [List.mem_singleton.mp hc]; exact hx1
    rw [upd_ne (ne_of_none (s3 _ _ h1 h2) hF)]; exact sm _ _ h1 h2
  · rintro F zs H' hF ⟨sm, ff, nDF, hd, cs, rfl, he, hcs⟩
    refine ⟨"", F, cs.map fun c => S [c], rfl, rfl, by rw [List.map_map]; exact SqL.of hd, ?_, ?_⟩
    · rw [List.map_map, List.length_map, he]
      have : ((fun x : Str => x.length) ∘ fun c => S [c]) = fun _ => 1 := by funext c; simp [S_len]
      rw [this, List.map_const', List.sum_replicate_nat]
      have : ("" : Str).length = 0 := by decide +kernel
      rw [this]; omega
    · rw [join_signs]
      exact ⟨few (by decide), fun p hp => q p cs _ (by omega) hcs (sm.upd_new hp _) (ff.new hp) upd_same⟩
theorem cnts_int (f : Nat → Int) {n i : Nat} {x : V} (h : (cnts f n)[i]? = some x) : ∃ z : Int, x = .int z := by
  obtain ⟨k, _, rfl⟩ := List.mem_map.mp (List.mem_of_getElem? h)
  exact ⟨_, rfl⟩
def Z3b (K : PySem.W.Frag) : Sp := fun vs H Q _ => ∃ (a b : Addr) (zs : List V), vs = [.ref a, .ref b] ∧ H a = some (.lst zs) ∧ H b = some (.lst zs) ∧ (∀ (i : Nat) x, zs[i]? = some x → ∃ z : Int, x = .int z) ∧ ∀ H', Same H H' → Q (.bl true) H'
theorem ok_law_counts {k : Nat} {Z7 Z2 Z1 Z4 Z6 Z3 Z5 Z0 : Addr} (R : g.Raw "_law_counts" "_law_counts" Z20 ["_law_found", "_law_due"]) (F_law_whole : g.Fn k "_law_whole" ["_law_found"] (Z3x)) (ZU : g.mg "isinstance" = none) (b_len : g.mg "len" = none) (b_list : g.mg "list" = none) (b_zip : g.mg "zip" = none) : g.Fn (k + 1) "_law_counts" ["_law_found", "_law_due"] (Z3b g.K) := by
  refine R.fn Z1M (fun vs H Q E h => by obtain ⟨a, b, zs, rfl, ha, hb, hz, q⟩ := h; rfl) fun f_ cdv A outer s H vs Q E hr h => ?_
  obtain ⟨a, b, zs, rfl, ha, hb, hz, q⟩ := h
  refine ⟨_, (@pss_cons _ _ _ _ _ (@ps_if _ _ _ _ _ _ _ _ (@pw_or _ _ _ _ _ _ _ (@pt_not _ _ _ _ (@pt_val _ _ _ (@pe_bf _ _ _ _ _ _ _ _ _ _ ZU call_isinst (@pa_cons _ _ _ _ _ (@pv _ 0 _ _ (by rfl) (by first | exact Or.inl rfl | exact Or.inr (Or.inl rfl) | exact Or.inr (Or.inr rfl)) (by decide) (by decide)) (@pa_cons _ _ _ _ _ (@pe_bn _ _ _ _ ("list") b_list (by decide +kernel) (by rfl) (by rfl) (by decide) (by decide)) pa_nil (by rfl)) (by rfl)) (by decide +kernel) (by rfl) (by rfl) (by decide) (by decide) (by rfl) (by rfl)) (by intro _; rfl))) (@pw_or1 _ _ _ _ (@pt_cmpR _ _ _ _ _ _ _ _ op_ne (@pe_bf _ _ _ _ _ _ _ _ _ _ b_len call_len_seq (@pa_cons _ _ _ _ _ (@pv _ 0 _ _ (by rfl) (by first | exact Or.inl rfl | exact Or.inr (Or.inl rfl) | exact Or.inr (Or.inr rfl)) (by decide) (by decide)) pa_nil (by rfl)) (by decide +kernel) (by rfl) (by rfl) (by decide) (by decide) (by rfl) (by rfl)) (@pe_bf _ _ _ _ _ _ _ _ _ _ b_len call_len_seq (@pa_cons _ _ _ _ _ (@pv _ 1 _ _ (by rfl) (by first | exact Or.inl rfl | exact Or.inr (Or.inl rfl) | exact Or.inr (Or.inr rfl)) (by decide) (by decide)) pa_nil (by rfl)) (by decide +kernel) (by rfl) (by rfl) (by decide) (by decide) (by rfl) (by rfl)) (nomark _)))).pt (@pss_one _ _ _ (@ps_ret _ _ _ _ pe_bl)) pss_nil) (@pss_cons _ _ _ _ _ (@ps_for _ _ _ _ _ _ _ _ PassesOwn.never rfl (@pi_zipL _ _ _ _ _ _ _ _ _ rfl b_zip (@pa_cons _ _ _ _ _ (@pv _ 0 _ _ (by rfl) (by first | exact Or.inl rfl | exact Or.inr (Or.inl rfl) | exact Or.inr (Or.inr rfl)) (by decide) (by decide)) (@pa_cons _ _ _ _ _ (@pv _ 1 _ _ (by rfl) (by first | exact Or.inl rfl | exact Or.inr (Or.inl rfl) | exact Or.inr (Or.inr rfl)) (by decide) (by decide)) pa_nil (by rfl)) (by rfl)) (by rfl) (by rfl)) (@pg_tup _ _ _ _ _ (2) rfl (@pgs_cons _ _ _ _ _ (@pg_name _ _ (2) _ Z1M.nd rfl (Or.inl rfl) (by first | exact .inl rfl | exact .inr rfl | assumption)) (@pgs_cons _ _ _ _ _ (@pg_name _ _ (3) _ Z1M.nd rfl (Or.inl rfl) (by first | exact .inl rfl | exact .inr rfl | assumption)) pgs_nil (by rfl)) (by rfl)) (by rfl) (by rfl)) (@pss_one _ _ _ (@ps_if _ _ _ _ _ _ _ _ (@pw_or _ _ _ _ _ _ _ (@pt_not _ _ _ _ (@pt_val _ _ _ (@pe_fn _ _ _ _ _ _ _ _ _ _ _ _ F_law_whole hr (@pa_cons _ _ _ _ _ (@pv _ 2 _ _ (by rfl) (by first | exact Or.inl rfl | exact Or.inr (Or.inl rfl) | exact Or.inr (Or.inr rfl)) (by decide) (by decide)) pa_nil (by rfl)) (by omega) (by rfl) (by rfl) (by decide) (by rfl) (by rfl)) (by intro _; rfl))) (@pw_or1 _ _ _ _ (@pt_cmpR _ _ _ _ _ _ _ _ op_ne (@pv _ 2 _ _ (by rfl) (by first | exact Or.inl rfl | exact Or.inr (Or.inl rfl) | exact Or.inr (Or.inr rfl)) (by decide) (by decide)) (@pv _ 3 _ _ (by rfl) (by first | exact Or.inl rfl | exact Or.inr (Or.inl rfl) | exact Or.inr (Or.inr rfl)) (by decide) (by decide)) (nomark _)))).pt (@pss_one _ _ _ (@ps_ret _ _ _ _ pe_bl)) pss_nil)) (by intro _; rfl)) (@pss_one _ _ _ (@ps_ret _ _ _ _ pe_bl)))), ?_⟩
  walk_at "rd"
  refine ⟨_, rfl, _, .lst ha, true, rfl, iteN (by decide) ⟨_, .inl (SqL.of ha), _, .inl (SqL.of hb), iteN (fun h => h rfl) ?_⟩⟩
  refine tFor_zipN (K := g.K) 2 3 (xs := zs) (ys := zs) (fun a' b' n σ H' => a' = a ∧ b' = b ∧ (∃ o2 o3, σ = [some (.ref a), some (.ref b), o2, o3]) ∧ Same H H') (fun R r => by walk_at "rd"; exact r a b H ⟨rfl, rfl, ⟨_, _, rfl⟩, .refl _⟩) (fun a' b' n σ H' _ ⟨e1, e2, _, s⟩ => by subst e1 e2; exact ⟨SqL.of (s _ _ ha), SqL.of (s _ _ hb)⟩) ?_ ?_
  · rintro a' b' n x y σ H' T hx hy ⟨rfl, rfl, ⟨o2, o3, rfl⟩, s1⟩ hT
    obtain ⟨z, rfl⟩ := hz n x hx
    rw [hx] at hy
    cases hy
    walk_at "rd"
    exact ⟨z, rfl, _, rfl, iteN (by decide) (s1.trans (.upd_new hT _))⟩
  · rintro a' b' σ H' ⟨rfl, rfl, ⟨o2, o3, rfl⟩, s1⟩
    walk_at "rd"
    exact q H' s1
def nT : List Nat := [116, 114, 101, 101]
theorem S_tree : S nT = ("tree" : Str) := by decide +kernel
def nO : List Nat := [111, 110, 101]
theorem S_one : S nO = ("one" : Str) := by decide +kernel
def nW : List Nat := [116, 119, 111]
theorem S_two : S nW = ("two" : Str) := by decide +kernel
theorem sb_tupk {D : Addr} {H H' : Hp} (s : SameBut D H H') {xs : List V} (h : H D = some (.lst xs)) : TupK H H' := tupK_but s h (by intro xs z; cases z) (by intro o v z; cases z)
theorem Feed.lst {H : Hp} {D : Addr} (h : Feed H D) : ∃ xs, H D = some (.lst xs) := by
  obtain ⟨xs, h, _⟩ := h
  exact ⟨_, h⟩
theorem dk_w {K : PySem.W.Frag} {H : Hp} {p : Addr} {lo : Int} {span : Nat} (h : H p = some (.tup [.str "whole", .int lo, .int (lo + span)])) : DK K H p (kd (.w lo span)) := by
  refine ⟨?_, ko_kd _, by simp [kd, PyData.depth, PyData.depthAll]⟩
  rw [kd]
  exact .tup (SqT.of h) (.cons (.str _ (by decide +kernel)) (.cons (.int _) (.cons (.int _) .nil)))
theorem dk_t {K : PySem.W.Frag} {H : Hp} {p : Addr} {sg : List Nat} (h : H p = some (.tup [.str "text", .str (S sg)])) (hs : ∀ c ∈ sg, c < 1000) : DK K H p (kd (.t sg)) := by
  refine ⟨?_, ko_kd _, by simp [kd, PyData.depth, PyData.depthAll]⟩
  rw [kd]
  exact .tup (SqT.of h) (.cons (.str _ (by decide +kernel)) (.cons (.str _ (str_ok hs)) .nil))
def Z2e (K : PySem.W.Frag) : Sp := fun vs H Q _ => ∃ (D : Addr), vs = [.ref D] ∧ Feed H D ∧ ∀ (p : Addr) (sh : Sh) H', leaf sh → SameBut D H H' → Feed H' D → DK K H' p (kd sh) → Q (.ref p) H'
theorem ok_law_leaf {k : Nat} {Z7 Z2 Z1 Z4 Z6 Z3 Z5 Z0 : Addr} (R : g.Raw "_law_leaf" "_law_leaf" Z2I ["_law_feed_here"]) (ZV : g.Fn k "_law_next" ["_law_feed_here"] (Z0B g.K)) (Z3K : g.Fn k "_law_whole_shape" ["_law_feed_here"] (Z1K g.K)) (Z3Z : g.Fn k "_law_text_shape" ["_law_feed_here"] (Z1R g.K)) : g.Fn (k + 1) "_law_leaf" ["_law_feed_here"] (Z2e g.K) := by
  refine R.fn sc_law_leaf (fun vs H Q E h => by obtain ⟨D, rfl, hD, q⟩ := h; rfl) fun f_ cdv A outer s H vs Q E hr h => ?_
  obtain ⟨D, rfl, hD, q⟩ := h
  refine ⟨_, (@pss_cons _ _ _ _ _ (@ps_if _ _ _ _ _ _ _ _ (@pt_cmpR _ _ _ _ _ _ _ _ op_eq (@pe_op _ _ _ _ _ _ _ _ op_mod (@pe_fn _ _ _ _ _ _ _ _ _ _ _ _ ZV hr (@pa_cons _ _ _ _ _ (@pv _ 0 _ _ (by rfl) (by first | exact Or.inl rfl | exact Or.inr (Or.inl rfl) | exact Or.inr (Or.inr rfl)) (by decide) (by decide)) pa_nil (by rfl)) (by omega) (by rfl) (by rfl) (by decide) (by rfl) (by rfl)) pe_int) pe_int (nomark _)) (@pss_one _ _ _ (@ps_ret _ _ _ _ (@pe_fn _ _ _ _ _ _ _ _ _ _ _ _ Z3K hr (@pa_cons _ _ _ _ _ (@pv _ 0 _ _ (by rfl) (by first | exact Or.inl rfl | exact Or.inr (Or.inl rfl) | exact Or.inr (Or.inr rfl)) (by decide) (by decide)) pa_nil (by rfl)) (by omega) (by rfl) (by rfl) (by decide) (by rfl) (by rfl)))) pss_nil) (@pss_one _ _ _ (@ps_ret _ _ _ _ (@pe_fn _ _ _ _ _ _ _ _ _ _ _ _ Z3Z hr (@pa_cons _ _ _ _ _ (@pv _ 0 _ _ (by rfl) (by first | exact Or.inl rfl | exact Or.inr (Or.inl rfl) | exact Or.inr (Or.inr rfl)) (by decide) (by decide)) pa_nil (by rfl)) (by omega) (by rfl) (by rfl) (by decide) (by rfl) (by rfl))))), ?_⟩
  walk_at "rd"
  refine ⟨D, rfl, hD, fun y H1 hy s1 f1 => ⟨_, rfl, by decide, ite2 (fun _ => ?_) (fun _ => ?_)⟩⟩
  · exact ⟨D, rfl, f1, fun p lo span H2 s2 f2 h2 => q p (.w lo span) H2 trivial (s1.trans s2) f2 (dk_w h2)⟩
  · exact ⟨D, rfl, f1, fun p sg H2 hl hc s2 f2 h2 => q p (.t sg) H2 hl (s1.trans s2) f2 (dk_t h2 hc)⟩
theorem leaf_kdep {sh : Sh} (h : leaf sh) : (kd sh).depth ≤ 1 := by
  cases sh with
  | w lo span => simp [kd, PyData.depth, PyData.depthAll]
  | t sg => simp [kd, PyData.depth, PyData.depthAll]
  | _ => cases h
def PartOk (prs : Prs) (sh : Sh) : Prop := okS prs sh ∧ dep sh ≤ 1 ∧ wt sh ≤ 3 ∧ (kd sh).depth ≤ 4
theorem part_leaf {prs : Prs} {sh : Sh} (h : leaf sh) : PartOk prs sh := ⟨leaf_ok h, by rw [leaf_dep h]; omega, by rw [leaf_wt h]; omega, by have := leaf_kdep h; omega⟩
def Z3V (K : PySem.W.Frag) : Sp := fun vs H Q _ => ∃ (D : Addr) (lf0 : Sh), vs = [.ref D] ∧ leaf lf0 ∧ Feed H D ∧ ∀ (p : Addr) (sh : Sh) H', PartOk [(nT, lf0)] sh → SameBut D H H' → Feed H' D → DK K H' p (kd sh) → Q (.ref p) H'
theorem ok_law_part {k : Nat} {Z7 Z2 Z1 Z4 Z6 Z3 Z5 Z0 : Addr} (R : g.Raw "_law_part" "_law_part" Z2J ["_law_feed_here"]) (ZV : g.Fn k "_law_next" ["_law_feed_here"] (Z0B g.K)) (Z0S : g.Fn k "_law_leaf" ["_law_feed_here"] (Z2e g.K)) : g.Fn (k + 1) "_law_part" ["_law_feed_here"] (Z3V g.K) := by
  refine R.fn Z3Q (fun vs H Q E h => by obtain ⟨D, lf0, rfl, hl0, hD, q⟩ := h; rfl) fun f_ cdv A outer s H vs Q E hr h => ?_
  obtain ⟨D, lf0, rfl, hl0, hD, q⟩ := h
  refine ⟨_, (@pss_cons _ _ _ _ _ (@ps_set _ _ (1) _ _ _ _ Z3Q.nd rfl (Or.inl rfl) (@pe_op _ _ _ _ _ _ _ _ op_mod (@pe_fn _ _ _ _ _ _ _ _ _ _ _ _ ZV hr (@pa_cons _ _ _ _ _ (@pv _ 0 _ _ (by rfl) (by first | exact Or.inl rfl | exact Or.inr (Or.inl rfl) | exact Or.inr (Or.inr rfl)) (by decide) (by decide)) pa_nil (by rfl)) (by omega) (by rfl) (by rfl) (by decide) (by rfl) (by rfl)) pe_int) (by rfl) (by first | exact .inl rfl | exact .inr rfl | assumption)) (@pss_cons _ _ _ _ _ (@ps_if _ _ _ _ _ _ _ _ (@pt_cmpR _ _ _ _ _ _ _ _ op_eq (@pv _ 1 _ _ (by rfl) (by first | exact Or.inl rfl | exact Or.inr (Or.inl rfl) | exact Or.inr (Or.inr rfl)) (by decide) (by decide)) pe_int (nomark _)) (@pss_one _ _ _ (@ps_ret _ _ _ _ (@pe_tup _ _ _ _ _ (@pa_cons _ _ _ _ _ pe_str (@pa_cons _ _ _ _ _ (@pe_tup _ _ _ _ _ (@pa_cons _ _ _ _ _ (@pe_tup _ _ _ _ _ (@pa_cons _ _ _ _ _ pe_str (@pa_cons _ _ _ _ _ (@pe_fn _ _ _ _ _ _ _ _ _ _ _ _ Z0S hr (@pa_cons _ _ _ _ _ (@pv _ 0 _ _ (by rfl) (by first | exact Or.inl rfl | exact Or.inr (Or.inl rfl) | exact Or.inr (Or.inr rfl)) (by decide) (by decide)) pa_nil (by rfl)) (by omega) (by rfl) (by rfl) (by decide) (by rfl) (by rfl)) pa_nil (by rfl)) (by rfl))) (@pa_cons _ _ _ _ _ (@pe_tup _ _ _ _ _ (@pa_cons _ _ _ _ _ pe_str (@pa_cons _ _ _ _ _ (@pe_fn _ _ _ _ _ _ _ _ _ _ _ _ Z0S hr (@pa_cons _ _ _ _ _ (@pv _ 0 _ _ (by rfl) (by first | exact Or.inl rfl | exact Or.inr (Or.inl rfl) | exact Or.inr (Or.inr rfl)) (by decide) (by decide)) pa_nil (by rfl)) (by omega) (by rfl) (by rfl) (by decide) (by rfl) (by rfl)) pa_nil (by rfl)) (by rfl))) pa_nil (star_tup _ _ _ _ _)) (star_tup _ _ _ _ _))) pa_nil (star_tup _ _ _ _ _)) (by rfl))))) pss_nil) (@pss_cons _ _ _ _ _ (@ps_if _ _ _ _ _ _ _ _ (@pt_cmpR _ _ _ _ _ _ _ _ op_eq (@pv _ 1 _ _ (by rfl) (by first | exact Or.inl rfl | exact Or.inr (Or.inl rfl) | exact Or.inr (Or.inr rfl)) (by decide) (by decide)) pe_int (nomark _)) (@pss_one _ _ _ (@ps_ret _ _ _ _ (@pe_tup _ _ _ _ _ (@pa_cons _ _ _ _ _ pe_str (@pa_cons _ _ _ _ _ (@pe_fn _ _ _ _ _ _ _ _ _ _ _ _ Z0S hr (@pa_cons _ _ _ _ _ (@pv _ 0 _ _ (by rfl) (by first | exact Or.inl rfl | exact Or.inr (Or.inl rfl) | exact Or.inr (Or.inr rfl)) (by decide) (by decide)) pa_nil (by rfl)) (by omega) (by rfl) (by rfl) (by decide) (by rfl) (by rfl)) pa_nil (by rfl)) (by rfl))))) pss_nil) (@pss_cons _ _ _ _ _ (@ps_if _ _ _ _ _ _ _ _ (@pt_cmpR _ _ _ _ _ _ _ _ op_eq (@pv _ 1 _ _ (by rfl) (by first | exact Or.inl rfl | exact Or.inr (Or.inl rfl) | exact Or.inr (Or.inr rfl)) (by decide) (by decide)) pe_int (nomark _)) (@pss_one _ _ _ (@ps_ret _ _ _ _ (@pe_tup _ _ _ _ _ (@pa_cons _ _ _ _ _ pe_str (@pa_cons _ _ _ _ _ pe_str pa_nil (by rfl)) (by rfl))))) pss_nil) (@pss_one _ _ _ (@ps_ret _ _ _ _ (@pe_fn _ _ _ _ _ _ _ _ _ _ _ _ Z0S hr (@pa_cons _ _ _ _ _ (@pv _ 0 _ _ (by rfl) (by first | exact Or.inl rfl | exact Or.inr (Or.inl rfl) | exact Or.inr (Or.inr rfl)) (by decide) (by decide)) pa_nil (by rfl)) (by omega) (by rfl) (by rfl) (by decide) (by rfl) (by rfl)))))))), ?_⟩
  walk_at "rd"
  refine ⟨D, rfl, hD, fun y H1 hy s1 f1 => ⟨_, rfl, by decide, ite2 (fun _ => ?_) (fun _ => ite2 (fun _ => ?_) (fun _ => ite2 (fun _ => ?_) (fun _ => ?_)))⟩⟩
  · refine ⟨D, rfl, f1, fun p1 q1 H2 l1 s2 f2 d1 => ⟨few (by decide), fun t1 g1 => ?_⟩⟩
    have w1 := Same.upd_new g1 (.tup [.str "one", .ref p1])
    refine ⟨D, rfl, f2.new g1, fun p2 q2 H3 l2 s3 f3 d2 => ⟨few (by decide), fun t2 g2 => ⟨few (by decide), fun t3 g3 => ⟨few (by decide), fun t4 g4 => ?_⟩⟩⟩⟩
    have w2 := Same.upd_new g2 (.tup [.str "two", .ref p2])
    have w3 := Same.upd_new g3 (.tup [.ref t1, .ref t2])
    have w4 := Same.upd_new g4 (.tup [.str "pick", .ref t3])
    obtain ⟨zs, hz⟩ := (f2.new (o := .tup [.str "one", .ref p1]) g1).lst
    have tk := sb_tupk s3 hz
    have nt1 : t1 ≠ D := ne_of upd_same hz (by intro z; cases z)
    have e1 : H3 t1 = some (.tup [.str "one", .ref p1]) := s3 _ _ nt1 upd_same
    have d1' := ((d1.keep w1).tupk tk).keep ((w2.trans w3).trans w4)
    have d2' := d2.keep ((w2.trans w3).trans w4)
    have hok : okS [(nT, lf0)] (.pick [nO, nW] [q1, q2]) := by
      rw [okS]
      exact ⟨rfl, (by simp : [q1, q2].length ≤ 100), by rw [okSs, okSs, okSs]; exact ⟨leaf_ok l1, leaf_ok l2, trivial⟩⟩
    have k1 := leaf_kdep l1
    have k2 := leaf_kdep l2
    have hdep : (kd (.pick [nO, nW] [q1, q2])).depth ≤ 4 := by
      simp only [kd, kdp, PyData.depth, PyData.depthAll]
      omega
    refine q t4 (.pick [nO, nW] [q1, q2]) _ ⟨hok, ?_, ?_, hdep⟩ (fun z o hz1 e => ?_) (((f3.new g2).new g3).new g4) ⟨?_, ko_kd _, by omega⟩
    · simp only [dep, deps, leaf_dep l1, leaf_dep l2]; decide
    · simp only [wt, wts, leaf_wt l1, leaf_wt l2]; decide
    · exact ((w2.trans w3).trans w4) _ _ (s3 _ _ hz1 (w1 _ _ (s2 _ _ hz1 (s1 _ _ hz1 e))))
    · simp only [kd, kdp]
      rw [S_one, S_two]
      exact .tup (SqT.of upd_same) (.cons (.str _ (by decide +kernel)) (.cons (.tup (SqT.of (w4 _ _ upd_same)) (.cons (.tup (SqT.of (((w2.trans w3).trans w4) _ _ e1)) (.cons (.str _ (by decide +kernel)) (.cons d1'.den .nil))) (.cons (.tup (SqT.of ((w3.trans w4) _ _ upd_same)) (.cons (.str _ (by decide +kernel)) (.cons d2'.den .nil))) .nil))) .nil))
  · refine ⟨D, rfl, f1, fun p1 q1 H2 l1 s2 f2 d1 => ⟨few (by decide), fun t1 g1 => ?_⟩⟩
    have w1 := Same.upd_new g1 (.tup [.str "many", .ref p1])
    have k1 := leaf_kdep l1
    have hdep : (kd (.many q1)).depth ≤ 4 := by
      simp only [kd, PyData.depth, PyData.depthAll]
      omega
    refine q t1 (.many q1) _ ⟨by rw [okS]; exact leaf_ok l1, by simp only [dep, leaf_dep l1]; decide, by simp only [wt, leaf_wt l1]; decide, hdep⟩ (fun z o hz1 e => w1 _ _ (s2 _ _ hz1 (s1 _ _ hz1 e))) (f2.new g1) ⟨?_, ko_kd _, by omega⟩
    rw [kd]
    exact .tup (SqT.of upd_same) (.cons (.str _ (by decide +kernel)) (.cons (d1.keep w1).den .nil))
  · refine ⟨few (by decide), fun t1 g1 => ?_⟩
    have w1 := Same.upd_new g1 (.tup [.str "use", .str "tree"])
    refine q t1 (.use nT) _ ⟨by rw [okS]; exact ⟨(nT, lf0), by simp, hl0⟩, by simp [dep], by simp [wt], by simp [kd, PyData.depth, PyData.depthAll]⟩ (fun z o hz1 e => w1 _ _ (s1 _ _ hz1 e)) (f1.new g1) ⟨?_, ko_kd _, by simp [kd, PyData.depth, PyData.depthAll]⟩
    rw [kd, S_tree]
    exact .tup (SqT.of upd_same) (.cons (.str _ (by decide +kernel)) (.cons (.str _ (by decide +kernel)) .nil))
  · exact ⟨D, rfl, f1, fun p1 q1 H2 l1 s2 f2 d1 => q p1 q1 H2 (part_leaf l1) (s1.trans s2) f2 d1⟩
def sg (n : Nat) (f : Nat → Int) : Int := ((List.range n).map f).sum
theorem sg_zero (f : Nat → Int) : sg 0 f = 0 := rfl
theorem sg_succ (n : Nat) (f : Nat → Int) : sg (n + 1) f = sg n f + f n := by simp [sg, List.range_succ]
theorem sg_congr {n : Nat} {f g : Nat → Int} (h : ∀ i, i < n → f i = g i) : sg n f = sg n g := by
  unfold sg
  rw [List.map_congr_left fun i hi => h i (List.mem_range.mp hi)]
theorem sg_add (n : Nat) (f g : Nat → Int) : sg n (fun i => f i + g i) = sg n f + sg n g := by
  induction n with
  | zero => rfl
  | succ n ih => rw [sg_succ, sg_succ, sg_succ, ih]; omega
theorem sg_mul (n : Nat) (c : Int) (f : Nat → Int) : sg n (fun i => c * f i) = c * sg n f := by
  induction n with
  | zero => rw [sg_zero, sg_zero, Int.mul_zero]
  | succ n ih => rw [sg_succ, sg_succ, ih, Int.mul_add]
theorem sg_mulr (n : Nat) (c : Int) (f : Nat → Int) : sg n (fun i => f i * c) = sg n f * c := by
  rw [Int.mul_comm, ← sg_mul]
  exact sg_congr fun i _ => Int.mul_comm _ _
theorem sg_front (n : Nat) (f : Nat → Int) : sg (n + 1) f = f 0 + sg n fun i => f (i + 1) := by
  induction n with
  | zero => rw [sg_succ, sg_zero, sg_zero]; omega
  | succ n ih => rw [sg_succ, ih, sg_succ]; omega
theorem sg_rev : ∀ (n : Nat) (f : Nat → Int), sg (n + 1) (fun j => f (n - j)) = sg (n + 1) f
  | 0, f => rfl
  | n + 1, f => by
    rw [sg_front, sg_succ (n + 1) f, ← sg_rev n f]
    have : sg (n + 1) (fun i => f (n + 1 - (i + 1))) = sg (n + 1) fun j => f (n - j) := sg_congr fun i _ => by rw [show n + 1 - (i + 1) = n - i by omega]
    rw [this, Nat.sub_zero]
    omega
theorem sg_tri (F : Nat → Nat → Int) : ∀ n, sg n (fun j => sg (n - j) fun i => F i j) = sg n fun m => sg (m + 1) fun i => F i (m - i)
  | 0 => rfl
  | n + 1 => by
    rw [sg_succ, sg_succ n (fun m => sg (m + 1) fun i => F i (m - i)), ← sg_tri F n]
    have e1 : sg n (fun j => sg (n + 1 - j) fun i => F i j) = sg n (fun j => (sg (n - j) fun i => F i j) + F (n - j) j) := sg_congr fun j hj => by
      rw [show n + 1 - j = (n - j) + 1 by omega, sg_succ]
    have e2 : sg (n + 1) (fun i => F i (n - i)) = sg (n + 1) (fun j => F (n - j) j) := by
      rw [← sg_rev n (fun i => F i (n - i))]
      exact sg_congr fun j hj => by rw [show n - (n - j) = j by omega]
    rw [e1, sg_add, e2, sg_succ n (fun j => F (n - j) j), show n + 1 - n = 1 by omega, sg_succ 0, sg_zero, Nat.sub_self]
    omega
def delta (k : Nat) : Int := if k = 0 then 1 else 0
def conv (a b : Nat → Int) (k : Nat) : Int := sg (k + 1) fun j => a (k - j) * b j
def dueL : (Nat → Int) → List (Nat → Int) → Nat → Int
  | d, [] => d
  | d, f :: fs => dueL (conv d f) fs
def rowF : List (Nat → Int) → Nat → Int
  | [] => delta
  | f :: fs => fun k => sg (k + 1) fun i => f i * rowF fs (k - i)
theorem conv_delta (d : Nat → Int) : conv d delta = d := by
  funext k
  unfold conv
  rw [sg_front]
  have : sg k (fun i => d (k - (i + 1)) * delta (i + 1)) = sg k fun _ => 0 := sg_congr fun i _ => by rw [delta, if_neg (by omega), Int.mul_zero]
  have z : sg k (fun _ => 0) = 0 := by
    induction k with
    | zero => rfl
    | succ k ih => rw [sg_succ]; rw [show sg k (fun _ => 0) = 0 from by clear ih this; induction k with | zero => rfl | succ k ih => rw [sg_succ, ih]; rfl]; rfl
  rw [this, z, delta, if_pos rfl, Nat.sub_zero, Int.mul_one, Int.add_zero]
theorem delta_conv (g : Nat → Int) : conv delta g = g := by
  have e : ∀ k, conv delta g k = conv g delta k := fun k => by
    unfold conv
    rw [← sg_rev k fun j => delta (k - j) * g j]
    exact sg_congr fun j hj => by rw [show k - (k - j) = j by omega, Int.mul_comm]
  funext k
  rw [e k, conv_delta]
theorem conv_assoc (d f g : Nat → Int) : conv (conv d f) g = conv d fun k => sg (k + 1) fun i => f i * g (k - i) := by
  funext k
  unfold conv
  have e1 : sg (k + 1) (fun j => (sg (k - j + 1) fun i => d (k - j - i) * f i) * g j) = sg (k + 1) (fun j => sg (k + 1 - j) fun i => d (k - (i + j)) * (f i * g j)) := sg_congr fun j hj => by
    rw [← sg_mulr, show k - j + 1 = k + 1 - j by omega]
    exact sg_congr fun i _ => by rw [show k - j - i = k - (i + j) by omega, Int.mul_assoc]
  have e2 : sg (k + 1) (fun m => d (k - m) * sg (m + 1) fun i => f i * g (m - i)) = sg (k + 1) (fun m => sg (m + 1) fun i => d (k - (i + (m - i))) * (f i * g (m - i))) := sg_congr fun m hm => by
    rw [← sg_mul]
    exact sg_congr fun i hi => by rw [show i + (m - i) = m by omega]
  rw [e1, e2]
  exact sg_tri (fun i j => d (k - (i + j)) * (f i * g j)) (k + 1)
theorem dueL_eq : ∀ (fs : List (Nat → Int)) (d : Nat → Int), dueL d fs = conv d (rowF fs)
  | [], d => (conv_delta d).symm
  | f :: fs, d => by
    rw [dueL, dueL_eq fs, conv_assoc]
    rfl
theorem due_row (fs : List (Nat → Int)) : dueL delta fs = rowF fs := by rw [dueL_eq, delta_conv]
theorem row_rowF (bk : List Nat → Sh) : ∀ ps : List Sh, rowc bk ps = rowF (ps.map (cnt bk))
  | [] => by funext k; rw [rowc_nil]; rfl
  | p :: ps => by
    funext k
    rw [rowc_cons, row_rowF bk ps]
    rfl
theorem dueL_snoc : ∀ (fs : List (Nat → Int)) (d f : Nat → Int), dueL d (fs ++ [f]) = conv (dueL d fs) f
  | [], d, f => rfl
  | g :: fs, d, f => by rw [List.cons_append, dueL, dueL, dueL_snoc]
theorem cnts_delta (n : Nat) : cnts delta (n + 1) = [V.int 1] ++ List.replicate n (.int 0) := by
  induction n with
  | zero => rfl
  | succ n ih => rw [cnts_succ, ih, List.append_assoc, List.replicate_succ', delta, if_neg (by omega)]
def Z2z (K : PySem.W.Frag) : Sp := fun vs H Q _ => ∃ (a : Addr) (n : Nat) (cs : List Addr) (fs : List (Nat → Int)), vs = [.ref a, .int n] ∧ n ≤ 20 ∧ H a = some (.lst (cs.map V.ref)) ∧ cs.length = fs.length ∧ cs.length ≤ 100 ∧ (∀ (i : Nat) c f, cs[i]? = some c → fs[i]? = some f → H c = some (.lst (cnts f (n + 1)))) ∧ (∀ f ∈ fs, ∀ k, k ≤ n → sm (f k)) ∧ (∀ i k, k ≤ n → sm (dueL delta (fs.take i) k)) ∧
  ∀ D H', Same H H' → H D = none → H' D = some (.lst (cnts (dueL delta fs) (n + 1))) → Q (.ref D) H'
theorem Z4f {Z7 Z2 Z1 Z4 Z6 Z3 Z5 Z0 : Addr} (R : g.Raw "_law_row_due" "_law_row_due" Z1N ["_law_counts_here", "_law_size"]) (ZA : g.mg "range" = none) (b_sum : g.mg "sum" = none) : g.Fn (1) "_law_row_due" ["_law_counts_here", "_law_size"] (Z2z g.K) := by
  refine R.fn Z0R (fun vs H Q E h => by obtain ⟨a, n, cs, fs, rfl, hn, ha, hl, hl100, hc, hsf, hsd, q⟩ := h; rfl) fun f_ cdv A outer s H vs Q E hr h => ?_
  obtain ⟨a, n, cs, fs, rfl, hn, ha, hl, hl100, hc, hsf, hsd, q⟩ := h
  refine ⟨_, (@pss_cons _ _ _ _ _ (@ps_set _ _ (2) _ _ _ _ Z0R.nd rfl (Or.inr rfl) (@pe_op _ _ _ _ _ _ _ _ op_cat (@pe_lst _ _ _ _ (@pa_cons _ _ _ _ _ pe_int pa_nil (by rfl))) (@pe_op _ _ _ _ _ _ _ _ op_rep (@pe_lst _ _ _ _ (@pa_cons _ _ _ _ _ pe_int pa_nil (by rfl))) (@pv _ 1 _ _ (by rfl) (by first | exact Or.inl rfl | exact Or.inr (Or.inl rfl) | exact Or.inr (Or.inr rfl)) (by decide) (by decide)))) (by rfl) (by first | exact .inl rfl | exact .inr rfl | assumption)) (@pss_cons _ _ _ _ _ (@ps_for _ _ _ _ _ _ _ _ PassesOwn.never rfl (@pi_list _ _ _ _ (@pv _ 0 _ _ (by rfl) (by first | exact Or.inl rfl | exact Or.inr (Or.inl rfl) | exact Or.inr (Or.inr rfl)) (by decide) (by decide))) (@pg_name _ _ (3) _ Z0R.nd rfl (Or.inr rfl) (by first | exact .inl rfl | exact .inr rfl | assumption)) (@pss_one _ _ _ (@ps_set _ _ (2) _ _ _ _ Z0R.nd rfl (Or.inr rfl) (@pe_lcD _ (("_law_k" : Str)) _ _ _ _ _ _ ([none, some 2, some 3]) ((["_law_k", "_law_due", "_law_some"] : List Str)) _ (gName 0) _ _ (.own (.cap (i := 2) rfl rfl (by first | exact Or.inl rfl | exact Or.inr rfl) (.cap (i := 3) rfl rfl (by first | exact Or.inl rfl | exact Or.inr rfl) .nil))) rfl (@pi_range1 _ _ _ _ _ _ rfl ZA (@pa_cons _ _ _ _ _ (@pe_op _ _ _ _ _ _ _ _ op_add (@pv _ 1 _ _ (by rfl) (by first | exact Or.inl rfl | exact Or.inr (Or.inl rfl) | exact Or.inr (Or.inr rfl)) (by decide) (by decide)) pe_int) pa_nil (by rfl)) (by rfl)) (fun cl C s₀ H₀ fp pn => (@pg_name _ _ (0) _ (show List.Nodup (["_law_k", "_law_due", "_law_some"] : List Str) by decide +kernel) rfl (Or.inr rfl) (Or.inl rfl))) (fun cl C s₀ H₀ fp pn => pts_nil) (fun cl C s₀ H₀ fp pn => (@pe_bf _ _ _ _ _ _ _ _ _ _ b_sum (call_sum_intsK (K := g.K) rfl) (@pa_cons _ _ _ _ _ (@pe_lc _ _ _ _ _ _ _ ([none, some 1, some 2, some 0]) ((["_law_j", "_law_due", "_law_some", "_law_k"] : List Str)) _ (gName 0) _ _ (.own (.cap (i := 1) rfl rfl (by first | exact Or.inl rfl | exact Or.inr rfl) (.cap (i := 2) rfl rfl (by first | exact Or.inl rfl | exact Or.inr rfl) (.cap (i := 0) rfl rfl (by first | exact Or.inl rfl | exact Or.inr rfl) .nil)))) rfl (@pi_range1 _ _ _ _ _ _ rfl ZA (@pa_cons _ _ _ _ _ (@pe_op _ _ _ _ _ _ _ _ op_add (@pv _ 0 _ _ (by rfl) (by first | exact Or.inl rfl | exact Or.inr (Or.inl rfl) | exact Or.inr (Or.inr rfl)) (by decide) (by decide)) pe_int) pa_nil (by rfl)) (by rfl)) (fun cl C s₀ H₀ fp pn => (@pg_name _ _ (0) _ (show List.Nodup (["_law_j", "_law_due", "_law_some", "_law_k"] : List Str) by decide +kernel) rfl (Or.inl rfl) (Or.inr rfl))) (fun cl C s₀ H₀ fp pn => pts_nil) (fun cl C s₀ H₀ fp pn => (@pe_op _ _ _ _ _ _ _ _ op_mulC (@pe_ix _ _ _ _ _ _ _ (ix_listK (K := g.K)) (@pv _ 1 _ _ (by rfl) (by first | exact Or.inl rfl | exact Or.inr (Or.inl rfl) | exact Or.inr (Or.inr rfl)) (by decide) (by decide)) (@pe_op _ _ _ _ _ _ _ _ op_sub (@pv _ 3 _ _ (by rfl) (by first | exact Or.inl rfl | exact Or.inr (Or.inl rfl) | exact Or.inr (Or.inr rfl)) (by decide) (by decide)) (@pv _ 0 _ _ (by rfl) (by first | exact Or.inl rfl | exact Or.inr (Or.inl rfl) | exact Or.inr (Or.inr rfl)) (by decide) (by decide))) (fun _ _ => rfl)) (@pe_ix _ _ _ _ _ _ _ (ix_listK (K := g.K)) (@pv _ 2 _ _ (by rfl) (by first | exact Or.inl rfl | exact Or.inr (Or.inl rfl) | exact Or.inr (Or.inr rfl)) (by decide) (by decide)) (@pv _ 0 _ _ (by rfl) (by first | exact Or.inl rfl | exact Or.inr (Or.inl rfl) | exact Or.inr (Or.inr rfl)) (by decide) (by decide)) (fun _ _ => rfl)))) (by intro x hx; simp at hx; first | (subst hx; (first | exact Or.inl rfl | exact Or.inr rfl)) | (rcases hx with rfl | rfl <;> (first | exact Or.inl rfl | exact Or.inr rfl)) | (rcases hx with rfl | rfl | rfl <;> (first | exact Or.inl rfl | exact Or.inr rfl)) | (rcases hx with rfl | rfl | rfl | rfl <;> (first | exact Or.inl rfl | exact Or.inr rfl)) | (rcases hx with rfl | rfl | rfl | rfl | rfl <;> (first | exact Or.inl rfl | exact Or.inr rfl))) (by rfl) (by decide) (by decide +kernel) (by intro _; rfl)) pa_nil (by rfl)) (by decide +kernel) (by rfl) (by rfl) (by decide) (by decide) (by rfl) (by rfl))) (by intro x hx; simp at hx; first | (subst hx; (first | exact Or.inl rfl | exact Or.inr rfl)) | (rcases hx with rfl | rfl <;> (first | exact Or.inl rfl | exact Or.inr rfl)) | (rcases hx with rfl | rfl | rfl <;> (first | exact Or.inl rfl | exact Or.inr rfl)) | (rcases hx with rfl | rfl | rfl | rfl <;> (first | exact Or.inl rfl | exact Or.inr rfl)) | (rcases hx with rfl | rfl | rfl | rfl | rfl <;> (first | exact Or.inl rfl | exact Or.inr rfl))) (by rfl) (by intro _ _; rfl) (by rfl) (by decide +kernel) (by decide +kernel) (by intro _; rfl)) (by rfl) (by first | exact .inl rfl | exact .inr rfl | assumption))) (by intro _; rfl)) (@pss_one _ _ _ (@ps_ret _ _ _ _ (@pv _ 2 _ _ (by rfl) (by first | exact Or.inl rfl | exact Or.inr (Or.inl rfl) | exact Or.inr (Or.inr rfl)) (by decide) (by decide)))))), ?_⟩
  walk_at "rd"
  refine ⟨few (by decide), fun p1 g1 => ⟨few (by decide), fun p2 g2 => ?_⟩⟩
  have w1 := Same.upd_new g1 (.lst [.int 1])
  have w2 := Same.upd_new g2 (.lst [.int 0])
  refine ⟨p2, n, [.int 0], rfl, rfl, upd_same, by omega, by omega, few (by simp; omega), fun p3 g3 => ?_⟩
  rw [show (List.replicate (n : Int).toNat [V.int 0]).flatten = List.replicate n (.int 0) by simp]
  have w3 := Same.upd_new g3 (.lst (List.replicate n (.int 0)))
  have w13 := (w1.trans w2).trans w3
  refine ⟨p3, rfl, _, (w2.trans w3) _ _ upd_same, _, upd_same, few (by simp; omega), fun p4 g4 => ?_⟩
  have w4 := Same.upd_new g4 (.lst ([V.int 1] ++ List.replicate n (.int 0)))
  have w14 := w13.trans w4
  refine tFor_listN (K := g.K) (xs := cs.map V.ref) (fun c i σ H' => c = a ∧ Same H H' ∧ ∃ (D : Addr) (o : Option V), σ = [some (.ref a), some (.int n), some (.ref D), o] ∧ H D = none ∧ H' D = some (.lst (cnts (dueL delta (fs.take i)) (n + 1)))) (fun R r => by walk_at "rd"; exact r a _ ⟨rfl, w14, p4, none, rfl, w13.free g4, by rw [upd_same]; exact congrArg (fun l => some (HO.lst l)) (cnts_delta n).symm⟩) (fun c i σ H' _ ⟨e, s, _⟩ => by subst e; exact SqL.of (s _ _ ha)) ?_ ?_
  · rintro c i x σ H' hx ⟨rfl, s1, D, o, rfl, hD, hd⟩
    rw [List.getElem?_map] at hx
    obtain ⟨b, hb, rfl⟩ := Option.map_eq_some_iff.mp hx
    have hi := (List.getElem?_eq_some_iff.mp hb).1
    have hf : fs[i]? = some (fs[i]'(by omega)) := List.getElem?_eq_getElem _
    generalize fs[i]'(by omega) = f at hf
    have hbH := s1 _ _ (hc i b f hb hf)
    have hsf' := hsf f (List.mem_of_getElem? hf)
    walk_at "rd"
    refine tLC_rangeG (n := n + 1) (fun k => V.int (conv (dueL delta (fs.take i)) f k)) (fun R r => by walk_at "rd"; exact r H' (.refl _)) (by omega) ?_ ?_
    · intro k H2 hk s2 R r
      walk_at "rd"
      refine tLC_rangeG (n := k + 1) (fun j => V.int (dueL delta (fs.take i) (k - j) * f j)) (fun R r => by walk_at "rd"; exact r H2 (.refl _)) (by omega) ?_ ?_
      · intro j H3 hj s3 R r
        obtain ⟨n1, b0, b1⟩ := hsd i (k - j) (by omega)
        obtain ⟨n2, b2, b3⟩ := hsf' j (by omega)
        walk_at "rd"
        rw [show (k : Int) - (j : Int) = ((k - j : Nat) : Int) by omega]
        exact ⟨_, SqL.of (s3 _ _ (s2 _ _ hd)), _, cnts_at _ (by omega), _, SqL.of (s3 _ _ (s2 _ _ hbH)), _, cnts_at _ (by omega), _, rfl, _, rfl, .inl (cm b1 b3 (by omega)), r H3 (.refl _)⟩
      · intro E0' H3 hE s3 hd3
        refine ⟨E0', rfl, (List.range (k + 1)).map fun j => dueL delta (fs.take i) (k - j) * f j, SqL.of (by rw [hd3, List.map_map]; rfl), ?_⟩
        exact r H3 s3
    · intro D2 H2 hD2 s2 hd2
      refine ⟨s1.trans s2, D2, rfl, s1.free hD2, ?_⟩
      rw [hd2, take_snoc hf, dueL_snoc]
      rfl
  · rintro c σ H' ⟨rfl, s1, D, o, rfl, hD, hd⟩
    walk_at "rd"
    rw [List.length_map, hl, List.take_length] at hd
    exact q D H' s1 hD hd
def Z24 (K : PySem.W.Frag) : Sp := fun vs H Q _ => ∃ (c : Addr) (n : Nat) (f mf : Nat → Int), vs = [.ref c, .int n] ∧ n ≤ 20 ∧ H c = some (.lst (cnts f (n + 1))) ∧ mf 0 = 1 ∧ (∀ k, mf (k + 1) = sg (k + 1) fun j => f j * mf (k - j)) ∧ (∀ k, k ≤ n → sm (f k) ∧ sm (mf k)) ∧
  ∀ D H', Same H H' → H D = none → H' D = some (.lst (cnts mf (n + 1))) → Q (.ref D) H'
theorem Z4b {Z7 Z2 Z1 Z4 Z6 Z3 Z5 Z0 : Addr} (R : g.Raw "_law_many_due" "_law_many_due" Z1G ["_law_some", "_law_size"]) (ZA : g.mg "range" = none) (b_sum : g.mg "sum" = none) : g.Fn (1) "_law_many_due" ["_law_some", "_law_size"] (Z24 g.K) := by
  refine R.fn Z1l (fun vs H Q E h => by obtain ⟨c, n, f, mf, rfl, hn, hc, m0, ms, hsm, q⟩ := h; rfl) fun f_ cdv A outer s H vs Q E hr h => ?_
  obtain ⟨c, n, f, mf, rfl, hn, hc, m0, ms, hsm, q⟩ := h
  refine ⟨_, (@pss_cons _ _ _ _ _ (@ps_set _ _ (2) _ _ _ _ Z1l.nd rfl (Or.inr rfl) (@pe_lst _ _ _ _ (@pa_cons _ _ _ _ _ pe_int pa_nil (by rfl))) (by rfl) (by first | exact .inl rfl | exact .inr rfl | assumption)) (@pss_cons _ _ _ _ _ (@ps_for _ _ _ _ _ _ _ _ PassesOwn.never rfl (@pi_range1 _ _ _ _ _ _ rfl ZA (@pa_cons _ _ _ _ _ (@pv _ 1 _ _ (by rfl) (by first | exact Or.inl rfl | exact Or.inr (Or.inl rfl) | exact Or.inr (Or.inr rfl)) (by decide) (by decide)) pa_nil (by rfl)) (by rfl)) (@pg_name _ _ (3) _ Z1l.nd rfl (Or.inr rfl) (by first | exact .inl rfl | exact .inr rfl | assumption)) (@pss_one _ _ _ (@ps_expr _ _ _ _ (@pe_bm _ _ _ _ _ _ _ _ _ _ _ _ PySem.F.plainAttrs_list PySem.F.slot_list_append PySem.F.type_list_append mt_append (@pv _ 2 _ _ (by rfl) (by first | exact Or.inl rfl | exact Or.inr (Or.inl rfl) | exact Or.inr (Or.inr rfl)) (by decide) (by decide)) (@pa_cons _ _ _ _ _ (@pe_bf _ _ _ _ _ _ _ _ _ _ b_sum call_sum_ints (@pa_cons _ _ _ _ _ (@pe_lc _ _ _ _ _ _ _ ([none, some 0, some 2, some 3]) ((["_law_j", "_law_some", "_law_due", "_law_k"] : List Str)) _ (gName 0) _ _ (.own (.cap (i := 0) rfl rfl (by first | exact Or.inl rfl | exact Or.inr rfl) (.cap (i := 2) rfl rfl (by first | exact Or.inl rfl | exact Or.inr rfl) (.cap (i := 3) rfl rfl (by first | exact Or.inl rfl | exact Or.inr rfl) .nil)))) rfl (@pi_range1 _ _ _ _ _ _ rfl ZA (@pa_cons _ _ _ _ _ (@pe_op _ _ _ _ _ _ _ _ op_add (@pv _ 3 _ _ (by rfl) (by first | exact Or.inl rfl | exact Or.inr (Or.inl rfl) | exact Or.inr (Or.inr rfl)) (by decide) (by decide)) pe_int) pa_nil (by rfl)) (by rfl)) (fun cl C s₀ H₀ fp pn => (@pg_name _ _ (0) _ (show List.Nodup (["_law_j", "_law_some", "_law_due", "_law_k"] : List Str) by decide +kernel) rfl (Or.inl rfl) (Or.inr rfl))) (fun cl C s₀ H₀ fp pn => pts_nil) (fun cl C s₀ H₀ fp pn => (@pe_op _ _ _ _ _ _ _ _ op_mulC (@pe_ix _ _ _ _ _ _ _ (ix_listK (K := g.K)) (@pv _ 1 _ _ (by rfl) (by first | exact Or.inl rfl | exact Or.inr (Or.inl rfl) | exact Or.inr (Or.inr rfl)) (by decide) (by decide)) (@pv _ 0 _ _ (by rfl) (by first | exact Or.inl rfl | exact Or.inr (Or.inl rfl) | exact Or.inr (Or.inr rfl)) (by decide) (by decide)) (fun _ _ => rfl)) (@pe_ix _ _ _ _ _ _ _ (ix_listK (K := g.K)) (@pv _ 2 _ _ (by rfl) (by first | exact Or.inl rfl | exact Or.inr (Or.inl rfl) | exact Or.inr (Or.inr rfl)) (by decide) (by decide)) (@pe_op _ _ _ _ _ _ _ _ op_sub (@pv _ 3 _ _ (by rfl) (by first | exact Or.inl rfl | exact Or.inr (Or.inl rfl) | exact Or.inr (Or.inr rfl)) (by decide) (by decide)) (@pv _ 0 _ _ (by rfl) (by first | exact Or.inl rfl | exact Or.inr (Or.inl rfl) | exact Or.inr (Or.inr rfl)) (by decide) (by decide))) (fun _ _ => rfl)))) (by intro x hx; simp at hx; first | (subst hx; exact Or.inl rfl) | (rcases hx with rfl | rfl <;> exact Or.inl rfl) | (rcases hx with rfl | rfl | rfl <;> exact Or.inl rfl) | (rcases hx with rfl | rfl | rfl | rfl <;> exact Or.inl rfl) | (rcases hx with rfl | rfl | rfl | rfl | rfl <;> exact Or.inl rfl)) (by rfl) (by decide) (by decide +kernel) (by intro _; rfl)) pa_nil (by rfl)) (by decide +kernel) (by rfl) (by rfl) (by decide) (by decide) (by rfl) (by rfl)) pa_nil (by rfl)) (by rfl) (by rfl) (by rfl) (by rfl) (by rfl)) (by rfl))) (by intro _; rfl)) (@pss_one _ _ _ (@ps_ret _ _ _ _ (@pv _ 2 _ _ (by rfl) (by first | exact Or.inl rfl | exact Or.inr (Or.inl rfl) | exact Or.inr (Or.inr rfl)) (by decide) (by decide)))))), ?_⟩
  walk_at "rd"
  refine ⟨few (by decide), fun D hD => ?_⟩
  refine tFor_range1 (n := n) (fun i σ H' => ∃ o, σ = [some (.ref c), some (.int n), some (.ref D), o] ∧ Same H H' ∧ H' D = some (.lst (cnts mf (i + 1)))) (fun R r => by walk_at "rd"; exact r) (by omega) ⟨none, rfl, .upd_new hD _, by rw [upd_same, cnts_succ, m0]; rfl⟩ ?_ ?_
  · rintro k σ H' hk ⟨o, rfl, s1, hd⟩
    walk_at "rd"
    refine ⟨.inl ⟨rfl, _, SqL.of hd⟩, ?_⟩
    refine tLC_rangeG (n := k + 1) (fun j => V.int (f j * mf (k - j))) (fun R r => by walk_at "rd"; exact r H' (.refl _)) (by omega) ?_ ?_
    · intro j H3 hj s3 R r
      obtain ⟨⟨n1, b0, b1⟩, _⟩ := hsm j (by omega)
      obtain ⟨_, ⟨n2, b2, b3⟩⟩ := hsm (k - j) (by omega)
      walk_at "rd"
      rw [show (k : Int) - (j : Int) = ((k - j : Nat) : Int) by omega]
      exact ⟨_, SqL.of (s3 _ _ (s1 _ _ hc)), _, cnts_at _ (by omega), _, SqL.of (s3 _ _ hd), _, cnts_at _ (by omega), _, rfl, _, rfl, .inl (cm b1 b3 (by omega)), r H3 (.refl _)⟩
    · intro E0' H3 hE s3 hd3
      refine ⟨E0', rfl, (List.range (k + 1)).map fun j => f j * mf (k - j), SqL.of (by rw [hd3, List.map_map]; rfl), _, s3 _ _ hd, by rw [cnts_len]; exact few (by omega), .upd_over hD (s1.trans s3) _, ?_⟩
      rw [upd_same, cnts_succ mf (k + 1), ms k]
      rfl
  · rintro σ H' ⟨o, rfl, s1, hd⟩
    walk_at "rd"
    exact q D H' s1 hD hd
theorem cutV_m1 (xs : List V) (v : V) : cutV (xs ++ [v]) (some (-1)) none = [v] := by
  unfold cutV
  have e1 : HT.sIx (xs ++ [v]).length 0 (some (-1)) = xs.length := by
    show (if (-1 : Int) < 0 then ((-1 : Int) + ((xs ++ [v]).length : Int)).toNat else min (-1 : Int).toNat (xs ++ [v]).length) = _
    rw [if_pos (by decide), List.length_append]
    simp only [List.length_cons, List.length_nil]
    omega
  rw [e1, HT.sIx_none, List.drop_left, List.length_append]
  simp
theorem refs_of {H : Hp} {P : Nat → Addr → Prop} : ∀ {ys : List V} {o : Nat}, (∀ (j : Nat) y, ys[j]? = some y → ∃ b, y = .ref b ∧ P (o + j) b) → ∃ cs : List Addr, ys = cs.map V.ref ∧ ∀ (i : Nat) b, cs[i]? = some b → P (o + i) b
  | [], o, h => ⟨[], rfl, fun i b h => by simp at h⟩
  | y :: ys, o, h => by
    obtain ⟨b, rfl, hb⟩ := h 0 y rfl
    obtain ⟨cs, rfl, hcs⟩ := refs_of (H := H) (P := P) (ys := ys) (o := o + 1) fun j z hz => by
      obtain ⟨b', e, hb'⟩ := h (j + 1) z (by simpa using hz)
      exact ⟨b', e, by rw [show o + 1 + j = o + (j + 1) by omega]; exact hb'⟩
    refine ⟨b :: cs, rfl, fun i b' hi => ?_⟩
    cases i with
    | zero =>
      have : b = b' := Option.some.inj hi
      subst this
      exact hb
    | succ i =>
      have := hcs i b' (by simpa using hi)
      rw [show o + 1 + i = o + (i + 1) by omega] at this
      exact this
theorem okSs_take {prs : Prs} : ∀ {ps : List Sh} (i : Nat), okSs prs ps → okSs prs (ps.take i)
  | _, 0, _ => by rw [List.take_zero, okSs]; trivial
  | [], i + 1, h => h
  | q :: ps, i + 1, h => by
    rw [okSs] at h
    rw [List.take_succ_cons, okSs]
    exact ⟨h.1, okSs_take i h.2⟩
structure Pts (K : PySem.W.Frag) (H : Hp) (prs : Prs) (as : List Addr) (ps : List Sh) : Prop where
  len : as.length = ps.length
  few : ps.length ≤ 8
  ok : ∀ p ∈ ps, PartOk prs p
  dk : ∀ (i : Nat) a p, as[i]? = some a → ps[i]? = some p → DK K H a (kd p)
theorem Pts.tupk {K : PySem.W.Frag} {H H' : Hp} {prs : Prs} {as : List Addr} {ps : List Sh} (h : Pts K H prs as ps) (t : TupK H H') : Pts K H' prs as ps := ⟨h.len, h.few, h.ok, fun i a p h1 h2 => (h.dk i a p h1 h2).tupk t⟩
theorem okSs_of {prs : Prs} : ∀ {ps : List Sh}, (∀ p ∈ ps, okS prs p) → okSs prs ps
  | [], _ => by rw [okSs]; trivial
  | p :: ps, h => by rw [okSs]; exact ⟨h p (.head _), okSs_of fun q hq => h q (.tail _ hq)⟩
theorem deps_le {n : Nat} : ∀ {ps : List Sh}, (∀ p ∈ ps, dep p ≤ n) → deps ps ≤ n
  | [], _ => by simp [deps]
  | p :: ps, h => by
    have h1 := h p (.head _)
    have h2 := deps_le (ps := ps) fun q hq => h q (.tail _ hq)
    rw [deps]
    omega
theorem wts_le {n : Nat} : ∀ {ps : List Sh}, (∀ p ∈ ps, wt p ≤ n) → wts ps ≤ n * ps.length
  | [], _ => by simp [wts]
  | p :: ps, h => by
    have h1 := h p (.head _)
    have h2 := wts_le (ps := ps) fun q hq => h q (.tail _ hq)
    rw [wts, List.length_cons, Nat.mul_succ]
    omega
theorem kds_depth {n : Nat} : ∀ {ps : List Sh}, (∀ p ∈ ps, (kd p).depth ≤ n) → PyData.depthAll (kds ps) ≤ n
  | [], _ => by simp [kds, PyData.depthAll]
  | p :: ps, h => by
    have h1 := h p (.head _)
    have h2 := kds_depth (ps := ps) fun q hq => h q (.tail _ hq)
    rw [kds]
    simp only [PyData.depthAll]
    omega
theorem dens_of {K : PySem.W.Frag} {H : Hp} : ∀ {as : List Addr} {ps : List Sh}, as.length = ps.length → (∀ (i : Nat) a p, as[i]? = some a → ps[i]? = some p → DK K H a (kd p)) → Dens K H (as.map V.ref) (kds ps)
  | [], [], _, _ => by rw [kds]; exact .nil
  | a :: as, p :: ps, hl, h => by
    rw [kds]
    exact .cons (h 0 a p rfl rfl).den (dens_of (by simpa using hl) fun i b q h1 h2 => h (i + 1) b q (by simpa using h1) (by simpa using h2))
  | [], _ :: _, hl, _ => by simp at hl
  | _ :: _, [], hl, _ => by simp at hl
theorem Pts.oks {K : PySem.W.Frag} {H : Hp} {prs : Prs} {as : List Addr} {ps : List Sh} (h : Pts K H prs as ps) : okSs prs ps := okSs_of fun p hp => (h.ok p hp).1
theorem Pts.row {K : PySem.W.Frag} {H : Hp} {prs : Prs} {as : List Addr} {ps : List Sh} (h : Pts K H prs as ps) : okS prs (.row ps) ∧ dep (.row ps) ≤ 2 ∧ wt (.row ps) ≤ 25 ∧ (kd (.row ps)).depth ≤ 6 := by
  have h1 := deps_le (ps := ps) fun p hp => (h.ok p hp).2.1
  have h2 := wts_le (ps := ps) fun p hp => (h.ok p hp).2.2.1
  have h3 := kds_depth (ps := ps) fun p hp => (h.ok p hp).2.2.2
  have h4 := h.few
  refine ⟨by rw [okS]; exact ⟨by omega, h.oks⟩, by rw [dep]; omega, by rw [wt]; omega, ?_⟩
  rw [kd]
  simp only [PyData.depth, PyData.depthAll]
  omega
theorem Pts.due {K : PySem.W.Frag} {H : Hp} {prs : Prs} {as : List Addr} {ps : List Sh} (h : Pts K H prs as ps) : (∀ f ∈ ps.map (cnt (bkO prs)), ∀ k, k ≤ 45 → sm (f k)) ∧ ∀ i k, k ≤ 45 → sm (dueL delta ((ps.map (cnt (bkO prs))).take i) k) := by
  have h2 := wts_le (ps := ps) fun p hp => (h.ok p hp).2.2.1
  have h4 := h.few
  refine ⟨fun f hf k hk => ?_, fun i k hk => ?_⟩
  · obtain ⟨p, hp, rfl⟩ := List.mem_map.mp hf
    have := (h.ok p hp).2.2.1
    exact sm_of (h.ok p hp).1 (by omega) hk
  · rw [← List.map_take, due_row, ← row_rowF]
    have := wts_take_le ps i
    exact sm_row (okSs_take i h.oks) (by omega) hk
theorem dk_row {K : PySem.W.Frag} {H : Hp} {prs : Prs} {as : List Addr} {ps : List Sh} {p l : Addr} (h : Pts K H prs as ps) (hp : H p = some (.tup [.str "row", .ref l])) (hl : H l = some (.tup (as.map V.ref))) : DK K H p (kd (.row ps)) := by
  have hd := h.row.2.2.2
  refine ⟨?_, ko_kd _, by omega⟩
  rw [kd]
  exact .tup (SqT.of hp) (.cons (.str _ (by decide +kernel)) (.cons (.tup (SqT.of hl) (dens_of h.len h.dk)) .nil))
theorem nm_le2 {sh : Sh} (h : dep sh ≤ 2) : nm sh + 2 ≤ 20 := by unfold nm; split <;> omega
theorem fu_le2 {sh : Sh} {z : Nat} (h : dep sh ≤ 2) (hz : z ≤ 9) : 5 * (z * (dep sh + 1) + dep sh) + 5 ≤ 160 := by
  have : z * (dep sh + 1) ≤ 9 * 3 := Nat.mul_le_mul hz (by omega)
  omega
theorem body_law {k : Nat} {Z7 Z2 Z1 Z4 Z6 Z3 Z5 Z0 : Addr} (F_counted : g.Fn k "counted" ["book", "shape", "size"] (Z49 g.K (Cs.mk Z0 Z3 Z4 Z6 Z2 Z1 Z5) 160)) (Z2f : g.Fn k "counts_to" ["book", "shape", "size"] (Z3w g.K (Cs.mk Z0 Z3 Z4 Z6 Z2 Z1 Z5) 160)) (F_law_feed : g.Fn k "_law_feed" ["_law_script", "_law_many"] (Z3U g.K)) (ZV : g.Fn k "_law_next" ["_law_feed_here"] (Z0B g.K)) (Z1s : g.Fn k "_law_counts" ["_law_found", "_law_due"] (Z3b g.K)) (Z0S : g.Fn k "_law_leaf" ["_law_feed_here"] (Z2e g.K)) (F_law_part : g.Fn k "_law_part" ["_law_feed_here"] (Z3V g.K)) (F_law_row_due : g.Fn k "_law_row_due" ["_law_counts_here", "_law_size"] (Z2z g.K)) (Z4g : g.Fn k "_law_many_due" ["_law_some", "_law_size"] (Z24 g.K)) (b_len : g.mg "len" = none) (ZA : g.mg "range" = none) (Z1Z : g.mg "tuple" = none) : Body g k ["_law_script", "_law_feed_here", "_law_cell", "_law_many", "_law_size", "_law_book", "_law_parts", "_law_counts_here", "_law_some", "_law_due", "_law_first"] "law" s_law (spTrue g.K) := by
  refine fun f_ cdv A outer s H vs Q E hr h => ?_
  obtain ⟨a, ns, rfl, hS, hl, q⟩ := h
  refine ⟨_, (@pss_cons _ _ _ _ _ (@ps_set _ _ (1) _ _ _ _ sc_law.nd rfl (Or.inr rfl) (@pe_fn _ _ _ _ _ _ _ _ _ _ _ _ F_law_feed hr (@pa_cons _ _ _ _ _ (@pv _ 0 _ _ (by rfl) (by first | exact Or.inl rfl | exact Or.inr (Or.inl rfl) | exact Or.inr (Or.inr rfl)) (by decide) (by decide)) (@pa_cons _ _ _ _ _ pe_int pa_nil (by rfl)) (by rfl)) (by omega) (by rfl) (by rfl) (by decide) (by rfl) (by rfl)) (by rfl) (by first | exact .inl rfl | exact .inr rfl | assumption)) (@pss_cons _ _ _ _ _ (@ps_set _ _ (2) _ _ _ _ sc_law.nd rfl (Or.inl rfl) (@pe_fn _ _ _ _ _ _ _ _ _ _ _ _ ZV hr (@pa_cons _ _ _ _ _ (@pv _ 1 _ _ (by rfl) (by first | exact Or.inl rfl | exact Or.inr (Or.inl rfl) | exact Or.inr (Or.inr rfl)) (by decide) (by decide)) pa_nil (by rfl)) (by omega) (by rfl) (by rfl) (by decide) (by rfl) (by rfl)) (by rfl) (by first | exact .inl rfl | exact .inr rfl | assumption)) (@pss_cons _ _ _ _ _ (@ps_set _ _ (3) _ _ _ _ sc_law.nd rfl (Or.inl rfl) (@pe_op _ _ _ _ _ _ _ _ op_mod (@pv _ 2 _ _ (by rfl) (by first | exact Or.inl rfl | exact Or.inr (Or.inl rfl) | exact Or.inr (Or.inr rfl)) (by decide) (by decide)) pe_int) (by rfl) (by first | exact .inl rfl | exact .inr rfl | assumption)) (@pss_cons _ _ _ _ _ (@ps_if _ _ _ _ _ _ _ _ (@pt_cmpR _ _ _ _ _ _ _ _ op_eq (@pe_op _ _ _ _ _ _ _ _ op_mod (@pe_op _ _ _ _ _ _ _ _ op_fdivL (@pv _ 2 _ _ (by rfl) (by first | exact Or.inl rfl | exact Or.inr (Or.inl rfl) | exact Or.inr (Or.inr rfl)) (by decide) (by decide)) pe_int) pe_int) pe_int (nomark _)) (@pss_one _ _ _ (@ps_set _ _ (3) _ _ _ _ sc_law.nd rfl (Or.inl rfl) pe_int (by rfl) (by first | exact .inl rfl | exact .inr rfl | assumption))) pss_nil) (@pss_cons _ _ _ _ _ (@ps_set _ _ (4) _ _ _ _ sc_law.nd rfl (Or.inr rfl) (@pe_op _ _ _ _ _ _ _ _ op_mod (@pe_op _ _ _ _ _ _ _ _ op_fdivL (@pv _ 2 _ _ (by rfl) (by first | exact Or.inl rfl | exact Or.inr (Or.inl rfl) | exact Or.inr (Or.inr rfl)) (by decide) (by decide)) pe_int) pe_int) (by rfl) (by first | exact .inl rfl | exact .inr rfl | assumption)) (@pss_cons _ _ _ _ _ (@ps_set _ _ (5) _ _ _ _ sc_law.nd rfl (Or.inr rfl) (@pe_lst _ _ _ _ (@pa_cons _ _ _ _ _ (@pe_tup _ _ _ _ _ (@pa_cons _ _ _ _ _ pe_str (@pa_cons _ _ _ _ _ (@pe_fn _ _ _ _ _ _ _ _ _ _ _ _ Z0S hr (@pa_cons _ _ _ _ _ (@pv _ 1 _ _ (by rfl) (by first | exact Or.inl rfl | exact Or.inr (Or.inl rfl) | exact Or.inr (Or.inr rfl)) (by decide) (by decide)) pa_nil (by rfl)) (by omega) (by rfl) (by rfl) (by decide) (by rfl) (by rfl)) pa_nil (by rfl)) (by rfl))) pa_nil (star_tup _ _ _ _ _))) (by rfl) (by first | exact .inl rfl | exact .inr rfl | assumption)) (@pss_cons _ _ _ _ _ (@ps_setC _ (6) _ _ _ _ _ _ _ _ _ ([none, some 1]) ((["_law_k", "_law_feed_here"] : List Str)) _ (gName 0) _ _ sc_law.nd rfl (Or.inl rfl) (.own (.cap (i := 1) rfl rfl (by first | exact Or.inl rfl | exact Or.inr rfl) .nil)) rfl (@pi_range1 _ _ _ _ _ _ rfl ZA (@pa_cons _ _ _ _ _ (@pv _ 3 _ _ (by rfl) (by first | exact Or.inl rfl | exact Or.inr (Or.inl rfl) | exact Or.inr (Or.inr rfl)) (by decide) (by decide)) pa_nil (by rfl)) (by rfl)) (fun cl C s₀ H₀ fp pn => (@pg_name _ _ (0) _ (show List.Nodup (["_law_k", "_law_feed_here"] : List Str) by decide +kernel) rfl (Or.inl rfl) (Or.inr rfl))) (fun cl C s₀ H₀ fp pn => pts_nil) (fun cl C s₀ H₀ fp pn => (@pe_fn _ _ _ _ _ _ _ _ _ _ _ _ F_law_part hr (@pa_cons _ _ _ _ _ (@pv _ 1 _ _ (by rfl) (by first | exact Or.inl rfl | exact Or.inr (Or.inl rfl) | exact Or.inr (Or.inr rfl)) (by decide) (by decide)) pa_nil (by rfl)) (by omega) (by rfl) (by rfl) (by decide) (by rfl) (by rfl))) (by intro x hx; simp at hx; first | (subst hx; exact Or.inl rfl) | (rcases hx with rfl | rfl <;> exact Or.inl rfl) | (rcases hx with rfl | rfl | rfl <;> exact Or.inl rfl) | (rcases hx with rfl | rfl | rfl | rfl <;> exact Or.inl rfl) | (rcases hx with rfl | rfl | rfl | rfl | rfl <;> exact Or.inl rfl)) (by rfl) (by decide) (by decide +kernel) (by intro _; rfl) (by rfl) (by first | exact .inl rfl | exact .inr rfl | assumption)) (@pss_cons _ _ _ _ _ (@ps_setC _ (7) _ _ _ _ _ _ _ _ _ ([none, some 5, some 4]) ((["_law_part_here", "_law_book", "_law_size"] : List Str)) _ (gName 0) _ _ sc_law.nd rfl (Or.inl rfl) (.own (.cap (i := 5) rfl rfl (by first | exact Or.inl rfl | exact Or.inr rfl) (.cap (i := 4) rfl rfl (by first | exact Or.inl rfl | exact Or.inr rfl) .nil))) rfl (@pi_list _ _ _ _ (@pv _ 6 _ _ (by rfl) (by first | exact Or.inl rfl | exact Or.inr (Or.inl rfl) | exact Or.inr (Or.inr rfl)) (by decide) (by decide))) (fun cl C s₀ H₀ fp pn => (@pg_name _ _ (0) _ (show List.Nodup (["_law_part_here", "_law_book", "_law_size"] : List Str) by decide +kernel) rfl (Or.inl rfl) (Or.inr rfl))) (fun cl C s₀ H₀ fp pn => pts_nil) (fun cl C s₀ H₀ fp pn => (@pe_fn _ _ _ _ _ _ _ _ _ _ _ _ Z2f hr (@pa_cons _ _ _ _ _ (@pv _ 1 _ _ (by rfl) (by first | exact Or.inl rfl | exact Or.inr (Or.inl rfl) | exact Or.inr (Or.inr rfl)) (by decide) (by decide)) (@pa_cons _ _ _ _ _ (@pv _ 0 _ _ (by rfl) (by first | exact Or.inl rfl | exact Or.inr (Or.inl rfl) | exact Or.inr (Or.inr rfl)) (by decide) (by decide)) (@pa_cons _ _ _ _ _ (@pv _ 2 _ _ (by rfl) (by first | exact Or.inl rfl | exact Or.inr (Or.inl rfl) | exact Or.inr (Or.inr rfl)) (by decide) (by decide)) pa_nil (by rfl)) (by rfl)) (by rfl)) (by omega) (by rfl) (by rfl) (by decide) (by rfl) (by rfl))) (by intro x hx; simp at hx; first | (subst hx; exact Or.inl rfl) | (rcases hx with rfl | rfl <;> exact Or.inl rfl) | (rcases hx with rfl | rfl | rfl <;> exact Or.inl rfl) | (rcases hx with rfl | rfl | rfl | rfl <;> exact Or.inl rfl) | (rcases hx with rfl | rfl | rfl | rfl | rfl <;> exact Or.inl rfl)) (by rfl) (by decide) (by decide +kernel) (by intro _; rfl) (by rfl) (by first | exact .inl rfl | exact .inr rfl | assumption)) (@pss_cons _ _ _ _ _ (@ps_for _ _ _ _ _ _ _ _ PassesOwn.never rfl (@pi_list _ _ _ _ (@pv _ 7 _ _ (by rfl) (by first | exact Or.inl rfl | exact Or.inr (Or.inl rfl) | exact Or.inr (Or.inr rfl)) (by decide) (by decide))) (@pg_name _ _ (8) _ sc_law.nd rfl (Or.inl rfl) (by first | exact .inl rfl | exact .inr rfl | assumption)) (@pss_one _ _ _ (@ps_if _ _ _ _ _ _ _ _ (@pw_or _ _ _ _ _ _ _ (@pt_not _ _ _ _ (@pt_val _ _ _ (@pe_fn _ _ _ _ _ _ _ _ _ _ _ _ Z1s hr (@pa_cons _ _ _ _ _ (@pv _ 8 _ _ (by rfl) (by first | exact Or.inl rfl | exact Or.inr (Or.inl rfl) | exact Or.inr (Or.inr rfl)) (by decide) (by decide)) (@pa_cons _ _ _ _ _ (@pv _ 8 _ _ (by rfl) (by first | exact Or.inl rfl | exact Or.inr (Or.inl rfl) | exact Or.inr (Or.inr rfl)) (by decide) (by decide)) pa_nil (by rfl)) (by rfl)) (by omega) (by rfl) (by rfl) (by decide) (by rfl) (by rfl)) (by intro _; rfl))) (@pw_or1 _ _ _ _ (@pt_cmpR _ _ _ _ _ _ _ _ op_ne (@pe_bf _ _ _ _ _ _ _ _ _ _ b_len call_len_seq (@pa_cons _ _ _ _ _ (@pv _ 8 _ _ (by rfl) (by first | exact Or.inl rfl | exact Or.inr (Or.inl rfl) | exact Or.inr (Or.inr rfl)) (by decide) (by decide)) pa_nil (by rfl)) (by decide +kernel) (by rfl) (by rfl) (by decide) (by decide) (by rfl) (by rfl)) (@pe_op _ _ _ _ _ _ _ _ op_add (@pv _ 4 _ _ (by rfl) (by first | exact Or.inl rfl | exact Or.inr (Or.inl rfl) | exact Or.inr (Or.inr rfl)) (by decide) (by decide)) pe_int) (nomark _)))).pt (@pss_one _ _ _ (@ps_ret _ _ _ _ pe_bl)) pss_nil)) (by intro _; rfl)) (@pss_cons _ _ _ _ _ (@ps_set _ _ (9) _ _ _ _ sc_law.nd rfl (Or.inl rfl) (@pe_fn _ _ _ _ _ _ _ _ _ _ _ _ F_law_row_due hr (@pa_cons _ _ _ _ _ (@pv _ 7 _ _ (by rfl) (by first | exact Or.inl rfl | exact Or.inr (Or.inl rfl) | exact Or.inr (Or.inr rfl)) (by decide) (by decide)) (@pa_cons _ _ _ _ _ (@pv _ 4 _ _ (by rfl) (by first | exact Or.inl rfl | exact Or.inr (Or.inl rfl) | exact Or.inr (Or.inr rfl)) (by decide) (by decide)) pa_nil (by rfl)) (by rfl)) (by omega) (by rfl) (by rfl) (by decide) (by rfl) (by rfl)) (by rfl) (by first | exact .inl rfl | exact .inr rfl | assumption)) (@pss_cons _ _ _ _ _ (@ps_if _ _ _ _ _ _ _ _ (@pt_not _ _ _ _ (@pt_val _ _ _ (@pe_fn _ _ _ _ _ _ _ _ _ _ _ _ Z1s hr (@pa_cons _ _ _ _ _ (@pe_fn _ _ _ _ _ _ _ _ _ _ _ _ Z2f hr (@pa_cons _ _ _ _ _ (@pv _ 5 _ _ (by rfl) (by first | exact Or.inl rfl | exact Or.inr (Or.inl rfl) | exact Or.inr (Or.inr rfl)) (by decide) (by decide)) (@pa_cons _ _ _ _ _ (@pe_tup _ _ _ _ _ (@pa_cons _ _ _ _ _ pe_str (@pa_cons _ _ _ _ _ (@pe_bt _ _ _ _ _ _ _ _ _ _ Z1Z call_tuple_of (@pa_cons _ _ _ _ _ (@pv _ 6 _ _ (by rfl) (by first | exact Or.inl rfl | exact Or.inr (Or.inl rfl) | exact Or.inr (Or.inr rfl)) (by decide) (by decide)) pa_nil (by rfl)) (by decide +kernel) (by rfl) (by rfl) (by decide) (by decide) (by rfl) (by rfl)) pa_nil (by rfl)) (by rfl))) (@pa_cons _ _ _ _ _ (@pv _ 4 _ _ (by rfl) (by first | exact Or.inl rfl | exact Or.inr (Or.inl rfl) | exact Or.inr (Or.inr rfl)) (by decide) (by decide)) pa_nil (by rfl)) (star_tup _ _ _ _ _)) (by rfl)) (by omega) (by rfl) (by rfl) (by decide) (by rfl) (by rfl)) (@pa_cons _ _ _ _ _ (@pv _ 9 _ _ (by rfl) (by first | exact Or.inl rfl | exact Or.inr (Or.inl rfl) | exact Or.inr (Or.inr rfl)) (by decide) (by decide)) pa_nil (by rfl)) (by rfl)) (by omega) (by rfl) (by rfl) (by decide) (by rfl) (by rfl)) (by intro _; rfl))) (@pss_one _ _ _ (@ps_ret _ _ _ _ pe_bl)) pss_nil) (@pss_cons _ _ _ _ _ (@ps_if _ _ _ _ _ _ _ _ (@pt_not _ _ _ _ (@pt_val _ _ _ (@pe_fn _ _ _ _ _ _ _ _ _ _ _ _ Z1s hr (@pa_cons _ _ _ _ _ (@pe_lst _ _ _ _ (@pa_cons _ _ _ _ _ (@pe_fn _ _ _ _ _ _ _ _ _ _ _ _ F_counted hr (@pa_cons _ _ _ _ _ (@pv _ 5 _ _ (by rfl) (by first | exact Or.inl rfl | exact Or.inr (Or.inl rfl) | exact Or.inr (Or.inr rfl)) (by decide) (by decide)) (@pa_cons _ _ _ _ _ (@pe_tup _ _ _ _ _ (@pa_cons _ _ _ _ _ pe_str (@pa_cons _ _ _ _ _ (@pe_bt _ _ _ _ _ _ _ _ _ _ Z1Z call_tuple_of (@pa_cons _ _ _ _ _ (@pv _ 6 _ _ (by rfl) (by first | exact Or.inl rfl | exact Or.inr (Or.inl rfl) | exact Or.inr (Or.inr rfl)) (by decide) (by decide)) pa_nil (by rfl)) (by decide +kernel) (by rfl) (by rfl) (by decide) (by decide) (by rfl) (by rfl)) pa_nil (by rfl)) (by rfl))) (@pa_cons _ _ _ _ _ (@pv _ 4 _ _ (by rfl) (by first | exact Or.inl rfl | exact Or.inr (Or.inl rfl) | exact Or.inr (Or.inr rfl)) (by decide) (by decide)) pa_nil (by rfl)) (star_tup _ _ _ _ _)) (by rfl)) (by omega) (by rfl) (by rfl) (by decide) (by rfl) (by rfl)) pa_nil (by rfl))) (@pa_cons _ _ _ _ _ (@pe_slice _ _ _ _ _ _ _ _ _ _ sl_list (@pv _ 9 _ _ (by rfl) (by first | exact Or.inl rfl | exact Or.inr (Or.inl rfl) | exact Or.inr (Or.inr rfl)) (by decide) (by decide)) (@po_some _ _ _ (@pe_un _ _ _ _ _ _ un_neg pe_int)) po_none) pa_nil (by rfl)) (star_lst _ _ _ _)) (by omega) (by rfl) (by rfl) (by decide) (by rfl) (by rfl)) (by intro _; rfl))) (@pss_one _ _ _ (@ps_ret _ _ _ _ pe_bl)) pss_nil) (@pss_cons _ _ _ _ _ (@ps_set _ _ (10) _ _ _ _ sc_law.nd rfl (Or.inl rfl) (@pe_tup _ _ _ _ _ (@pa_cons _ _ _ _ _ pe_str (@pa_cons _ _ _ _ _ (@pe_tup _ _ _ _ _ pa_nil) pa_nil (star_tup _ _ _ _ _)) (by rfl))) (by rfl) (by first | exact .inl rfl | exact .inr rfl | assumption)) (@pss_cons _ _ _ _ _ (@ps_set _ _ (8) _ _ _ _ sc_law.nd rfl (Or.inl rfl) (@pe_op _ _ _ _ _ _ _ _ op_cat (@pe_lst _ _ _ _ (@pa_cons _ _ _ _ _ pe_int pa_nil (by rfl))) (@pe_op _ _ _ _ _ _ _ _ op_rep (@pe_lst _ _ _ _ (@pa_cons _ _ _ _ _ pe_int pa_nil (by rfl))) (@pv _ 4 _ _ (by rfl) (by first | exact Or.inl rfl | exact Or.inr (Or.inl rfl) | exact Or.inr (Or.inr rfl)) (by decide) (by decide)))) (by rfl) (by first | exact .inl rfl | exact .inr rfl | assumption)) (@pss_cons _ _ _ _ _ (@ps_if _ _ _ _ _ _ _ _ (@pt_cmpR _ _ _ _ _ _ _ _ op_gt (@pv _ 3 _ _ (by rfl) (by first | exact Or.inl rfl | exact Or.inr (Or.inl rfl) | exact Or.inr (Or.inr rfl)) (by decide) (by decide)) pe_int (nomark _)) (@pss_cons _ _ _ _ _ (@ps_set _ _ (10) _ _ _ _ sc_law.nd rfl (Or.inl rfl) (@pe_ix _ _ _ _ _ _ _ ix_list (@pv _ 6 _ _ (by rfl) (by first | exact Or.inl rfl | exact Or.inr (Or.inl rfl) | exact Or.inr (Or.inr rfl)) (by decide) (by decide)) pe_int (fun _ _ => rfl)) (by rfl) (by first | exact .inl rfl | exact .inr rfl | assumption)) (@pss_one _ _ _ (@ps_set _ _ (8) _ _ _ _ sc_law.nd rfl (Or.inl rfl) (@pe_ix _ _ _ _ _ _ _ ix_list (@pv _ 7 _ _ (by rfl) (by first | exact Or.inl rfl | exact Or.inr (Or.inl rfl) | exact Or.inr (Or.inr rfl)) (by decide) (by decide)) pe_int (fun _ _ => rfl)) (by rfl) (by first | exact .inl rfl | exact .inr rfl | assumption)))) pss_nil) (@pss_one _ _ _ (@ps_ret _ _ _ _ (@pe_fn _ _ _ _ _ _ _ _ _ _ _ _ Z1s hr (@pa_cons _ _ _ _ _ (@pe_fn _ _ _ _ _ _ _ _ _ _ _ _ Z2f hr (@pa_cons _ _ _ _ _ (@pv _ 5 _ _ (by rfl) (by first | exact Or.inl rfl | exact Or.inr (Or.inl rfl) | exact Or.inr (Or.inr rfl)) (by decide) (by decide)) (@pa_cons _ _ _ _ _ (@pe_tup _ _ _ _ _ (@pa_cons _ _ _ _ _ pe_str (@pa_cons _ _ _ _ _ (@pv _ 10 _ _ (by rfl) (by first | exact Or.inl rfl | exact Or.inr (Or.inl rfl) | exact Or.inr (Or.inr rfl)) (by decide) (by decide)) pa_nil (by rfl)) (by rfl))) (@pa_cons _ _ _ _ _ (@pv _ 4 _ _ (by rfl) (by first | exact Or.inl rfl | exact Or.inr (Or.inl rfl) | exact Or.inr (Or.inr rfl)) (by decide) (by decide)) pa_nil (by rfl)) (star_tup _ _ _ _ _)) (by rfl)) (by omega) (by rfl) (by rfl) (by decide) (by rfl) (by rfl)) (@pa_cons _ _ _ _ _ (@pe_fn _ _ _ _ _ _ _ _ _ _ _ _ Z4g hr (@pa_cons _ _ _ _ _ (@pv _ 8 _ _ (by rfl) (by first | exact Or.inl rfl | exact Or.inr (Or.inl rfl) | exact Or.inr (Or.inr rfl)) (by decide) (by decide)) (@pa_cons _ _ _ _ _ (@pv _ 4 _ _ (by rfl) (by first | exact Or.inl rfl | exact Or.inr (Or.inl rfl) | exact Or.inr (Or.inr rfl)) (by decide) (by decide)) pa_nil (by rfl)) (by rfl)) (by omega) (by rfl) (by rfl) (by decide) (by rfl) (by rfl)) pa_nil (by rfl)) (by rfl)) (by omega) (by rfl) (by rfl) (by decide) (by rfl) (by rfl))))))))))))))))))), ?_⟩
  refine cut5 (fun σ H' => ∃ (D : Addr) (c m z : Nat), σ = [some (.ref a), some (.ref D), some (.int c), some (.int m), some (.int z), none, none, none, none, none, none] ∧ Feed H' D ∧ m ≤ 8 ∧ z ≤ 9) ?_ (fun N hN => ?_)
  rotate_left
  · walk_at "rd"
    refine ⟨a, ns, 40, rfl, hS, hl, by decide, fun D H1 f1 => ⟨D, rfl, f1, fun c H2 hc s2 f2 => ⟨_, rfl, by decide, _, rfl, small_div (by decide) (by decide), by decide, ?_⟩⟩⟩
    obtain ⟨r1, h1, h2⟩ := mod_nat (c : Int) (j := 6) (by decide)
    obtain ⟨r2, h3, h4⟩ := mod_nat ((c : Int) / 24) (j := 10) (by decide)
    refine ite2 (fun _ => ⟨_, rfl, small_div (by decide) (by decide), by decide, hN _ _ ⟨D, c, 8, r2, by rw [h3]; rfl, f2, by omega, by omega⟩⟩) (fun _ => ⟨_, rfl, small_div (by decide) (by decide), by decide, hN _ _ ⟨D, c, r1, r2, by rw [h1, h3], f2, by omega, by omega⟩⟩)
  rintro σ H1 ⟨D, c, m, z, rfl, f1, hm, hz⟩
  refine cut1 (fun σ H' => ∃ (B : Addr) (lf0 : Sh), σ = [some (.ref a), some (.ref D), some (.int c), some (.int m), some (.int z), some (.ref B), none, none, none, none, none] ∧ Feed H' D ∧ leaf lf0 ∧ BkAt g.K H' B [(nT, lf0)] ∧ B ≠ D) ?_ (fun N hN => ?_)
  rotate_left
  · walk_at "rd"
    refine ⟨D, rfl, f1, fun p lf0 H2 hlf s2 f2 d2 => ⟨few (by decide), fun t1 g1 => ⟨few (by decide), fun B g2 => ?_⟩⟩⟩
    have w1 := Same.upd_new g1 (.tup [.str "tree", .ref p])
    have w2 := Same.upd_new g2 (.lst [.ref t1])
    refine hN _ _ ⟨B, lf0, rfl, (f2.new g1).new g2, hlf, ⟨[.ref t1], upd_same, rfl, fun i v q h1 h2 => ?_⟩, ?_⟩
    · cases i with
      | zero =>
        have z1 : V.ref t1 = v := Option.some.inj h1
        have z2 : (nT, lf0) = q := Option.some.inj h2
        subst z1 z2
        exact ⟨t1, p, rfl, by rw [S_tree]; exact SqT.of (w2 _ _ upd_same), d2.keep (w1.trans w2)⟩
      | succ i => simp at h1
    · obtain ⟨xs, hx⟩ := (f2.new (o := .tup [.str "tree", .ref p]) g1).lst
      exact Ne.symm (ne_of_none hx g2)
  rintro σ H2 ⟨B, lf0, rfl, f2, hlf, hB, nBD⟩
  obtain ⟨prs, hprs⟩ : ∃ prs : Prs, prs = [(nT, lf0)] := ⟨_, rfl⟩
  rw [← hprs] at hB
  refine cut1 (fun σ H' => ∃ (Pt : Addr) (as : List Addr) (ps : List Sh), σ = [some (.ref a), some (.ref D), some (.int c), some (.int m), some (.int z), some (.ref B), some (.ref Pt), none, none, none, none] ∧ BkAt g.K H' B prs ∧ H' Pt = some (.lst (as.map V.ref)) ∧ Pts g.K H' prs as ps ∧ ps.length = m) ?_ (fun N hN => ?_)
  rotate_left
  · walk_at "rd"
    obtain ⟨xs0, hx0⟩ := f2.lst
    refine tLC_rangeI (n := m) (fun F i zs H' => SameBut D H2 H' ∧ Feed H' D ∧ H' F = some (.lst zs) ∧ F ≠ D ∧ ∃ (as : List Addr) (ps : List Sh), zs = as.map V.ref ∧ as.length = i ∧ ps.length = i ∧ (∀ p ∈ ps, PartOk prs p) ∧ ∀ (j : Nat) a p, as[j]? = some a → ps[j]? = some p → DK g.K H' a (kd p)) (fun R r => by walk_at "rd"; exact r) (by omega) ?_ ?_ ?_ ?_
    · intro F hF
      have nF : F ≠ D := Ne.symm (ne_of_none hx0 hF)
      exact ⟨fun b o hb e => (Same.upd_new hF _) _ _ e, f2.new hF, upd_same, nF, [], [], rfl, rfl, rfl, fun p hp => (by cases hp), fun j a p h => (by simp at h)⟩
    · rintro F i zs H' ⟨_, _, h1, _, as, ps, rfl, h2, _⟩
      exact ⟨by rw [List.length_map]; exact h2, h1⟩
    · rintro F i zs H' hF hi ⟨sb, ff, hd, nF, as, ps, rfl, hal, hpl, hok, hdk⟩ R r
      walk_at "rd"
      refine ⟨D, lf0, rfl, hlf, ff, fun p sh H3 hpo s3 f3 d3 => ?_⟩
      obtain ⟨xs1, hx1⟩ := ff.lst
      have tk := sb_tupk s3 hx1
      have hF3 := s3 _ _ nF hd
      have tk2 : TupK H3 (upd H3 F (.lst (as.map V.ref ++ [.ref p]))) := tupK_but (fun b o hb e => (upd_ne hb).trans e) hF3 (by intro xs z; cases z) (by intro o v z; cases z)
      refine r _ _ hF3 ⟨fun b o hb e => ?_, ?_, upd_same, nF, as ++ [p], ps ++ [sh], by rw [List.map_append]; rfl, by rw [List.length_append, hal]; rfl, by rw [List.length_append, hpl]; rfl, fun q hq => ?_, fun j a' p' h1 h2 => ?_⟩
      · rw [upd_ne (ne_of_none e hF)]
        exact s3 _ _ hb (sb _ _ hb e)
      · obtain ⟨ys, h1, h2⟩ := f3
        exact ⟨ys, by rw [upd_ne (Ne.symm nF)]; exact h1, h2⟩
      · rcases List.mem_append.mp hq with hq | hq
        · exact hok q hq
        · rw [List.mem_singleton.mp hq, hprs]; exact hpo
      · by_cases cc : j < as.length
        · rw [List.getElem?_append_left cc] at h1
          rw [List.getElem?_append_left (by omega)] at h2
          exact ((hdk j a' p' h1 h2).tupk tk).tupk tk2
        · have hj : j = as.length := by
            have := (List.getElem?_eq_some_iff.mp h1).1
            rw [List.length_append, List.length_singleton] at this
            omega
          subst hj
          rw [List.getElem?_append_right (Nat.le_refl _), Nat.sub_self] at h1
          rw [List.getElem?_append_right (by omega), show as.length - ps.length = 0 by omega] at h2
          have z1 : p = a' := Option.some.inj h1
          have z2 : sh = p' := Option.some.inj h2
          subst z1 z2
          exact d3.tupk tk2
    · rintro F zs H' hF ⟨sb, ff, hd, nF, as, ps, rfl, hal, hpl, hok, hdk⟩
      obtain ⟨vs, hBv, _⟩ := id hB
      exact hN _ _ ⟨F, as, ps, rfl, hB.tupk (sb_tupk sb hx0) (fun o e => sb _ _ nBD e), hd, ⟨by omega, by omega, hok, hdk⟩, hpl⟩
  rintro σ H3 ⟨Pt, as, ps, rfl, hB3, hPt, hP, hpm⟩
  have hPl := hP.len
  have hrow := hP.row
  have hdue := hP.due
  refine cut1 (fun σ H' => ∃ (Ct : Addr) (cs : List Addr), σ = [some (.ref a), some (.ref D), some (.int c), some (.int m), some (.int z), some (.ref B), some (.ref Pt), some (.ref Ct), none, none, none] ∧ Same H3 H' ∧ H' Ct = some (.lst (cs.map V.ref)) ∧ cs.length = ps.length ∧ ∀ (i : Nat) b p, cs[i]? = some b → ps[i]? = some p → H' b = some (.lst (cnts (cnt (bkO prs) p) (z + 1)))) ?_ (fun N hN => ?_)
  rotate_left
  · walk_at "rd"
    refine tLC_relD (K := g.K) (b := Pt) (xs := as.map V.ref) (fun E i y H' => ∃ b, y = .ref b ∧ b ≠ E ∧ ∀ p, ps[i]? = some p → H' b = some (.lst (cnts (cnt (bkO prs) p) (z + 1)))) (fun E i y Ha Hb ⟨b, h1, h2, h3⟩ s => ⟨b, h1, h2, fun p hp => s _ _ (h3 p hp)⟩) (fun E i y Ha zs zs' ⟨b, h1, h2, h3⟩ _ => ⟨b, h1, h2, fun p hp => by rw [upd_ne h2]; exact h3 p hp⟩) (fun R r => by walk_at "rd"; exact r) (SqL.of hPt) (by rw [List.length_map]; omega) ?_ ?_
    · intro E i x H' zs hx sm hE R r
      rw [List.getElem?_map] at hx
      obtain ⟨a', ha', rfl⟩ := Option.map_eq_some_iff.mp hx
      have hi := (List.getElem?_eq_some_iff.mp ha').1
      have hpi : ps[i]? = some (ps[i]'(by omega)) := List.getElem?_eq_getElem _
      generalize ps[i]'(by omega) = p at hpi
      obtain ⟨o1, o2, o3, o4⟩ := hP.ok p (List.mem_of_getElem? hpi)
      have dkp := (hP.dk i a' p ha' hpi).keep sm
      have hnm : nm p ≤ 4 := by unfold nm; split <;> omega
      have hfu : z * (dep p + 1) ≤ 9 * 2 := Nat.mul_le_mul hz (by omega)
      walk_at "rd"
      refine ⟨prs, B, a', p, z, rfl, hB3.tupk (tupK_of sm) (fun o e => sm _ _ e), dkp, o1, by omega, by omega, by omega, by omega, fun b H4 s4 gb hb => r _ _ s4 ⟨b, rfl, Ne.symm (ne_of_none hE gb), fun p' hp' => ?_⟩⟩
      rw [hpi] at hp'
      have := Option.some.inj hp'
      subst this
      exact hb
    · intro Ct ys H' hCt sm hys hyl hrel
      have hch : ∃ cs : List Addr, ys = cs.map V.ref ∧ ∀ (i : Nat) b, cs[i]? = some b → ∀ p, ps[i]? = some p → H' b = some (.lst (cnts (cnt (bkO prs) p) (z + 1))) := by
        obtain ⟨cs, h1, h2⟩ := refs_of (H := H') (o := 0) (P := fun i b => ∀ p, ps[i]? = some p → H' b = some (.lst (cnts (cnt (bkO prs) p) (z + 1)))) (ys := ys) fun j y hy => by
          obtain ⟨b, e, _, h⟩ := hrel j y hy
          exact ⟨b, e, fun p hp => h p (by rw [Nat.zero_add] at hp; exact hp)⟩
        exact ⟨cs, h1, fun i b hb p hp => h2 i b hb p (by rw [Nat.zero_add]; exact hp)⟩
      obtain ⟨cs, rfl, hcs⟩ := hch
      rw [List.length_map, List.length_map] at hyl
      exact hN _ _ ⟨Ct, cs, rfl, sm, hys, by omega, fun i b p h1 h2 => hcs i b h1 p h2⟩
  rintro σ H4 ⟨Ct, cs, rfl, s4, hCt, hcl, hcs⟩
  have hB4 := hB3.tupk (tupK_of s4) fun o e => s4 _ _ e
  have hPt4 := s4 _ _ hPt
  have hP4 := hP.tupk (tupK_of s4)
  have ec : ∀ p : Sh, ∀ (i : Nat) x, (cnts (cnt (bkO prs) p) (z + 1))[i]? = some x → ∃ w : Int, x = .int w := fun p i x h => cnts_int _ h
  refine cut1 (fun σ H' => ∃ o8 : Option V, σ = [some (.ref a), some (.ref D), some (.int c), some (.int m), some (.int z), some (.ref B), some (.ref Pt), some (.ref Ct), o8, none, none] ∧ Same H4 H') ?_ (fun N hN => ?_)
  rotate_left
  · walk_at "rd"
    refine tFor_listN (K := g.K) (xs := cs.map V.ref) (fun b i σ H' => b = Ct ∧ Same H4 H' ∧ ∃ o8 : Option V, σ = [some (.ref a), some (.ref D), some (.int c), some (.int m), some (.int z), some (.ref B), some (.ref Pt), some (.ref Ct), o8, none, none]) (fun R r => by walk_at "rd"; exact r Ct _ ⟨rfl, .refl _, none, rfl⟩) (fun b i σ H' _ ⟨e, s, _⟩ => by subst e; exact SqL.of (s _ _ hCt)) ?_ ?_
    · rintro b i x σ H' hx ⟨rfl, s5, o8, rfl⟩
      rw [List.getElem?_map] at hx
      obtain ⟨b', hb', rfl⟩ := Option.map_eq_some_iff.mp hx
      have hi := (List.getElem?_eq_some_iff.mp hb').1
      have hpi : ps[i]? = some (ps[i]'(by omega)) := List.getElem?_eq_getElem _
      have hbH := s5 _ _ (hcs i b' _ hb' hpi)
      walk_at "rd"
      refine ⟨b', b', _, rfl, hbH, hbH, ec _, fun H6 s6 => ⟨true, rfl, iteN (by decide) ⟨_, .inl (SqL.of (s6 _ _ hbH)), iteN (fun h => h ?_) (s5.trans s6)⟩⟩⟩
      rw [cnts_len]; rfl
    · rintro b σ H' ⟨rfl, s5, o8, rfl⟩
      walk_at "rd"
      exact hN _ _ ⟨o8, rfl, s5⟩
  rintro σ H5 ⟨o8, rfl, s5⟩
  have er : rowc (bkO prs) ps = cnt (bkO prs) (.row ps) := by funext k; rw [cnt_row]
  refine cut1 (fun σ H' => ∃ Du : Addr, σ = [some (.ref a), some (.ref D), some (.int c), some (.int m), some (.int z), some (.ref B), some (.ref Pt), some (.ref Ct), o8, some (.ref Du), none] ∧ Same H4 H' ∧ H' Du = some (.lst (cnts (cnt (bkO prs) (.row ps)) (z + 1)))) ?_ (fun N hN => ?_)
  rotate_left
  · walk_at "rd"
    refine ⟨Ct, z, cs, ps.map (cnt (bkO prs)), rfl, by omega, s5 _ _ hCt, by rw [List.length_map]; exact hcl, by have := hP.few; omega, fun i b f h1 h2 => ?_, fun f hf k hk => hdue.1 f hf k (by omega), fun i k hk => hdue.2 i k (by omega), fun Du H6 s6 gD hd => hN _ _ ⟨Du, rfl, s5.trans s6, ?_⟩⟩
    · rw [List.getElem?_map] at h2
      obtain ⟨p, hp, rfl⟩ := Option.map_eq_some_iff.mp h2
      exact s5 _ _ (hcs i b p h1 hp)
    · rw [hd, due_row, ← row_rowF, er]
  rintro σ H6 ⟨Du, rfl, s6, hDu⟩
  have hwr := hrow.2.2.1
  have hB6 := hB4.tupk (tupK_of s6) fun o e => s6 _ _ e
  have hPt6 := s6 _ _ hPt4
  have hP6 := hP4.tupk (tupK_of s6)
  refine cut1 (fun σ H' => σ = [some (.ref a), some (.ref D), some (.int c), some (.int m), some (.int z), some (.ref B), some (.ref Pt), some (.ref Ct), o8, some (.ref Du), none] ∧ Same H6 H') ?_ (fun N hN => ?_)
  rotate_left
  · walk_at "rd"
    refine ⟨_, .inl ⟨SqL.of hPt6, fun l gl => ⟨few (by decide), fun p gp => ?_⟩⟩⟩
    have w1 := Same.upd_new gl (.tup (as.map V.ref))
    have w2 := Same.upd_new gp (.tup [.str "row", .ref l])
    have w := w1.trans w2
    refine ⟨prs, B, p, .row ps, z, rfl, hB6.tupk (tupK_of w) (fun o e => w _ _ e), dk_row (hP6.tupk (tupK_of w)) upd_same (w2 _ _ upd_same), hrow.1, by omega, nm_le2 hrow.2.1, by omega, fu_le2 hrow.2.1 hz, fun E H7 s7 gE hE => ⟨E, Du, _, rfl, hE, s7 _ _ (w _ _ hDu), ec _, fun H8 s8 => ⟨true, rfl, iteN (by decide) (hN _ _ ⟨rfl, (w.trans s7).trans s8⟩)⟩⟩⟩
  rintro σ H7 ⟨rfl, s7⟩
  refine cut1 (fun σ H' => σ = [some (.ref a), some (.ref D), some (.int c), some (.int m), some (.int z), some (.ref B), some (.ref Pt), some (.ref Ct), o8, some (.ref Du), none] ∧ Same H6 H') ?_ (fun N hN => ?_)
  rotate_left
  · walk_at "rd"
    refine ⟨_, .inl ⟨SqL.of (s7 _ _ hPt6), fun l gl => ⟨few (by decide), fun p gp => ?_⟩⟩⟩
    have w1 := Same.upd_new gl (.tup (as.map V.ref))
    have w2 := Same.upd_new gp (.tup [.str "row", .ref l])
    have w := s7.trans (w1.trans w2)
    refine ⟨prs, B, p, .row ps, z, rfl, hB6.tupk (tupK_of w) (fun o e => w _ _ e), dk_row (hP6.tupk (tupK_of w)) upd_same (w2 _ _ upd_same), hrow.1, by omega, nm_le2 hrow.2.1, by omega, fu_le2 hrow.2.1 hz, fun H8 s8 => ⟨few (by decide), fun E gE => ?_⟩⟩
    have w8 := w.trans s8
    have wE := Same.upd_new gE (.lst [.int (cnt (bkO prs) (.row ps) z)])
    refine ⟨_, SqL.of ((w8.trans wE) _ _ hDu), fun F gF => ?_⟩
    rw [cnts_succ, cutV_m1]
    have wF := Same.upd_new gF (.lst [.int (cnt (bkO prs) (.row ps) z)])
    exact ⟨E, F, _, rfl, wF _ _ upd_same, upd_same, fun i x hx => (by
      cases i with
      | zero => exact ⟨_, (Option.some.inj hx).symm⟩
      | succ i => simp at hx), fun H9 s9 => ⟨true, rfl, iteN (by decide) (hN _ _ ⟨rfl, ((w8.trans wE).trans wF).trans s9⟩)⟩⟩
  rintro σ H8 ⟨rfl, s8⟩
  have hB8 := hB6.tupk (tupK_of s8) fun o e => s8 _ _ e
  have hP8 := hP6.tupk (tupK_of s8)
  have s48 := s6.trans s8
  refine cut3 (fun σ H' => ∃ (Fi So : Addr) (sh : Sh), σ = [some (.ref a), some (.ref D), some (.int c), some (.int m), some (.int z), some (.ref B), some (.ref Pt), some (.ref Ct), some (.ref So), some (.ref Du), some (.ref Fi)] ∧ Same H8 H' ∧ PartOk prs sh ∧ DK g.K H' Fi (kd sh) ∧ H' So = some (.lst (cnts (cnt (bkO prs) sh) (z + 1)))) ?_ (fun N hN => ?_)
  rotate_left
  · walk_at "rd"
    refine ⟨few (by decide), fun e1 g1 => ⟨few (by decide), fun e2 g2 => ⟨few (by decide), fun e3 g3 => ⟨few (by decide), fun e4 g4 => ?_⟩⟩⟩⟩
    have w1 := Same.upd_new g1 (.tup [])
    have w2 := Same.upd_new g2 (.tup [.str "row", .ref e1])
    have w3 := Same.upd_new g3 (.lst [.int 1])
    have w4 := Same.upd_new g4 (.lst [.int 0])
    refine ⟨e4, z, [.int 0], rfl, rfl, upd_same, by omega, by omega, few (by simp; omega), fun e5 g5 => ?_⟩
    rw [show (List.replicate (z : Int).toNat [V.int 0]).flatten = List.replicate z (.int 0) by simp]
    have w5 := Same.upd_new g5 (.lst (List.replicate z (.int 0)))
    refine ⟨e5, rfl, _, (w4.trans w5) _ _ upd_same, _, upd_same, few (by simp; omega), fun e6 g6 => ?_⟩
    have w6 := Same.upd_new g6 (.lst ([V.int 1] ++ List.replicate z (.int 0)))
    have w36 := ((w3.trans w4).trans w5).trans w6
    have w16 := (w1.trans w2).trans w36
    refine ite2 (fun hm0 => ?_) (fun hm0 => ?_)
    · have hm0 : 0 < m := by omega
      have hp0 : ps[0]? = some (ps[0]'(by omega)) := List.getElem?_eq_getElem _
      have ha0 : as[0]? = some (as[0]'(by omega)) := List.getElem?_eq_getElem _
      have hc0 : cs[0]? = some (cs[0]'(by omega)) := List.getElem?_eq_getElem _
      refine ⟨_, SqL.of ((s8.trans w16) _ _ hPt6), _, atI_nat (j := 0) (by rw [List.getElem?_map, ha0]; rfl), _, SqL.of ((s48.trans w16) _ _ hCt), _, atI_nat (j := 0) (by rw [List.getElem?_map, hc0]; rfl), hN _ _ ⟨_, _, ps[0]'(by omega), rfl, w16, hP.ok _ (List.mem_of_getElem? hp0), (hP8.dk 0 _ _ ha0 hp0).keep w16, (s48.trans w16) _ _ (hcs 0 _ _ hc0 hp0)⟩⟩
    · refine hN _ _ ⟨e2, e6, .row [], rfl, w16, ⟨by rw [okS, okSs]; exact ⟨by simp, trivial⟩, by simp [dep, deps], by simp [wt, wts], by simp [kd, kds, PyData.depth, PyData.depthAll]⟩, ⟨?_, ko_kd _, by simp [kd, kds, PyData.depth, PyData.depthAll]⟩, ?_⟩
      · rw [kd, kds]
        exact .tup (SqT.of (w36 _ _ upd_same)) (.cons (.str _ (by decide +kernel)) (.cons (.tup (SqT.of ((w2.trans w36) _ _ upd_same)) .nil) .nil))
      · rw [upd_same, show cnt (bkO prs) (.row []) = delta by funext k; rw [cnt_row, rowc_nil]; rfl, cnts_delta]
  rintro σ H9 ⟨Fi, So, sh, rfl, s9, hpo, hFi, hSo⟩
  obtain ⟨o1, o2, o3, o4⟩ := hpo
  have hokm : okS prs (.many sh) := by rw [okS]; exact o1
  have hdm : dep (.many sh) ≤ 2 := by rw [dep]; omega
  have hwm : wt (.many sh) ≤ 4 := by rw [wt]; omega
  have hkm : (kd (.many sh)).depth ≤ 6 := by
    rw [kd]
    simp only [PyData.depth, PyData.depthAll]
    omega
  walk_at "rd"
  refine ⟨few (by decide), fun p gp => ?_⟩
  have w1 := Same.upd_new gp (.tup [.str "many", .ref Fi])
  have w := s9.trans w1
  refine ⟨prs, B, p, .many sh, z, rfl, hB8.tupk (tupK_of w) (fun o e => w _ _ e), ⟨?_, ko_kd _, by omega⟩, hokm, by omega, nm_le2 hdm, by omega, fu_le2 hdm hz, fun E H10 s10 gE hE => ?_⟩
  · rw [kd]
    exact .tup (SqT.of upd_same) (.cons (.str _ (by decide +kernel)) (.cons (hFi.keep w1).den .nil))
  refine ⟨So, z, cnt (bkO prs) sh, cnt (bkO prs) (.many sh), rfl, by omega, s10 _ _ (w1 _ _ hSo), cnt_many0 _ _, fun k => cnt_many _ _ k, fun k hk => ⟨sm_of o1 (by omega) (by omega), sm_of hokm (by omega) (by omega)⟩, fun F H11 s11 gF hF => ?_⟩
  exact ⟨E, F, _, rfl, s11 _ _ hE, hF, ec _, fun H12 s12 => q H12⟩
structure Top (K : PySem.W.Frag) (mg : Str → Option Value) (Z7 : Addr) (Z2 : Addr) (Z1 : Addr) (Z4 : Addr) (Z6 : Addr) (Z3 : Addr) (Z5 : Addr) (Z0 : Addr) : Prop where
  ZK : ∀ P w base, (Gx.mk P w K mg base).RawM Z0 "count_at" "Maker.count_at" Z0m ["self", "size"]
  ZI : ∀ P w base, (Gx.mk P w K mg base).RawM Z3 "count_at" "Maker.count_at" Z0v ["self", "size"]
  ZN : ∀ P w base, (Gx.mk P w K mg base).RawM Z4 "count_at" "Maker.count_at" Z0J ["self", "size"]
  ZL : ∀ P w base, (Gx.mk P w K mg base).RawM Z1 "count_at" "Maker.count_at" Z0x ["self", "size"]
  ZM : ∀ P w base, (Gx.mk P w K mg base).RawM Z2 "count_at" "Maker.count_at" Z0w ["self", "size"]
  ZO : ∀ P w base, (Gx.mk P w K mg base).RawM Z5 "count_at" "Maker.count_at" Z0K ["self", "size"]
  Z17 : ∀ P w base, (Gx.mk P w K mg base).Raw "least_distance" "least_distance" Z13 ["size"]
  ZQ : ∀ P w base, (Gx.mk P w K mg base).RawM Z0 "reckoned" "WholeMaker.reckoned" Z0j ["self", "size"]
  ZW : ∀ P w base, (Gx.mk P w K mg base).RawM Z3 "reckoned" "TextMaker.reckoned" Z0p ["self", "size"]
  Z3z : ∀ P w base, (Gx.mk P w K mg base).Raw "ways_of" "ways_of" Z3o ["blocks"]
  ZX : ∀ P w base, (Gx.mk P w K mg base).RawM Z6 "blocks_at" "RowTable.blocks_at" Z0q ["self", "place", "left"]
  Z03 : ∀ P w base, (Gx.mk P w K mg base).RawM Z6 "add_size" "RowTable.add_size" Z0E ["self", "size"]
  ZR : ∀ P w base, (Gx.mk P w K mg base).RawM Z6 "ways_at" "RowTable.ways_at" Z0P ["self", "place", "left"]
  Z04 : ∀ P w base, (Gx.mk P w K mg base).RawM Z4 "reckoned" "RowMaker.reckoned" Z0G ["self", "size"]
  ZS : ∀ P w base, (Gx.mk P w K mg base).RawM Z2 "blocks_at" "ManyMaker.blocks_at" Z0k ["self", "left"]
  ZY : ∀ P w base, (Gx.mk P w K mg base).RawM Z2 "reckoned" "ManyMaker.reckoned" Z0s ["self", "size"]
  Z05 : ∀ P w base, (Gx.mk P w K mg base).RawM Z5 "reckoned" "UseMaker.reckoned" Z0I ["self", "size"]
  ZT : ∀ P w base, (Gx.mk P w K mg base).RawM Z1 "blocks_at" "PickMaker.blocks_at" Z0l ["self", "size"]
  ZZ : ∀ P w base, (Gx.mk P w K mg base).RawM Z1 "reckoned" "PickMaker.reckoned" Z0u ["self", "size"]
  Z31 : ∀ P w base, (Gx.mk P w K mg base).Raw "parts_of" "parts_of" Z2E ["shape"]
  Z18 : ∀ P w base, (Gx.mk P w K mg base).RawC "Maker" "__init__" "Maker.__init__" Z16 ["self"]
  Z0n : ∀ P w base, (Gx.mk P w K mg base).RawI "WholeMaker" Z0 "WholeMaker.__init__" Z0i ["self", "low", "high"]
  Z0y : ∀ P w base, (Gx.mk P w K mg base).RawI "TextMaker" Z3 "TextMaker.__init__" Z0o ["self", "signs"]
  Z0z : ∀ P w base, (Gx.mk P w K mg base).RawI "ManyMaker" Z2 "ManyMaker.__init__" Z0r ["self", "part"]
  Z0A : ∀ P w base, (Gx.mk P w K mg base).RawI "PickMaker" Z1 "PickMaker.__init__" Z0t ["self", "marks", "parts"]
  Z0L : ∀ P w base, (Gx.mk P w K mg base).RawI "UseMaker" Z5 "UseMaker.__init__" Z0H ["self"]
  Z0M : ∀ P w base, (Gx.mk P w K mg base).RawI "RowTable" Z6 "RowTable.__init__" Z0D ["self", "parts"]
  Z0N : ∀ P w base, (Gx.mk P w K mg base).RawI "RowMaker" Z4 "RowMaker.__init__" Z0F ["self", "parts"]
  Z0W : ∀ P w base, (Gx.mk P w K mg base).RawI "Lister" Z7 "Lister.__init__" Z0U ["self", "book"]
  Z32 : ∀ P w base, (Gx.mk P w K mg base).Raw "shape_of" "shape_of" Z2F ["book", "name"]
  Z07 : ∀ P w base, (Gx.mk P w K mg base).RawM Z7 "new_maker" "Lister.new_maker" Z0O ["self", "shape"]
  Z0e : ∀ P w base, (Gx.mk P w K mg base).RawM Z7 "add_use" "Lister.add_use" Z15 ["self", "shape"]
  Z02 : ∀ P w base, (Gx.mk P w K mg base).RawM Z7 "maker_of" "Lister.maker_of" Z0V ["self", "shape"]
  Z2g : ∀ P w base, (Gx.mk P w K mg base).Raw "maker_for" "maker_for" Z25 ["book", "shape"]
  Z2h : ∀ P w base, (Gx.mk P w K mg base).Raw "counts_to" "counts_to" Z26 ["book", "shape", "size"]
  Z3A : ∀ P w base, (Gx.mk P w K mg base).Raw "counted" "counted" Z3p ["book", "shape", "size"]
  Z2i : ∀ P w base, (Gx.mk P w K mg base).Raw "_law_whole" "_law_whole" Z27 ["_law_found"]
  Z3B : ∀ P w base, (Gx.mk P w K mg base).Raw "_law_mix" "_law_mix" Z3r ["_law_script", "_law_k", "_law_step"]
  Z33 : ∀ P w base, (Gx.mk P w K mg base).Raw "_law_feed" "_law_feed" Z2G ["_law_script", "_law_many"]
  Z34 : ∀ P w base, (Gx.mk P w K mg base).Raw "_law_next" "_law_next" Z2H ["_law_feed_here"]
  Z0X : ∀ P w base, (Gx.mk P w K mg base).Raw "_law_whole_shape" "_law_whole_shape" Z0T ["_law_feed_here"]
  Z19 : ∀ P w base, (Gx.mk P w K mg base).Raw "_law_text_shape" "_law_text_shape" Z14 ["_law_feed_here"]
  Z22 : ∀ P w base, (Gx.mk P w K mg base).Raw "_law_counts" "_law_counts" Z20 ["_law_found", "_law_due"]
  Z35 : ∀ P w base, (Gx.mk P w K mg base).Raw "_law_leaf" "_law_leaf" Z2I ["_law_feed_here"]
  Z36 : ∀ P w base, (Gx.mk P w K mg base).Raw "_law_part" "_law_part" Z2J ["_law_feed_here"]
  Z1O : ∀ P w base, (Gx.mk P w K mg base).Raw "_law_row_due" "_law_row_due" Z1N ["_law_counts_here", "_law_size"]
  Z1H : ∀ P w base, (Gx.mk P w K mg base).Raw "_law_many_due" "_law_many_due" Z1G ["_law_some", "_law_size"]
  Zz : Cls K Z7
  ZE : NoAttr K Z7 "book"
  Zw : NoAttr K Z7 "makers"
  Zc : Cls K Z2
  Zb : NoAttr K Z2 "counts"
  Zh : NoAttr K Z2 "part"
  Zi : Cls K Z1
  Za : NoAttr K Z1 "counts"
  Zo : NoAttr K Z1 "marks"
  Zn : NoAttr K Z1 "parts"
  Zq : Cls K Z4
  Zd : NoAttr K Z4 "counts"
  Zs : NoAttr K Z4 "parts"
  Zp : NoAttr K Z4 "table"
  Zv : Cls K Z6
  Zx : NoAttr K Z6 "parts"
  Zu : NoAttr K Z6 "ways"
  Zk : Cls K Z3
  Z9 : NoAttr K Z3 "counts"
  Zm : NoAttr K Z3 "signs"
  Zj : Cls K Z5
  Ze : NoAttr K Z5 "counts"
  Zf : NoAttr K Z5 "named"
  Zg : Cls K Z0
  Z8 : NoAttr K Z0 "counts"
  Zr : NoAttr K Z0 "low"
  Zl : NoAttr K Z0 "span"
  Z3c : ∀ P w base, (Gx.mk P w K mg base).ConT "OF_ONE_PART" ([.str "many", .str "rising", .str "unlike"])
  b_bool : mg "bool" = none
  b_int : mg "int" = none
  ZU : mg "isinstance" = none
  b_len : mg "len" = none
  b_list : mg "list" = none
  b_max : mg "max" = none
  b_min : mg "min" = none
  ZA : mg "range" = none
  b_sum : mg "sum" = none
  Z1Z : mg "tuple" = none
  b_zip : mg "zip" = none
theorem law_body {K : PySem.W.Frag} {mg : Str → Option Value} {Z7 Z2 Z1 Z4 Z6 Z3 Z5 Z0 : Addr}  (t : Top K mg Z7 Z2 Z1 Z4 Z6 Z3 Z5 Z0) (P : Program) (w : World) (base : Heap) :
    Body (Gx.mk P w K mg base) 162 ["_law_script", "_law_feed_here", "_law_cell", "_law_many", "_law_size", "_law_book", "_law_parts", "_law_counts_here", "_law_some", "_law_due", "_law_first"] "law" s_law (spTrue K) := by
  have Z23 := Z3G (g := Gx.mk P w K mg base) (Z7 := Z7) (Z2 := Z2) (Z1 := Z1) (Z4 := Z4) (Z6 := Z6) (Z3 := Z3) (Z5 := Z5) (Z0 := Z0) (t.Z17 P w base)
  have Z1i := ok_ways_of (g := Gx.mk P w K mg base) (Z7 := Z7) (Z2 := Z2) (Z1 := Z1) (Z4 := Z4) (Z6 := Z6) (Z3 := Z3) (Z5 := Z5) (Z0 := Z0) (t.Z3z P w base) t.b_sum
  have Z2A : ∀ i : Nat, ((Gx.mk P w K mg base).Me (1 + i + 1) Z0 "count_at" ["self", "size"] (Zt (Cs.mk Z0 Z3 Z4 Z6 Z2 Z1 Z5) 0 (i + 1))) ∧ ((Gx.mk P w K mg base).Me (1 + i + 1) Z3 "count_at" ["self", "size"] (Zt (Cs.mk Z0 Z3 Z4 Z6 Z2 Z1 Z5) 1 (i + 1))) ∧ ((Gx.mk P w K mg base).Me (1 + i + 1) Z4 "count_at" ["self", "size"] (Zt (Cs.mk Z0 Z3 Z4 Z6 Z2 Z1 Z5) 2 (i + 1))) ∧ ((Gx.mk P w K mg base).Me (1 + i + 1) Z1 "count_at" ["self", "size"] (Zt (Cs.mk Z0 Z3 Z4 Z6 Z2 Z1 Z5) 3 (i + 1))) ∧ ((Gx.mk P w K mg base).Me (1 + i + 1) Z2 "count_at" ["self", "size"] (Zt (Cs.mk Z0 Z3 Z4 Z6 Z2 Z1 Z5) 4 (i + 1))) ∧ ((Gx.mk P w K mg base).Me (1 + i + 1) Z5 "count_at" ["self", "size"] (Zt (Cs.mk Z0 Z3 Z4 Z6 Z2 Z1 Z5) 5 (i + 1))) ∧ ((Gx.mk P w K mg base).Me (1 + i + 1) Z6 "blocks_at" ["self", "place", "left"] (Z1V (Cs.mk Z0 Z3 Z4 Z6 Z2 Z1 Z5) (i + 1))) ∧ ((Gx.mk P w K mg base).Me (1 + i + 1) Z6 "add_size" ["self", "size"] (sp_add (Cs.mk Z0 Z3 Z4 Z6 Z2 Z1 Z5) (i + 1))) ∧ ((Gx.mk P w K mg base).Me (1 + i + 1) Z6 "ways_at" ["self", "place", "left"] (sp_ways (Cs.mk Z0 Z3 Z4 Z6 Z2 Z1 Z5) (i + 1))) ∧ ((Gx.mk P w K mg base).Me (1 + i + 1) Z2 "blocks_at" ["self", "left"] (Z1W (Cs.mk Z0 Z3 Z4 Z6 Z2 Z1 Z5) (i + 1))) ∧ ((Gx.mk P w K mg base).Me (1 + i + 1) Z1 "blocks_at" ["self", "size"] (Z1X (Cs.mk Z0 Z3 Z4 Z6 Z2 Z1 Z5) (i + 1))) ∧ ((Gx.mk P w K mg base).Me (1 + i + 1) Z0 "reckoned" ["self", "size"] (sp_reck (Cs.mk Z0 Z3 Z4 Z6 Z2 Z1 Z5) 0 (i + 1))) ∧ ((Gx.mk P w K mg base).Me (1 + i + 1) Z3 "reckoned" ["self", "size"] (sp_reck (Cs.mk Z0 Z3 Z4 Z6 Z2 Z1 Z5) 1 (i + 1))) ∧ ((Gx.mk P w K mg base).Me (1 + i + 1) Z4 "reckoned" ["self", "size"] (sp_reck (Cs.mk Z0 Z3 Z4 Z6 Z2 Z1 Z5) 2 (i + 1))) ∧ ((Gx.mk P w K mg base).Me (1 + i + 1) Z2 "reckoned" ["self", "size"] (sp_reck (Cs.mk Z0 Z3 Z4 Z6 Z2 Z1 Z5) 4 (i + 1))) ∧ ((Gx.mk P w K mg base).Me (1 + i + 1) Z5 "reckoned" ["self", "size"] (sp_reck (Cs.mk Z0 Z3 Z4 Z6 Z2 Z1 Z5) 5 (i + 1))) ∧ ((Gx.mk P w K mg base).Me (1 + i + 1) Z1 "reckoned" ["self", "size"] (sp_reck (Cs.mk Z0 Z3 Z4 Z6 Z2 Z1 Z5) 3 (i + 1))) := by
    intro i
    induction i with
    | zero => exact ⟨Z0Z (g := Gx.mk P w K mg base) (m := 0) (k := 1) (Z7 := Z7) (Z2 := Z2) (Z1 := Z1) (Z4 := Z4) (Z6 := Z6) (Z3 := Z3) (Z5 := Z5) (Z0 := Z0) (t.ZK P w base) ((t.ZQ P w base).none (fun _ _ _ _ h => no_reck h)) t.b_len t.Zg t.Z8 t.Zr t.Zl, Z1b (g := Gx.mk P w K mg base) (m := 0) (k := 1) (Z7 := Z7) (Z2 := Z2) (Z1 := Z1) (Z4 := Z4) (Z6 := Z6) (Z3 := Z3) (Z5 := Z5) (Z0 := Z0) (t.ZI P w base) ((t.ZW P w base).none (fun _ _ _ _ h => no_reck h)) t.b_len t.Zk t.Z9 t.Zm, Z1n (g := Gx.mk P w K mg base) (m := 0) (k := 1) (Z7 := Z7) (Z2 := Z2) (Z1 := Z1) (Z4 := Z4) (Z6 := Z6) (Z3 := Z3) (Z5 := Z5) (Z0 := Z0) (t.ZN P w base) ((t.Z04 P w base).none (fun _ _ _ _ h => no_reck h)) t.b_len t.Zq t.Zd t.Zs t.Zp, Z1c (g := Gx.mk P w K mg base) (m := 0) (k := 1) (Z7 := Z7) (Z2 := Z2) (Z1 := Z1) (Z4 := Z4) (Z6 := Z6) (Z3 := Z3) (Z5 := Z5) (Z0 := Z0) (t.ZL P w base) ((t.ZZ P w base).none (fun _ _ _ _ h => no_reck h)) t.b_len t.Zi t.Za t.Zo t.Zn, Z1d (g := Gx.mk P w K mg base) (m := 0) (k := 1) (Z7 := Z7) (Z2 := Z2) (Z1 := Z1) (Z4 := Z4) (Z6 := Z6) (Z3 := Z3) (Z5 := Z5) (Z0 := Z0) (t.ZM P w base) ((t.ZY P w base).none (fun _ _ _ _ h => no_reck h)) t.b_len t.Zc t.Zb t.Zh, Z1o (g := Gx.mk P w K mg base) (m := 0) (k := 1) (Z7 := Z7) (Z2 := Z2) (Z1 := Z1) (Z4 := Z4) (Z6 := Z6) (Z3 := Z3) (Z5 := Z5) (Z0 := Z0) (t.ZO P w base) ((t.Z05 P w base).none (fun _ _ _ _ h => no_reck h)) t.b_len t.Zj t.Ze t.Zf, Z1f (g := Gx.mk P w K mg base) (m := 0) (k := 1) (Z7 := Z7) (Z2 := Z2) (Z1 := Z1) (Z4 := Z4) (Z6 := Z6) (Z3 := Z3) (Z5 := Z5) (Z0 := Z0) (t.ZX P w base) ((t.ZR P w base).none (fun _ _ _ _ h => no_ways h)) ((t.ZK P w base).none (fun _ _ _ _ h => ZH h)) ((t.ZI P w base).none (fun _ _ _ _ h => ZH h)) ((t.ZN P w base).none (fun _ _ _ _ h => ZH h)) ((t.ZM P w base).none (fun _ _ _ _ h => ZH h)) ((t.ZL P w base).none (fun _ _ _ _ h => ZH h)) ((t.ZO P w base).none (fun _ _ _ _ h => ZH h)) t.ZA t.Zc t.Zb t.Zh t.Zi t.Za t.Zo t.Zn t.Zq t.Zd t.Zs t.Zp t.Zv t.Zx t.Zu t.Zk t.Z9 t.Zm t.Zj t.Ze t.Zf t.Zg t.Z8 t.Zr t.Zl, Z1p (g := Gx.mk P w K mg base) (m := 0) (k := 1) (Z7 := Z7) (Z2 := Z2) (Z1 := Z1) (Z4 := Z4) (Z6 := Z6) (Z3 := Z3) (Z5 := Z5) (Z0 := Z0) (t.Z03 P w base) (Z1i.mono (by omega)) ((t.ZX P w base).none (fun _ _ _ _ h => no_tblocks h)) t.b_len t.ZA t.Zv t.Zx t.Zu, Z1A (g := Gx.mk P w K mg base) (m := 0) (k := 1) (Z7 := Z7) (Z2 := Z2) (Z1 := Z1) (Z4 := Z4) (Z6 := Z6) (Z3 := Z3) (Z5 := Z5) (Z0 := Z0) (t.ZR P w base) ((t.Z03 P w base).none (fun _ _ _ _ h => no_add h)) t.b_len t.Zv t.Zx t.Zu, Z11 (g := Gx.mk P w K mg base) (m := 0) (k := 1) (Z7 := Z7) (Z2 := Z2) (Z1 := Z1) (Z4 := Z4) (Z6 := Z6) (Z3 := Z3) (Z5 := Z5) (Z0 := Z0) (t.ZS P w base) ((t.ZK P w base).none (fun _ _ _ _ h => ZH h)) ((t.ZI P w base).none (fun _ _ _ _ h => ZH h)) ((t.ZN P w base).none (fun _ _ _ _ h => ZH h)) ((t.ZM P w base).none (fun _ _ _ _ h => ZH h)) ((t.ZL P w base).none (fun _ _ _ _ h => ZH h)) ((t.ZO P w base).none (fun _ _ _ _ h => ZH h)) t.ZA t.Zc t.Zb t.Zh t.Zi t.Za t.Zo t.Zn t.Zq t.Zd t.Zs t.Zp t.Zk t.Z9 t.Zm t.Zj t.Ze t.Zf t.Zg t.Z8 t.Zr t.Zl, Z12 (g := Gx.mk P w K mg base) (m := 0) (k := 1) (Z7 := Z7) (Z2 := Z2) (Z1 := Z1) (Z4 := Z4) (Z6 := Z6) (Z3 := Z3) (Z5 := Z5) (Z0 := Z0) (t.ZT P w base) ((t.ZK P w base).none (fun _ _ _ _ h => ZH h)) ((t.ZI P w base).none (fun _ _ _ _ h => ZH h)) ((t.ZN P w base).none (fun _ _ _ _ h => ZH h)) ((t.ZM P w base).none (fun _ _ _ _ h => ZH h)) ((t.ZL P w base).none (fun _ _ _ _ h => ZH h)) ((t.ZO P w base).none (fun _ _ _ _ h => ZH h)) t.Zc t.Zb t.Zh t.Zi t.Za t.Zo t.Zn t.Zq t.Zd t.Zs t.Zp t.Zk t.Z9 t.Zm t.Zj t.Ze t.Zf t.Zg t.Z8 t.Zr t.Zl, Z10 (g := Gx.mk P w K mg base) (m := 0) (k := 1) (Z7 := Z7) (Z2 := Z2) (Z1 := Z1) (Z4 := Z4) (Z6 := Z6) (Z3 := Z3) (Z5 := Z5) (Z0 := Z0) (t.ZQ P w base) (Z23.mono (by omega)) t.b_max t.b_min t.Zg t.Z8 t.Zr t.Zl, Z1e (g := Gx.mk P w K mg base) (m := 0) (k := 1) (Z7 := Z7) (Z2 := Z2) (Z1 := Z1) (Z4 := Z4) (Z6 := Z6) (Z3 := Z3) (Z5 := Z5) (Z0 := Z0) (t.ZW P w base) ((t.ZI P w base).none (fun _ _ _ _ h => ZH h)) t.b_len t.Zk t.Z9 t.Zm, Z1q (g := Gx.mk P w K mg base) (m := 0) (k := 1) (Z7 := Z7) (Z2 := Z2) (Z1 := Z1) (Z4 := Z4) (Z6 := Z6) (Z3 := Z3) (Z5 := Z5) (Z0 := Z0) (t.Z04 P w base) ((t.ZR P w base).none (fun _ _ _ _ h => no_ways h)) t.Zq t.Zd t.Zs t.Zp t.Zv t.Zx t.Zu, Z1g (g := Gx.mk P w K mg base) (m := 0) (k := 1) (Z7 := Z7) (Z2 := Z2) (Z1 := Z1) (Z4 := Z4) (Z6 := Z6) (Z3 := Z3) (Z5 := Z5) (Z0 := Z0) (t.ZY P w base) (Z1i.mono (by omega)) ((t.ZS P w base).none (fun _ _ _ _ h => no_mblocks h)) t.Zc t.Zb t.Zh, Z1r (g := Gx.mk P w K mg base) (m := 0) (k := 1) (Z7 := Z7) (Z2 := Z2) (Z1 := Z1) (Z4 := Z4) (Z6 := Z6) (Z3 := Z3) (Z5 := Z5) (Z0 := Z0) (t.Z05 P w base) ((t.ZK P w base).none (fun _ _ _ _ h => ZH h)) ((t.ZI P w base).none (fun _ _ _ _ h => ZH h)) ((t.ZN P w base).none (fun _ _ _ _ h => ZH h)) ((t.ZM P w base).none (fun _ _ _ _ h => ZH h)) ((t.ZL P w base).none (fun _ _ _ _ h => ZH h)) ((t.ZO P w base).none (fun _ _ _ _ h => ZH h)) t.Zc t.Zb t.Zh t.Zi t.Za t.Zo t.Zn t.Zq t.Zd t.Zs t.Zp t.Zk t.Z9 t.Zm t.Zj t.Ze t.Zf t.Zg t.Z8 t.Zr t.Zl, Z1h (g := Gx.mk P w K mg base) (m := 0) (k := 1) (Z7 := Z7) (Z2 := Z2) (Z1 := Z1) (Z4 := Z4) (Z6 := Z6) (Z3 := Z3) (Z5 := Z5) (Z0 := Z0) (t.ZZ P w base) (Z1i.mono (by omega)) ((t.ZT P w base).none (fun _ _ _ _ h => no_pblocks h)) t.Zi t.Za t.Zo t.Zn⟩
    | succ i ih =>
      obtain ⟨Z08, Z00, Z0f, Z0b, Z0c, Z0g, Z37, Z3k, Z1L, Z2B, Z2C, Z2D, Z38, Z3l, Z39, Z3m, Z3a⟩ := ih
      exact ⟨Z0Z (g := Gx.mk P w K mg base) (m := i + 1) (k := 1 + i + 1) (Z7 := Z7) (Z2 := Z2) (Z1 := Z1) (Z4 := Z4) (Z6 := Z6) (Z3 := Z3) (Z5 := Z5) (Z0 := Z0) (t.ZK P w base) Z2D t.b_len t.Zg t.Z8 t.Zr t.Zl, Z1b (g := Gx.mk P w K mg base) (m := i + 1) (k := 1 + i + 1) (Z7 := Z7) (Z2 := Z2) (Z1 := Z1) (Z4 := Z4) (Z6 := Z6) (Z3 := Z3) (Z5 := Z5) (Z0 := Z0) (t.ZI P w base) Z38 t.b_len t.Zk t.Z9 t.Zm, Z1n (g := Gx.mk P w K mg base) (m := i + 1) (k := 1 + i + 1) (Z7 := Z7) (Z2 := Z2) (Z1 := Z1) (Z4 := Z4) (Z6 := Z6) (Z3 := Z3) (Z5 := Z5) (Z0 := Z0) (t.ZN P w base) Z3l t.b_len t.Zq t.Zd t.Zs t.Zp, Z1c (g := Gx.mk P w K mg base) (m := i + 1) (k := 1 + i + 1) (Z7 := Z7) (Z2 := Z2) (Z1 := Z1) (Z4 := Z4) (Z6 := Z6) (Z3 := Z3) (Z5 := Z5) (Z0 := Z0) (t.ZL P w base) Z3a t.b_len t.Zi t.Za t.Zo t.Zn, Z1d (g := Gx.mk P w K mg base) (m := i + 1) (k := 1 + i + 1) (Z7 := Z7) (Z2 := Z2) (Z1 := Z1) (Z4 := Z4) (Z6 := Z6) (Z3 := Z3) (Z5 := Z5) (Z0 := Z0) (t.ZM P w base) Z39 t.b_len t.Zc t.Zb t.Zh, Z1o (g := Gx.mk P w K mg base) (m := i + 1) (k := 1 + i + 1) (Z7 := Z7) (Z2 := Z2) (Z1 := Z1) (Z4 := Z4) (Z6 := Z6) (Z3 := Z3) (Z5 := Z5) (Z0 := Z0) (t.ZO P w base) Z3m t.b_len t.Zj t.Ze t.Zf, Z1f (g := Gx.mk P w K mg base) (m := i + 1) (k := 1 + i + 1) (Z7 := Z7) (Z2 := Z2) (Z1 := Z1) (Z4 := Z4) (Z6 := Z6) (Z3 := Z3) (Z5 := Z5) (Z0 := Z0) (t.ZX P w base) Z1L Z08 Z00 Z0f Z0c Z0b Z0g t.ZA t.Zc t.Zb t.Zh t.Zi t.Za t.Zo t.Zn t.Zq t.Zd t.Zs t.Zp t.Zv t.Zx t.Zu t.Zk t.Z9 t.Zm t.Zj t.Ze t.Zf t.Zg t.Z8 t.Zr t.Zl, Z1p (g := Gx.mk P w K mg base) (m := i + 1) (k := 1 + i + 1) (Z7 := Z7) (Z2 := Z2) (Z1 := Z1) (Z4 := Z4) (Z6 := Z6) (Z3 := Z3) (Z5 := Z5) (Z0 := Z0) (t.Z03 P w base) (Z1i.mono (by omega)) Z37 t.b_len t.ZA t.Zv t.Zx t.Zu, Z1A (g := Gx.mk P w K mg base) (m := i + 1) (k := 1 + i + 1) (Z7 := Z7) (Z2 := Z2) (Z1 := Z1) (Z4 := Z4) (Z6 := Z6) (Z3 := Z3) (Z5 := Z5) (Z0 := Z0) (t.ZR P w base) Z3k t.b_len t.Zv t.Zx t.Zu, Z11 (g := Gx.mk P w K mg base) (m := i + 1) (k := 1 + i + 1) (Z7 := Z7) (Z2 := Z2) (Z1 := Z1) (Z4 := Z4) (Z6 := Z6) (Z3 := Z3) (Z5 := Z5) (Z0 := Z0) (t.ZS P w base) Z08 Z00 Z0f Z0c Z0b Z0g t.ZA t.Zc t.Zb t.Zh t.Zi t.Za t.Zo t.Zn t.Zq t.Zd t.Zs t.Zp t.Zk t.Z9 t.Zm t.Zj t.Ze t.Zf t.Zg t.Z8 t.Zr t.Zl, Z12 (g := Gx.mk P w K mg base) (m := i + 1) (k := 1 + i + 1) (Z7 := Z7) (Z2 := Z2) (Z1 := Z1) (Z4 := Z4) (Z6 := Z6) (Z3 := Z3) (Z5 := Z5) (Z0 := Z0) (t.ZT P w base) Z08 Z00 Z0f Z0c Z0b Z0g t.Zc t.Zb t.Zh t.Zi t.Za t.Zo t.Zn t.Zq t.Zd t.Zs t.Zp t.Zk t.Z9 t.Zm t.Zj t.Ze t.Zf t.Zg t.Z8 t.Zr t.Zl, Z10 (g := Gx.mk P w K mg base) (m := i + 1) (k := 1 + i + 1) (Z7 := Z7) (Z2 := Z2) (Z1 := Z1) (Z4 := Z4) (Z6 := Z6) (Z3 := Z3) (Z5 := Z5) (Z0 := Z0) (t.ZQ P w base) (Z23.mono (by omega)) t.b_max t.b_min t.Zg t.Z8 t.Zr t.Zl, Z1e (g := Gx.mk P w K mg base) (m := i + 1) (k := 1 + i + 1) (Z7 := Z7) (Z2 := Z2) (Z1 := Z1) (Z4 := Z4) (Z6 := Z6) (Z3 := Z3) (Z5 := Z5) (Z0 := Z0) (t.ZW P w base) Z00 t.b_len t.Zk t.Z9 t.Zm, Z1q (g := Gx.mk P w K mg base) (m := i + 1) (k := 1 + i + 1) (Z7 := Z7) (Z2 := Z2) (Z1 := Z1) (Z4 := Z4) (Z6 := Z6) (Z3 := Z3) (Z5 := Z5) (Z0 := Z0) (t.Z04 P w base) Z1L t.Zq t.Zd t.Zs t.Zp t.Zv t.Zx t.Zu, Z1g (g := Gx.mk P w K mg base) (m := i + 1) (k := 1 + i + 1) (Z7 := Z7) (Z2 := Z2) (Z1 := Z1) (Z4 := Z4) (Z6 := Z6) (Z3 := Z3) (Z5 := Z5) (Z0 := Z0) (t.ZY P w base) (Z1i.mono (by omega)) Z2B t.Zc t.Zb t.Zh, Z1r (g := Gx.mk P w K mg base) (m := i + 1) (k := 1 + i + 1) (Z7 := Z7) (Z2 := Z2) (Z1 := Z1) (Z4 := Z4) (Z6 := Z6) (Z3 := Z3) (Z5 := Z5) (Z0 := Z0) (t.Z05 P w base) Z08 Z00 Z0f Z0c Z0b Z0g t.Zc t.Zb t.Zh t.Zi t.Za t.Zo t.Zn t.Zq t.Zd t.Zs t.Zp t.Zk t.Z9 t.Zm t.Zj t.Ze t.Zf t.Zg t.Z8 t.Zr t.Zl, Z1h (g := Gx.mk P w K mg base) (m := i + 1) (k := 1 + i + 1) (Z7 := Z7) (Z2 := Z2) (Z1 := Z1) (Z4 := Z4) (Z6 := Z6) (Z3 := Z3) (Z5 := Z5) (Z0 := Z0) (t.ZZ P w base) (Z1i.mono (by omega)) Z2C t.Zi t.Za t.Zo t.Zn⟩
  obtain ⟨Z1j, Z1t, Z1C, Z1u, Z1v, Z1D, G_RowTable_blocks_at, G_RowTable_add_size, G_RowTable_ways_at, G_ManyMaker_blocks_at, G_PickMaker_blocks_at, G_WholeMaker_reckoned, G_TextMaker_reckoned, G_RowMaker_reckoned, G_ManyMaker_reckoned, G_UseMaker_reckoned, G_PickMaker_reckoned⟩ := Z2A 159
  have Z4c := ok_parts_of (g := Gx.mk P w K mg base) (Z7 := Z7) (Z2 := Z2) (Z1 := Z1) (Z4 := Z4) (Z6 := Z6) (Z3 := Z3) (Z5 := Z5) (Z0 := Z0) (t.Z31 P w base) t.b_list (t.Z3c P w base)
  have Z06 := Z3H (g := Gx.mk P w K mg base) (Z7 := Z7) (Z2 := Z2) (Z1 := Z1) (Z4 := Z4) (Z6 := Z6) (Z3 := Z3) (Z5 := Z5) (Z0 := Z0) (t.Z18 P w base) t.Zc t.Zb t.Zh t.Zi t.Za t.Zo t.Zn t.Zq t.Zd t.Zs t.Zp t.Zk t.Z9 t.Zm t.Zj t.Ze t.Zf t.Zg t.Z8 t.Zr t.Zl
  have Z1k := Z2d (g := Gx.mk P w K mg base) (k := 1) (Z7 := Z7) (Z2 := Z2) (Z1 := Z1) (Z4 := Z4) (Z6 := Z6) (Z3 := Z3) (Z5 := Z5) (Z0 := Z0) (t.Z0n P w base) (Z06.mono (by decide)) t.Zg t.Z8 t.Zr t.Zl
  have Z1w := Z2v (g := Gx.mk P w K mg base) (k := 1) (Z7 := Z7) (Z2 := Z2) (Z1 := Z1) (Z4 := Z4) (Z6 := Z6) (Z3 := Z3) (Z5 := Z5) (Z0 := Z0) (t.Z0y P w base) (Z06.mono (by decide)) t.Zk t.Z9 t.Zm
  have Z1x := Z2w (g := Gx.mk P w K mg base) (k := 1) (Z7 := Z7) (Z2 := Z2) (Z1 := Z1) (Z4 := Z4) (Z6 := Z6) (Z3 := Z3) (Z5 := Z5) (Z0 := Z0) (t.Z0z P w base) (Z06.mono (by decide)) t.Zc t.Zb t.Zh
  have Z1y := Z2x (g := Gx.mk P w K mg base) (k := 1) (Z7 := Z7) (Z2 := Z2) (Z1 := Z1) (Z4 := Z4) (Z6 := Z6) (Z3 := Z3) (Z5 := Z5) (Z0 := Z0) (t.Z0A P w base) (Z06.mono (by decide)) t.Zi t.Za t.Zo t.Zn
  have Z1E := Z2V (g := Gx.mk P w K mg base) (k := 1) (Z7 := Z7) (Z2 := Z2) (Z1 := Z1) (Z4 := Z4) (Z6 := Z6) (Z3 := Z3) (Z5 := Z5) (Z0 := Z0) (t.Z0L P w base) (Z06.mono (by decide)) t.Zj t.Ze t.Zf
  have Z3n := Z2W (g := Gx.mk P w K mg base) (Z7 := Z7) (Z2 := Z2) (Z1 := Z1) (Z4 := Z4) (Z6 := Z6) (Z3 := Z3) (Z5 := Z5) (Z0 := Z0) (t.Z0M P w base) t.b_len t.ZA t.Zv t.Zx t.Zu
  have Z1F := Z2X (g := Gx.mk P w K mg base) (k := 2) (Z7 := Z7) (Z2 := Z2) (Z1 := Z1) (Z4 := Z4) (Z6 := Z6) (Z3 := Z3) (Z5 := Z5) (Z0 := Z0) (t.Z0N P w base) Z3n (by decide) (Z06.mono (by decide)) t.Zq t.Zd t.Zs t.Zp
  have Z3L := Z3u (g := Gx.mk P w K mg base) (Z7 := Z7) (Z2 := Z2) (Z1 := Z1) (Z4 := Z4) (Z6 := Z6) (Z3 := Z3) (Z5 := Z5) (Z0 := Z0) (t.Z0W P w base) t.Zz t.ZE t.Zw
  have Z4d := ok_shape_of (g := Gx.mk P w K mg base) (Z7 := Z7) (Z2 := Z2) (Z1 := Z1) (Z4 := Z4) (Z6 := Z6) (Z3 := Z3) (Z5 := Z5) (Z0 := Z0) (t.Z32 P w base)
  have Z3C : ∀ i : Nat, ((Gx.mk P w K mg base).Me (4 + i + 1) Z7 "new_maker" ["self", "shape"] (sp_new (Gx.mk P w K mg base).P (Gx.mk P w K mg base).w (Gx.mk P w K mg base).K (Cs.mk Z0 Z3 Z4 Z6 Z2 Z1 Z5) Z7 (i + 1))) ∧ ((Gx.mk P w K mg base).Me (4 + i + 1) Z7 "add_use" ["self", "shape"] (Z1Y (Gx.mk P w K mg base).P (Gx.mk P w K mg base).w (Gx.mk P w K mg base).K (Cs.mk Z0 Z3 Z4 Z6 Z2 Z1 Z5) Z7 (i + 1))) ∧ ((Gx.mk P w K mg base).Me (4 + i + 1) Z7 "maker_of" ["self", "shape"] (Z0h (Gx.mk P w K mg base).P (Gx.mk P w K mg base).w (Gx.mk P w K mg base).K (Cs.mk Z0 Z3 Z4 Z6 Z2 Z1 Z5) Z7 (i + 1))) := by
    intro i
    induction i with
    | zero => exact ⟨Z1B (g := Gx.mk P w K mg base) (m := 0) (k := 4) (Z7 := Z7) (Z2 := Z2) (Z1 := Z1) (Z4 := Z4) (Z6 := Z6) (Z3 := Z3) (Z5 := Z5) (Z0 := Z0) (t.Z07 P w base) (Z4c.mono (by omega)) ((t.Z02 P w base).none (fun _ _ _ _ h => Z3T h)) Z1k (by omega) Z1w (by omega) Z1F (by omega) Z1x (by omega) Z1y (by omega) t.Zz t.ZE t.Zw, Z1Q (g := Gx.mk P w K mg base) (m := 0) (k := 4) (Z7 := Z7) (Z2 := Z2) (Z1 := Z1) (Z4 := Z4) (Z6 := Z6) (Z3 := Z3) (Z5 := Z5) (Z0 := Z0) (t.Z0e P w base) (Z4d.mono (by omega)) ((t.Z02 P w base).none (fun _ _ _ _ h => Z3T h)) Z1E (by omega) t.Zz t.ZE t.Zw t.Zj t.Ze t.Zf, Z1J (g := Gx.mk P w K mg base) (m := 0) (k := 4) (Z7 := Z7) (Z2 := Z2) (Z1 := Z1) (Z4 := Z4) (Z6 := Z6) (Z3 := Z3) (Z5 := Z5) (Z0 := Z0) (t.Z02 P w base) ((t.Z0e P w base).none (fun _ _ _ _ h => no_add_use h)) ((t.Z07 P w base).none (fun _ _ _ _ h => no_new h)) t.Zz t.ZE t.Zw⟩
    | succ i ih =>
      obtain ⟨Z3D, Z40, Z1S⟩ := ih
      exact ⟨Z1B (g := Gx.mk P w K mg base) (m := i + 1) (k := 4 + i + 1) (Z7 := Z7) (Z2 := Z2) (Z1 := Z1) (Z4 := Z4) (Z6 := Z6) (Z3 := Z3) (Z5 := Z5) (Z0 := Z0) (t.Z07 P w base) (Z4c.mono (by omega)) Z1S Z1k (by omega) Z1w (by omega) Z1F (by omega) Z1x (by omega) Z1y (by omega) t.Zz t.ZE t.Zw, Z1Q (g := Gx.mk P w K mg base) (m := i + 1) (k := 4 + i + 1) (Z7 := Z7) (Z2 := Z2) (Z1 := Z1) (Z4 := Z4) (Z6 := Z6) (Z3 := Z3) (Z5 := Z5) (Z0 := Z0) (t.Z0e P w base) (Z4d.mono (by omega)) Z1S Z1E (by omega) t.Zz t.ZE t.Zw t.Zj t.Ze t.Zf, Z1J (g := Gx.mk P w K mg base) (m := i + 1) (k := 4 + i + 1) (Z7 := Z7) (Z2 := Z2) (Z1 := Z1) (Z4 := Z4) (Z6 := Z6) (Z3 := Z3) (Z5 := Z5) (Z0 := Z0) (t.Z02 P w base) Z40 Z3D t.Zz t.ZE t.Zw⟩
  obtain ⟨G_Lister_new_maker, G_Lister_add_use, Z3M⟩ := Z3C 19
  have Z3W := ok_maker_for (g := Gx.mk P w K mg base) (k := 24) (Z7 := Z7) (Z2 := Z2) (Z1 := Z1) (Z4 := Z4) (Z6 := Z6) (Z3 := Z3) (Z5 := Z5) (Z0 := Z0) (t.Z2g P w base) Z3L (by decide) (Z3M.mono (by decide)) t.Zz t.ZE t.Zw
  have G_counts_to := ok_counts_to (g := Gx.mk P w K mg base) (k := 161) (Z7 := Z7) (Z2 := Z2) (Z1 := Z1) (Z4 := Z4) (Z6 := Z6) (Z3 := Z3) (Z5 := Z5) (Z0 := Z0) (t.Z2h P w base) (Z3W.mono (by decide)) (Z1j.mono (by decide)) (Z1t.mono (by decide)) (Z1C.mono (by decide)) (Z1v.mono (by decide)) (Z1u.mono (by decide)) (Z1D.mono (by decide)) t.ZA t.Zc t.Zb t.Zh t.Zi t.Za t.Zo t.Zn t.Zq t.Zd t.Zs t.Zp t.Zk t.Z9 t.Zm t.Zj t.Ze t.Zf t.Zg t.Z8 t.Zr t.Zl
  have G_counted := ok_counted (g := Gx.mk P w K mg base) (k := 161) (Z7 := Z7) (Z2 := Z2) (Z1 := Z1) (Z4 := Z4) (Z6 := Z6) (Z3 := Z3) (Z5 := Z5) (Z0 := Z0) (t.Z3A P w base) (Z3W.mono (by decide)) (Z1j.mono (by decide)) (Z1t.mono (by decide)) (Z1C.mono (by decide)) (Z1v.mono (by decide)) (Z1u.mono (by decide)) (Z1D.mono (by decide)) t.Zc t.Zb t.Zh t.Zi t.Za t.Zo t.Zn t.Zq t.Zd t.Zs t.Zp t.Zk t.Z9 t.Zm t.Zj t.Ze t.Zf t.Zg t.Z8 t.Zr t.Zl
  have G_law_whole := ok_law_whole (g := Gx.mk P w K mg base) (Z7 := Z7) (Z2 := Z2) (Z1 := Z1) (Z4 := Z4) (Z6 := Z6) (Z3 := Z3) (Z5 := Z5) (Z0 := Z0) (t.Z2i P w base) t.b_bool t.b_int t.ZU
  have G_law_mix := ok_law_mix (g := Gx.mk P w K mg base) (Z7 := Z7) (Z2 := Z2) (Z1 := Z1) (Z4 := Z4) (Z6 := Z6) (Z3 := Z3) (Z5 := Z5) (Z0 := Z0) (t.Z3B P w base)
  have G_law_feed := ok_law_feed (g := Gx.mk P w K mg base) (k := 1) (Z7 := Z7) (Z2 := Z2) (Z1 := Z1) (Z4 := Z4) (Z6 := Z6) (Z3 := Z3) (Z5 := Z5) (Z0 := Z0) (t.Z33 P w base) (G_law_mix.mono (by decide)) t.ZA
  have Z1z := ok_law_next (g := Gx.mk P w K mg base) (Z7 := Z7) (Z2 := Z2) (Z1 := Z1) (Z4 := Z4) (Z6 := Z6) (Z3 := Z3) (Z5 := Z5) (Z0 := Z0) (t.Z34 P w base) t.b_len
  have Z3N := Z3y (g := Gx.mk P w K mg base) (k := 1) (Z7 := Z7) (Z2 := Z2) (Z1 := Z1) (Z4 := Z4) (Z6 := Z6) (Z3 := Z3) (Z5 := Z5) (Z0 := Z0) (t.Z0X P w base) (Z1z.mono (by decide)) t.b_max
  have Z41 := Z3J (g := Gx.mk P w K mg base) (k := 1) (Z7 := Z7) (Z2 := Z2) (Z1 := Z1) (Z4 := Z4) (Z6 := Z6) (Z3 := Z3) (Z5 := Z5) (Z0 := Z0) (t.Z19 P w base) (Z1z.mono (by decide)) t.ZA
  have G_law_counts := ok_law_counts (g := Gx.mk P w K mg base) (k := 1) (Z7 := Z7) (Z2 := Z2) (Z1 := Z1) (Z4 := Z4) (Z6 := Z6) (Z3 := Z3) (Z5 := Z5) (Z0 := Z0) (t.Z22 P w base) (G_law_whole.mono (by decide)) t.ZU t.b_len t.b_list t.b_zip
  have Z4e := ok_law_leaf (g := Gx.mk P w K mg base) (k := 2) (Z7 := Z7) (Z2 := Z2) (Z1 := Z1) (Z4 := Z4) (Z6 := Z6) (Z3 := Z3) (Z5 := Z5) (Z0 := Z0) (t.Z35 P w base) (Z1z.mono (by decide)) (Z3N.mono (by decide)) (Z41.mono (by decide))
  have G_law_part := ok_law_part (g := Gx.mk P w K mg base) (k := 3) (Z7 := Z7) (Z2 := Z2) (Z1 := Z1) (Z4 := Z4) (Z6 := Z6) (Z3 := Z3) (Z5 := Z5) (Z0 := Z0) (t.Z36 P w base) (Z1z.mono (by decide)) (Z4e.mono (by decide))
  have G_law_row_due := Z4f (g := Gx.mk P w K mg base) (Z7 := Z7) (Z2 := Z2) (Z1 := Z1) (Z4 := Z4) (Z6 := Z6) (Z3 := Z3) (Z5 := Z5) (Z0 := Z0) (t.Z1O P w base) t.ZA t.b_sum
  have Z4h := Z4b (g := Gx.mk P w K mg base) (Z7 := Z7) (Z2 := Z2) (Z1 := Z1) (Z4 := Z4) (Z6 := Z6) (Z3 := Z3) (Z5 := Z5) (Z0 := Z0) (t.Z1H P w base) t.ZA t.b_sum
  exact body_law (g := Gx.mk P w K mg base) (k := 162) (Z7 := Z7) (Z2 := Z2) (Z1 := Z1) (Z4 := Z4) (Z6 := Z6) (Z3 := Z3) (Z5 := Z5) (Z0 := Z0) (G_counted.mono (by decide)) (G_counts_to.mono (by decide)) (G_law_feed.mono (by decide)) (Z1z.mono (by decide)) (G_law_counts.mono (by decide)) (Z4e.mono (by decide)) (G_law_part.mono (by decide)) (G_law_row_due.mono (by decide)) (Z4h.mono (by decide)) t.b_len t.ZA t.Z1Z
end KW
def PySem.W.Fast.tw739798303427538815 : Nat := 0
def PySem.W.Fast.tw17053212470155319863 : Nat := 0
def PySem.W.Fast.tw2432361216278133930 : Nat := 0
def PySem.W.Fast.tw18342349973897761878 : Nat := 0
def PySem.W.Fast.tw17233304883320167517 : Nat := 0
def PySem.W.Fast.tw7550625644341140865 : Nat := 0
def PySem.W.Fast.tw48059760017440201 : Nat := 0
def PySem.W.Fast.tw10028443579079885572 : Nat := 0
def PySem.W.Fast.tw7953983185611672337 : Nat := 0
def PySem.W.Fast.tw5102279369601529715 : Nat := 0
def PySem.W.Fast.tw1877956934900572313 : Nat := 0
def PySem.W.Fast.tw15949282212892507170 : Nat := 0
def PySem.W.Fast.tw14487611444734946110 : Nat := 0
def PySem.W.Fast.tw3072997854629892067 : Nat := 0
def PySem.W.Fast.tw15613919548571538479 : Nat := 0
def PySem.W.Fast.tw11355968860326891517 : Nat := 0
def PySem.W.Fast.tw13913892308384016786 : Nat := 0
def PySem.W.Fast.tw16704955794504028726 : Nat := 0
def PySem.W.Fast.tw12387356136228365273 : Nat := 0
def PySem.W.Fast.tw3280223917602376945 : Nat := 0
def PySem.W.Fast.tw10292980042345160127 : Nat := 0
def PySem.W.Fast.tw9241009229631194329 : Nat := 0
def PySem.W.Fast.tw44188273283044235 : Nat := 0
def PySem.W.Fast.tw11019564020678366698 : Nat := 0
def PySem.W.Fast.tw18324018343055217030 : Nat := 0
def PySem.W.Fast.tw16048535622717881632 : Nat := 0
def PySem.W.Fast.tw16674598686726871861 : Nat := 0
def PySem.W.Fast.tw13393894460618575287 : Nat := 0
def PySem.W.Fast.tw3709665563781861781 : Nat := 0
def PySem.W.Fast.tw5205503664334170154 : Nat := 0
def PySem.W.Fast.tw534804526531516776 : Nat := 0
def PySem.W.Fast.tw3118313052553424448 : Nat := 0
def PySem.W.Fast.tw2224626160765695859 : Nat := 0
def PySem.W.Fast.tw4670297058003308873 : Nat := 0
def PySem.W.Fast.tw11284515988379590362 : Nat := 0
def PySem.W.Fast.tw99060127040390567 : Nat := 0
open PySem PySem.W PyProof.Rows
set_option maxRecDepth 100000 in
set_option maxHeartbeats 0 in
theorem PySem.Challenge.cw_countgen_k31_rows_and_lists_counted_holds : PySem.Challenge.rw_countgen_k31_rows_and_lists_counted.Holds := by
  w_on; o_law; k_head; (case hw => w_witness2)
  k_fill
  refine L2.walk_gx (l := PySem.Challenge.rw_countgen_k31_rows_and_lists_counted) 162 "_law_script" KW.s_law ["_law_script", "_law_feed_here", "_law_cell", "_law_many", "_law_size", "_law_book", "_law_parts", "_law_counts_here", "_law_some", "_law_due", "_law_first"] rfl rfl ⟨rfl, by decide, by decide⟩ KW.sc_law (fun w h Y => by first | exact PySem.W.kIn_of Y | exact PySem.W.km_in_of Y) ?F
  case F =>
    intro w mg h KX G
    refine' ⟨L2.lawRaw_mk KX G ?a ?l ?c ?k (fun _ _ _ _ _ _ _ _ => .of_eq rfl), fun base => KW.law_body ⟨?ZK, ?ZI, ?ZN, ?ZL, ?ZM, ?ZO, ?Z17, ?ZQ, ?ZW, ?Z3z, ?ZX, ?Z03, ?ZR, ?Z04, ?ZS, ?ZY, ?Z05, ?ZT, ?ZZ, ?Z31, ?Z18, ?Z0n, ?Z0y, ?Z0z, ?Z0A, ?Z0L, ?Z0M, ?Z0N, ?Z0W, ?Z32, ?Z07, ?Z0e, ?Z02, ?Z2g, ?Z2h, ?Z3A, ?Z2i, ?Z3B, ?Z33, ?Z34, ?Z0X, ?Z19, ?Z22, ?Z35, ?Z36, ?Z1O, ?Z1H, ?Zz, ?ZE, ?Zw, ?Zc, ?Zb, ?Zh, ?Zi, ?Za, ?Zo, ?Zn, ?Zq, ?Zd, ?Zs, ?Zp, ?Zv, ?Zx, ?Zu, ?Zk, ?Z9, ?Zm, ?Zj, ?Ze, ?Zf, ?Zg, ?Z8, ?Zr, ?Zl, ?Z3c, ?b_bool, ?b_int, ?ZU, ?b_len, ?b_list, ?b_max, ?b_min, ?ZA, ?b_sum, ?Z1Z, ?b_zip⟩ _ w base⟩
    (case a => k_is)
    (case l => k_is)
    (case c => k_is)
    (case k => k_is)
    case Z0n =>
      refine' L2.rawI_mk KX G ["self", "low", "high"] ?aC ?mk ?kc ?a ?i ?l ?c ?k (fun _ _ _ _ _ _ us hl => match us, hl with | [_, _, _], _ => rfl)
      (case aC => k_is)
      (case mk => k_is)
      (case kc => k_is)
      (case a => k_is)
      (case i => k_is)
      (case l => k_is)
      (case c => k_is)
      (case k => k_is)
    case Z0y =>
      refine' L2.rawI_mk KX G ["self", "signs"] ?aC ?mk ?kc ?a ?i ?l ?c ?k (fun _ _ _ _ _ _ us hl => match us, hl with | [_, _], _ => rfl)
      (case aC => k_is)
      (case mk => k_is)
      (case kc => k_is)
      (case a => k_is)
      (case i => k_is)
      (case l => k_is)
      (case c => k_is)
      (case k => k_is)
    case Z0z =>
      refine' L2.rawI_mk KX G ["self", "part"] ?aC ?mk ?kc ?a ?i ?l ?c ?k (fun _ _ _ _ _ _ us hl => match us, hl with | [_, _], _ => rfl)
      (case aC => k_is)
      (case mk => k_is)
      (case kc => k_is)
      (case a => k_is)
      (case i => k_is)
      (case l => k_is)
      (case c => k_is)
      (case k => k_is)
    case Z0A =>
      refine' L2.rawI_mk KX G ["self", "marks", "parts"] ?aC ?mk ?kc ?a ?i ?l ?c ?k (fun _ _ _ _ _ _ us hl => match us, hl with | [_, _, _], _ => rfl)
      (case aC => k_is)
      (case mk => k_is)
      (case kc => k_is)
      (case a => k_is)
      (case i => k_is)
      (case l => k_is)
      (case c => k_is)
      (case k => k_is)
    case Z0L =>
      refine' L2.rawI_mk KX G ["self"] ?aC ?mk ?kc ?a ?i ?l ?c ?k (fun _ _ _ _ _ _ us hl => match us, hl with | [_], _ => rfl)
      (case aC => k_is)
      (case mk => k_is)
      (case kc => k_is)
      (case a => k_is)
      (case i => k_is)
      (case l => k_is)
      (case c => k_is)
      (case k => k_is)
    case Z0M =>
      refine' L2.rawI_mk KX G ["self", "parts"] ?aC ?mk ?kc ?a ?i ?l ?c ?k (fun _ _ _ _ _ _ us hl => match us, hl with | [_, _], _ => rfl)
      (case aC => k_is)
      (case mk => k_is)
      (case kc => k_is)
      (case a => k_is)
      (case i => k_is)
      (case l => k_is)
      (case c => k_is)
      (case k => k_is)
    case Z0N =>
      refine' L2.rawI_mk KX G ["self", "parts"] ?aC ?mk ?kc ?a ?i ?l ?c ?k (fun _ _ _ _ _ _ us hl => match us, hl with | [_, _], _ => rfl)
      (case aC => k_is)
      (case mk => k_is)
      (case kc => k_is)
      (case a => k_is)
      (case i => k_is)
      (case l => k_is)
      (case c => k_is)
      (case k => k_is)
    case Z0W =>
      refine' L2.rawI_mk KX G ["self", "book"] ?aC ?mk ?kc ?a ?i ?l ?c ?k (fun _ _ _ _ _ _ us hl => match us, hl with | [_, _], _ => rfl)
      (case aC => k_is)
      (case mk => k_is)
      (case kc => k_is)
      (case a => k_is)
      (case i => k_is)
      (case l => k_is)
      (case c => k_is)
      (case k => k_is)
    case ZK =>
      refine' L2.rawM_mk KX G ["self", "size"] ?a ?i ?l ?c ?k (fun _ _ _ _ _ _ us hl => match us, hl with | [_, _], _ => rfl)
      (case a => k_is)
      (case i => k_is)
      (case l => k_is)
      (case c => k_is)
      (case k => k_is)
    case ZI =>
      refine' L2.rawM_mk KX G ["self", "size"] ?a ?i ?l ?c ?k (fun _ _ _ _ _ _ us hl => match us, hl with | [_, _], _ => rfl)
      (case a => k_is)
      (case i => k_is)
      (case l => k_is)
      (case c => k_is)
      (case k => k_is)
    case ZN =>
      refine' L2.rawM_mk KX G ["self", "size"] ?a ?i ?l ?c ?k (fun _ _ _ _ _ _ us hl => match us, hl with | [_, _], _ => rfl)
      (case a => k_is)
      (case i => k_is)
      (case l => k_is)
      (case c => k_is)
      (case k => k_is)
    case ZL =>
      refine' L2.rawM_mk KX G ["self", "size"] ?a ?i ?l ?c ?k (fun _ _ _ _ _ _ us hl => match us, hl with | [_, _], _ => rfl)
      (case a => k_is)
      (case i => k_is)
      (case l => k_is)
      (case c => k_is)
      (case k => k_is)
    case ZM =>
      refine' L2.rawM_mk KX G ["self", "size"] ?a ?i ?l ?c ?k (fun _ _ _ _ _ _ us hl => match us, hl with | [_, _], _ => rfl)
      (case a => k_is)
      (case i => k_is)
      (case l => k_is)
      (case c => k_is)
      (case k => k_is)
    case ZO =>
      refine' L2.rawM_mk KX G ["self", "size"] ?a ?i ?l ?c ?k (fun _ _ _ _ _ _ us hl => match us, hl with | [_, _], _ => rfl)
      (case a => k_is)
      (case i => k_is)
      (case l => k_is)
      (case c => k_is)
      (case k => k_is)
    case Z17 =>
      refine' L2.raw_mk KX G ["size"] ?a ?l ?c ?k (fun _ _ _ _ _ _ us hl => match us, hl with | [_], _ => rfl)
      (case a => k_is)
      (case l => k_is)
      (case c => k_is)
      (case k => k_is)
    case ZQ =>
      refine' L2.rawM_mk KX G ["self", "size"] ?a ?i ?l ?c ?k (fun _ _ _ _ _ _ us hl => match us, hl with | [_, _], _ => rfl)
      (case a => k_is)
      (case i => k_is)
      (case l => k_is)
      (case c => k_is)
      (case k => k_is)
    case ZW =>
      refine' L2.rawM_mk KX G ["self", "size"] ?a ?i ?l ?c ?k (fun _ _ _ _ _ _ us hl => match us, hl with | [_, _], _ => rfl)
      (case a => k_is)
      (case i => k_is)
      (case l => k_is)
      (case c => k_is)
      (case k => k_is)
    case Z3z =>
      refine' L2.raw_mk KX G ["blocks"] ?a ?l ?c ?k (fun _ _ _ _ _ _ us hl => match us, hl with | [_], _ => rfl)
      (case a => k_is)
      (case l => k_is)
      (case c => k_is)
      (case k => k_is)
    case ZX =>
      refine' L2.rawM_mk KX G ["self", "place", "left"] ?a ?i ?l ?c ?k (fun _ _ _ _ _ _ us hl => match us, hl with | [_, _, _], _ => rfl)
      (case a => k_is)
      (case i => k_is)
      (case l => k_is)
      (case c => k_is)
      (case k => k_is)
    case Z03 =>
      refine' L2.rawM_mk KX G ["self", "size"] ?a ?i ?l ?c ?k (fun _ _ _ _ _ _ us hl => match us, hl with | [_, _], _ => rfl)
      (case a => k_is)
      (case i => k_is)
      (case l => k_is)
      (case c => k_is)
      (case k => k_is)
    case ZR =>
      refine' L2.rawM_mk KX G ["self", "place", "left"] ?a ?i ?l ?c ?k (fun _ _ _ _ _ _ us hl => match us, hl with | [_, _, _], _ => rfl)
      (case a => k_is)
      (case i => k_is)
      (case l => k_is)
      (case c => k_is)
      (case k => k_is)
    case Z04 =>
      refine' L2.rawM_mk KX G ["self", "size"] ?a ?i ?l ?c ?k (fun _ _ _ _ _ _ us hl => match us, hl with | [_, _], _ => rfl)
      (case a => k_is)
      (case i => k_is)
      (case l => k_is)
      (case c => k_is)
      (case k => k_is)
    case ZS =>
      refine' L2.rawM_mk KX G ["self", "left"] ?a ?i ?l ?c ?k (fun _ _ _ _ _ _ us hl => match us, hl with | [_, _], _ => rfl)
      (case a => k_is)
      (case i => k_is)
      (case l => k_is)
      (case c => k_is)
      (case k => k_is)
    case ZY =>
      refine' L2.rawM_mk KX G ["self", "size"] ?a ?i ?l ?c ?k (fun _ _ _ _ _ _ us hl => match us, hl with | [_, _], _ => rfl)
      (case a => k_is)
      (case i => k_is)
      (case l => k_is)
      (case c => k_is)
      (case k => k_is)
    case Z05 =>
      refine' L2.rawM_mk KX G ["self", "size"] ?a ?i ?l ?c ?k (fun _ _ _ _ _ _ us hl => match us, hl with | [_, _], _ => rfl)
      (case a => k_is)
      (case i => k_is)
      (case l => k_is)
      (case c => k_is)
      (case k => k_is)
    case ZT =>
      refine' L2.rawM_mk KX G ["self", "size"] ?a ?i ?l ?c ?k (fun _ _ _ _ _ _ us hl => match us, hl with | [_, _], _ => rfl)
      (case a => k_is)
      (case i => k_is)
      (case l => k_is)
      (case c => k_is)
      (case k => k_is)
    case ZZ =>
      refine' L2.rawM_mk KX G ["self", "size"] ?a ?i ?l ?c ?k (fun _ _ _ _ _ _ us hl => match us, hl with | [_, _], _ => rfl)
      (case a => k_is)
      (case i => k_is)
      (case l => k_is)
      (case c => k_is)
      (case k => k_is)
    case Z31 =>
      refine' L2.raw_mk KX G ["shape"] ?a ?l ?c ?k (fun _ _ _ _ _ _ us hl => match us, hl with | [_], _ => rfl)
      (case a => k_is)
      (case l => k_is)
      (case c => k_is)
      (case k => k_is)
    case Z18 =>
      refine' L2.rawC_mk KX G ["self"] ?aB ?ga ?rd ?a ?l ?c ?k (fun _ _ _ _ _ _ us hl => match us, hl with | [_], _ => rfl)
      (case aB => k_is)
      (case ga => k_is)
      (case rd => k_is)
      (case a => k_is)
      (case l => k_is)
      (case c => k_is)
      (case k => k_is)
    case Z32 =>
      refine' L2.raw_mk KX G ["book", "name"] ?a ?l ?c ?k (fun _ _ _ _ _ _ us hl => match us, hl with | [_, _], _ => rfl)
      (case a => k_is)
      (case l => k_is)
      (case c => k_is)
      (case k => k_is)
    case Z07 =>
      refine' L2.rawM_mk KX G ["self", "shape"] ?a ?i ?l ?c ?k (fun _ _ _ _ _ _ us hl => match us, hl with | [_, _], _ => rfl)
      (case a => k_is)
      (case i => k_is)
      (case l => k_is)
      (case c => k_is)
      (case k => k_is)
    case Z0e =>
      refine' L2.rawM_mk KX G ["self", "shape"] ?a ?i ?l ?c ?k (fun _ _ _ _ _ _ us hl => match us, hl with | [_, _], _ => rfl)
      (case a => k_is)
      (case i => k_is)
      (case l => k_is)
      (case c => k_is)
      (case k => k_is)
    case Z02 =>
      refine' L2.rawM_mk KX G ["self", "shape"] ?a ?i ?l ?c ?k (fun _ _ _ _ _ _ us hl => match us, hl with | [_, _], _ => rfl)
      (case a => k_is)
      (case i => k_is)
      (case l => k_is)
      (case c => k_is)
      (case k => k_is)
    case Z2g =>
      refine' L2.raw_mk KX G ["book", "shape"] ?a ?l ?c ?k (fun _ _ _ _ _ _ us hl => match us, hl with | [_, _], _ => rfl)
      (case a => k_is)
      (case l => k_is)
      (case c => k_is)
      (case k => k_is)
    case Z2h =>
      refine' L2.raw_mk KX G ["book", "shape", "size"] ?a ?l ?c ?k (fun _ _ _ _ _ _ us hl => match us, hl with | [_, _, _], _ => rfl)
      (case a => k_is)
      (case l => k_is)
      (case c => k_is)
      (case k => k_is)
    case Z3A =>
      refine' L2.raw_mk KX G ["book", "shape", "size"] ?a ?l ?c ?k (fun _ _ _ _ _ _ us hl => match us, hl with | [_, _, _], _ => rfl)
      (case a => k_is)
      (case l => k_is)
      (case c => k_is)
      (case k => k_is)
    case Z2i =>
      refine' L2.raw_mk KX G ["_law_found"] ?a ?l ?c ?k (fun _ _ _ _ _ _ us hl => match us, hl with | [_], _ => rfl)
      (case a => k_is)
      (case l => k_is)
      (case c => k_is)
      (case k => k_is)
    case Z3B =>
      refine' L2.raw_mk KX G ["_law_script", "_law_k", "_law_step"] ?a ?l ?c ?k (fun _ _ _ _ _ _ us hl => match us, hl with | [_, _, _], _ => rfl)
      (case a => k_is)
      (case l => k_is)
      (case c => k_is)
      (case k => k_is)
    case Z33 =>
      refine' L2.raw_mk KX G ["_law_script", "_law_many"] ?a ?l ?c ?k (fun _ _ _ _ _ _ us hl => match us, hl with | [_, _], _ => rfl)
      (case a => k_is)
      (case l => k_is)
      (case c => k_is)
      (case k => k_is)
    case Z34 =>
      refine' L2.raw_mk KX G ["_law_feed_here"] ?a ?l ?c ?k (fun _ _ _ _ _ _ us hl => match us, hl with | [_], _ => rfl)
      (case a => k_is)
      (case l => k_is)
      (case c => k_is)
      (case k => k_is)
    case Z0X =>
      refine' L2.raw_mk KX G ["_law_feed_here"] ?a ?l ?c ?k (fun _ _ _ _ _ _ us hl => match us, hl with | [_], _ => rfl)
      (case a => k_is)
      (case l => k_is)
      (case c => k_is)
      (case k => k_is)
    case Z19 =>
      refine' L2.raw_mk KX G ["_law_feed_here"] ?a ?l ?c ?k (fun _ _ _ _ _ _ us hl => match us, hl with | [_], _ => rfl)
      (case a => k_is)
      (case l => k_is)
      (case c => k_is)
      (case k => k_is)
    case Z22 =>
      refine' L2.raw_mk KX G ["_law_found", "_law_due"] ?a ?l ?c ?k (fun _ _ _ _ _ _ us hl => match us, hl with | [_, _], _ => rfl)
      (case a => k_is)
      (case l => k_is)
      (case c => k_is)
      (case k => k_is)
    case Z35 =>
      refine' L2.raw_mk KX G ["_law_feed_here"] ?a ?l ?c ?k (fun _ _ _ _ _ _ us hl => match us, hl with | [_], _ => rfl)
      (case a => k_is)
      (case l => k_is)
      (case c => k_is)
      (case k => k_is)
    case Z36 =>
      refine' L2.raw_mk KX G ["_law_feed_here"] ?a ?l ?c ?k (fun _ _ _ _ _ _ us hl => match us, hl with | [_], _ => rfl)
      (case a => k_is)
      (case l => k_is)
      (case c => k_is)
      (case k => k_is)
    case Z1O =>
      refine' L2.raw_mk KX G ["_law_counts_here", "_law_size"] ?a ?l ?c ?k (fun _ _ _ _ _ _ us hl => match us, hl with | [_, _], _ => rfl)
      (case a => k_is)
      (case l => k_is)
      (case c => k_is)
      (case k => k_is)
    case Z1H =>
      refine' L2.raw_mk KX G ["_law_some", "_law_size"] ?a ?l ?c ?k (fun _ _ _ _ _ _ us hl => match us, hl with | [_, _], _ => rfl)
      (case a => k_is)
      (case l => k_is)
      (case c => k_is)
      (case k => k_is)
    case Zz =>
      refine' ⟨?a, ?b, ?c, ?d⟩
      (case a => k_is)
      (case b => k_is)
      (case c => k_is)
      (case d => k_is)
    case ZE =>
      refine' L2.noattr_mk ?a
      (case a => k_is)
    case Zw =>
      refine' L2.noattr_mk ?a
      (case a => k_is)
    case Zc =>
      refine' ⟨?a, ?b, ?c, ?d⟩
      (case a => k_is)
      (case b => k_is)
      (case c => k_is)
      (case d => k_is)
    case Zb =>
      refine' L2.noattr_mk ?a
      (case a => k_is)
    case Zh =>
      refine' L2.noattr_mk ?a
      (case a => k_is)
    case Zi =>
      refine' ⟨?a, ?b, ?c, ?d⟩
      (case a => k_is)
      (case b => k_is)
      (case c => k_is)
      (case d => k_is)
    case Za =>
      refine' L2.noattr_mk ?a
      (case a => k_is)
    case Zo =>
      refine' L2.noattr_mk ?a
      (case a => k_is)
    case Zn =>
      refine' L2.noattr_mk ?a
      (case a => k_is)
    case Zq =>
      refine' ⟨?a, ?b, ?c, ?d⟩
      (case a => k_is)
      (case b => k_is)
      (case c => k_is)
      (case d => k_is)
    case Zd =>
      refine' L2.noattr_mk ?a
      (case a => k_is)
    case Zs =>
      refine' L2.noattr_mk ?a
      (case a => k_is)
    case Zp =>
      refine' L2.noattr_mk ?a
      (case a => k_is)
    case Zv =>
      refine' ⟨?a, ?b, ?c, ?d⟩
      (case a => k_is)
      (case b => k_is)
      (case c => k_is)
      (case d => k_is)
    case Zx =>
      refine' L2.noattr_mk ?a
      (case a => k_is)
    case Zu =>
      refine' L2.noattr_mk ?a
      (case a => k_is)
    case Zk =>
      refine' ⟨?a, ?b, ?c, ?d⟩
      (case a => k_is)
      (case b => k_is)
      (case c => k_is)
      (case d => k_is)
    case Z9 =>
      refine' L2.noattr_mk ?a
      (case a => k_is)
    case Zm =>
      refine' L2.noattr_mk ?a
      (case a => k_is)
    case Zj =>
      refine' ⟨?a, ?b, ?c, ?d⟩
      (case a => k_is)
      (case b => k_is)
      (case c => k_is)
      (case d => k_is)
    case Ze =>
      refine' L2.noattr_mk ?a
      (case a => k_is)
    case Zf =>
      refine' L2.noattr_mk ?a
      (case a => k_is)
    case Zg =>
      refine' ⟨?a, ?b, ?c, ?d⟩
      (case a => k_is)
      (case b => k_is)
      (case c => k_is)
      (case d => k_is)
    case Z8 =>
      refine' L2.noattr_mk ?a
      (case a => k_is)
    case Zr =>
      refine' L2.noattr_mk ?a
      (case a => k_is)
    case Zl =>
      refine' L2.noattr_mk ?a
      (case a => k_is)
    case Z3c =>
      refine' L2.conT_mk KX G ?a ?l ?z ?r
      (case a => k_is)
      (case l => k_is)
      (case z => decide)
      (case r => exact (.cons ⟨_, rfl⟩ (.cons ⟨_, rfl⟩ (.cons ⟨_, rfl⟩ .nil))))
    case b_bool =>
      refine' PySem.W.mg_none_of KX G ?a
      (case a => k_is)
    case b_int =>
      refine' PySem.W.mg_none_of KX G ?a
      (case a => k_is)
    case ZU =>
      refine' PySem.W.mg_none_of KX G ?a
      (case a => k_is)
    case b_len =>
      refine' PySem.W.mg_none_of KX G ?a
      (case a => k_is)
    case b_list =>
      refine' PySem.W.mg_none_of KX G ?a
      (case a => k_is)
    case b_max =>
      refine' PySem.W.mg_none_of KX G ?a
      (case a => k_is)
    case b_min =>
      refine' PySem.W.mg_none_of KX G ?a
      (case a => k_is)
    case ZA =>
      refine' PySem.W.mg_none_of KX G ?a
      (case a => k_is)
    case b_sum =>
      refine' PySem.W.mg_none_of KX G ?a
      (case a => k_is)
    case Z1Z =>
      refine' PySem.W.mg_none_of KX G ?a
      (case a => k_is)
    case b_zip =>
      refine' PySem.W.mg_none_of KX G ?a
      (case a => k_is)
