import PyProof.Rows.All
import Wide.All
import OpenK.AllK
import Wide.FinOn
import Lean
import PyProof.EqAt
import PyProof.EqKinds
import PyProof.TupleCall
import PyProof.NeData
import KE.KTryMore
import PyProof.ExcBaseAll.ValueError
import PyProof.ExcArgsOwn
import KE.KIntText
import PyProof.Rows.SetFrom
import PyProof.SetRoads
import PyProof.StrWalks
import PyProof.ListStr
import PyProof.Rows.StrSplitCount
import PyProof.MeetsStr
import PyProof.MeetsStr2
import PyProof.StrOps2
import KE.KTryOn
import OpenK.KMake
import PyProof.ReprRoads
import PyProof.ReprLen
import PyProof.StrLawsRepr
import PyProof.CallFns
import PySem.Challenge.RW_countgen_k56_same_and_judges
set_option compiler.extract_closed false
set_option Elab.async false
set_option linter.all false
set_option maxRecDepth 100000
namespace L2
open PySem PySem.Spec PyProof.Rows
abbrev Key:=Sum Int Str
def Vt:Key→Value→Bool
 | .inl k,v=>Value.isInt k v
 | .inr x,v=>Value.isStrOf x v
def keyH (w:World):Key→Int
 | .inl k=>hashInt k
 | .inr x=>hashStr w x
theorem Y7:∀ {k:Key} {v:Value},Vt k v=true→(∃ i t,k=Sum.inl i∧v=Value.int i t)∨(∃ x t,k=Sum.inr x∧v=Value.str x t)
 | .inl i,v,h=>by
  obtain ⟨t,e⟩:=Value.isInt_shape (k:=i) (v:=v) h
  exact .inl ⟨i,t,rfl,e⟩
 | .inr x,v,h=>by
  obtain ⟨t,e⟩:=Value.isStrOf_shape (x:=x) (v:=v) h
  exact .inr ⟨x,t,rfl,e⟩
theorem Yb0 (i:Int) (t:Tok):Vt (.inl i) (.int i t)=true:=by simp [Vt,Value.isInt]
theorem Yb1 (x:Str) (t:Tok):Vt (.inr x) (.str x t)=true:=by simp [Vt,Value.isStrOf]
theorem Yew (a b:Int):decide ((Sum.inl a:Key)=Sum.inl b)=(a==b):=by
 by_cases e:a=b
 ·subst e;simp
 ·have h:¬ (Sum.inl a:Key)=Sum.inl b:=fun q=>e (Sum.inl.inj q)
  rw [decide_eq_false h]
  exact (beq_eq_false_iff_ne.mpr e).symm
theorem Yex (a b:Str):decide ((Sum.inr a:Key)=Sum.inr b)=decide (a=b):=by
 by_cases e:a=b
 ·subst e;simp
 ·have h:¬ (Sum.inr a:Key)=Sum.inr b:=fun q=>e (Sum.inr.inj q)
  rw [decide_eq_false h,decide_eq_false e]
theorem Yey (a:Int) (b:Str):decide ((Sum.inl a:Key)=Sum.inr b)=false:=decide_eq_false (fun q=>nomatch q)
theorem Yez (a:Str) (b:Int):decide ((Sum.inr a:Key)=Sum.inl b)=false:=decide_eq_false (fun q=>nomatch q)
def XI (prog:Program) (w:World):PySem.KeyKind prog w Key where
 is:=Vt
 hash:=keyH w
 inj:=fun v a b ha hb=>by
  rcases Y7 ha with ⟨i,t,rfl,rfl⟩ | ⟨x,t,rfl,rfl⟩
  ·rcases Y7 hb with ⟨j,u,rfl,e⟩ | ⟨y,u,rfl,e⟩
   ·injection e with e1 _;rw [e1]
   ·exact nomatch e
  ·rcases Y7 hb with ⟨j,u,rfl,e⟩ | ⟨y,u,rfl,e⟩
   ·exact nomatch e
   ·injection e with e1 _;rw [e1]
 byValue:=fun k v h=>by
  rcases Y7 h with ⟨i,t,rfl,rfl⟩ | ⟨x,t,rfl,rfl⟩<;>rfl
 pyHash:=fun hv h=>by
  rcases Y7 hv with ⟨i,t,rfl,rfl⟩ | ⟨x,t,rfl,rfl⟩
  ·exact wpAny_pyHash_int h
  ·exact wpAny_pyHash_str h
 eqBool:=fun hu hv h=>by
  rcases Y7 hu with ⟨i,t,rfl,rfl⟩ | ⟨x,t,rfl,rfl⟩
  ·rcases Y7 hv with ⟨j,u,rfl,rfl⟩ | ⟨y,u,rfl,rfl⟩
   ·rw [Yew] at h;exact wpAny_eqBool_int h
   ·rw [Yey] at h;exact SeqAt.EqAt.int_str i t y u _ _ _ _ h
  ·rcases Y7 hv with ⟨j,u,rfl,rfl⟩ | ⟨y,u,rfl,rfl⟩
   ·rw [Yez] at h;exact SeqAt.EqAt.str_int x t j u _ _ _ _ h
   ·rw [Yex] at h;exact wpAny_eqBool_str h
 «strs»:=fun k x t v h=>by
  rcases Y7 h with ⟨i,u,rfl,e⟩ | ⟨y,u,rfl,e⟩
  ·exact nomatch e
  ·injection e with e1 _
   subst e1
   cases v<;>rfl
theorem Yaw (prog:Program) (w:World) (i:Int) (t:Tok):(XI prog w).is (.inl i) (.int i t)=true:=Yb0 i t
theorem Yax (prog:Program) (w:World) (x:Str) (t:Tok):(XI prog w).is (.inr x) (.str x t)=true:=Yb1 x t
end L2
namespace L2
open PySem PySem.Spec PyProof.Rows
inductive V where
 | non | bl (b:Bool) | int (i:Int) | str (x:Str) | byt (b:Array UInt8) | flt (b:UInt64) | ref (a:Addr) | ty (n:String)
 deriving DecidableEq
def Yv:V→Value→Prop
 | .non,u=>u=Value.none
 | .bl b,u=>u=Value.bool b
 | .int i,u=>∃ t,u=Value.int i t
 | .str x,u=>∃ t,u=Value.str x t
 | .byt b,u=>∃ t,u=Value.bytes b t
 | .flt b,u=>∃ t,u=Value.float b t
 | .ref a,u=>u=Value.ref a
 | .ty n,u=>u=Value.type n
abbrev Yl:List V→List Value→Prop:=Paired Yv
theorem Yl.length {xs:List V} {us:List Value} (r:Yl xs us):xs.length=us.length:=Paired.length r
theorem Yl.get:∀ {xs:List V} {us:List Value} {i:Nat} {x:V},Yl xs us→xs[i]?=some x→∃ u,us[i]?=some u∧Yv x u
 | _,_,_,_,.nil,e=>by simp at e
 | _,_,0,_,.cons r _,e=>by simp at e;subst e;exact ⟨_,rfl,r⟩
 | _,_,i+1,x,.cons _ t,e=>by
  obtain ⟨u,h1,h2⟩:=Yl.get (i:=i) (x:=x) t (by simpa using e)
  exact ⟨u,by simpa using h1,h2⟩
theorem Yl.set {x:V} {u:Value} (r:Yv x u):∀ {xs:List V} {us:List Value} (i:Nat),Yl xs us→Yl (xs.set i x) (us.set i u)
 | _,_,_,.nil => .nil
 | _,_,0,.cons _ t => .cons r t
 | _,_,i+1,.cons q t => .cons q (Yl.set r i t)
theorem Yl.append:∀ {xs ys:List V} {us ws:List Value},Yl xs us→Yl ys ws→Yl (xs++ys) (us++ws)
 | _,_,_,_,.nil,s=>s
 | _,_,_,_,.cons r t,s => .cons r (Yl.append t s)
theorem Yl.take:∀ {xs:List V} {us:List Value} (n:Nat),Yl xs us→Yl (xs.take n) (us.take n)
 | _,_,0,_ => .nil
 | _,_,_+1,.nil => .nil
 | _,_,n+1,.cons r t => .cons r (Yl.take n t)
theorem Yl.drop:∀ {xs:List V} {us:List Value} (n:Nat),Yl xs us→Yl (xs.drop n) (us.drop n)
 | _,_,0,r=>r
 | _,_,_+1,.nil => .nil
 | _,_,n+1,.cons _ t=>Yl.drop n t
def Uu:Option V→Option Value→Prop
 | some v,some u=>Yv v u
 | none,none=>True
 | _,_=>False
def KV {κ:Type}:List (κ×V)→List (κ×Value)→Prop:=Paired fun (p:κ×V) (q:κ×Value)=>p.1=q.1∧Yv p.2 q.2
def kV:Key→V
 | .inl i => .int i
 | .inr x => .str x
inductive HO where
 /-- a list -/
 | lst (xs:List V)
 /-- a tuple (never changes) -/
 | tup (xs:List V)
 /-- a dict whose keys are ints and texts;one whose keys are tuples of ints and texts (the empty one is both) -/
 | dK (kvs:List (Key×V)) | dT (kvs:List (List Key×V))
 /-- a set of ints: its members,its size -/
 | set (S:Int→Bool) (n:Nat)
 /-- an instance of the class at C,its dict at dx,its attributes -/
 | ins (C dx:Addr) (fs:List (Str×V))
 /-- the dict of the instance at x -/
 | own (x:Addr)
 /-- the dict of an exception -/
 | xd (fs:List (Str×V))
 /-- a bound method,f of x -/
 | met (f x:Addr)
 /-- a range object lo,lo+1,.. below hi -/
 | rng (lo hi:Int)
 /-- a thing that is known to the object (the script;a dict while a loop walks it): read,never written while it is so -/
 | frz (o:Obj) (u:HO)
 /-- a code object's table -/
 | tbl (ps:Array Value)
 /-- any other thing,by what is true of its one object (a def of one's own: SetO a S n:=HO.ext fun h => ..) -/
 | ext (φ:Heap→Prop)
abbrev Hp:=Addr→Option HO
def upd (H:Hp) (a:Addr) (o:HO):Hp:=fun b=>if b=a then some o else H b
theorem Yc {H:Hp} {a:Addr} {o:HO}:upd H a o a=some o:=by unfold upd;rw [if_pos rfl]
theorem Yh {H:Hp} {a b:Addr} {o:HO} (h:b≠a):upd H a o b=H b:=by unfold upd;rw [if_neg h]
theorem Wj {H:Hp} {a b:Addr} {o u:HO} (h:H a=some o) (h':H b=some u) (d:o≠u):a≠b:=by
 intro e;subst e;rw [h] at h';exact d (Option.some.inj h')
theorem Yu {H:Hp} {a b:Addr} {o:HO} (h:H a=some o) (h':H b=none):a≠b:=by
 intro e;subst e;rw [h] at h';cases h'
section
variable (P:Program) (w:World)
def YK (H:Hp) (h:Heap) (a:Addr):HO→Prop
 | .lst xs=>xs.length≤sizeLine∧∃ (its:List Value) (n:Nat),Yl xs its∧h.get? a=some { cls := .type "list",data := .seq its.toArray n }
 | .tup xs=>xs.length≤sizeLine∧∃ its:List Value,Yl xs its∧IsTup h a its.toArray
 | .dK kvs=>kvs.length≤sizeLine∧(a==sysModules)=false∧∃ vs,KV kvs vs∧h.DictOf (XI P w) a vs
 | .dT kvs=>kvs.length≤sizeLine∧(a==sysModules)=false∧∃ xs:List (List Key×Addr×Value),
   Paired (fun (p:List Key×V) (q:List Key×Addr×Value)=>p.1=q.1∧H q.2.1=some (.tup (p.1.map kV))∧Yv p.2 q.2.2) kvs xs ∧
   ∃ o es ep,h.get? a=some o∧o.ExactDict∧o.data = .dict es ep∧es.toList=xs.map (entryOfKey (tupleKind (XI P w)))∧(xs.map (·.1)).Nodup
 | .set S n=>h.SetOf (intKind P w) a S n
 | .ins C dx fs=>H dx=some (.own a)∧fs.length≤1000∧dx≠a∧h.get? a=some (PySem.W.instObj C dx) ∧
   ∃ mA,h.Ns1 dx mA∧(∀ f,Uu (fs.lookup f) (mA f))∧PySem.Within mA (fs.map (·.1))
 | .own _=>∃ o,h.get? a=some o
 | .xd fs=>∃ mA,h.Ns1 a mA∧∀ f,Uu (fs.lookup f) (mA f)
 | .rng lo hi=>∃ t u v,h.get? a=some { cls := .type "range",data := .fields #[.int lo t,.int hi u,.int 1 v] }
 | .frz o u=>h.get? a=some o∧YK H h a u
 | .tbl ps=>h.get? a=some { cls := .none,data := .fields ps }
 | .met f x=>h.get? a=some (PySem.W.methodObj (.ref f) (.ref x))
 | .ext φ=>φ h∧(∃ o,h.get? a=some o)∧∀ h1 h2:Heap,φ h1→(∀ o,h1.get? a=some o→h2.get? a=some o)→φ h2
def HOk (H:Hp) (h:Heap):Prop:=∀ a o,H a=some o→YK P w H h a o
end
section
variable {P:Program} {w:World} {H H':Hp} {h h':Heap} {a:Addr} {o:HO}
theorem YK.lt (x:YK P w H h a o):a<h.objs.size:=by
 cases o with
 | lst xs=>obtain ⟨_,_,_,_,e⟩:=x;exact Heap.lt_size e
 | tup xs=>obtain ⟨_,_,_,p⟩:=x;exact p.lt
 | dK kvs=>obtain ⟨_,_,_,_,o,_,_,e,_⟩:=x;exact Heap.lt_size e
 | dT kvs=>obtain ⟨_,_,_,_,o,_,_,e,_⟩:=x;exact Heap.lt_size e
 | set S n=>obtain ⟨o,_,_,_,e,_⟩:=x;exact Heap.lt_size e
 | ins C dx fs=>obtain ⟨_,_,_,e,_⟩:=x;exact Heap.lt_size e
 | own y=>obtain ⟨_,e⟩:=x;exact Heap.lt_size e
 | xd fs=>obtain ⟨_,⟨_,_,_,e,_⟩,_⟩:=x;exact Heap.lt_size e
 | rng lo hi=>obtain ⟨_,_,_,e⟩:=x;exact Heap.lt_size e
 | frz ob u=>obtain ⟨e,_⟩:=x;exact Heap.lt_size e
 | tbl ps=>exact Heap.lt_size (show h.get? a=some _ from x)
 | met f y=>exact Heap.lt_size (show h.get? a=some _ from x)
 | ext φ=>obtain ⟨_,⟨_,e⟩,_⟩:=x;exact Heap.lt_size e
theorem Paired.mapP {α β:Type} {F G:α→β→Prop}:∀ {l₁:List α} {l₂:List β},Paired F l₁ l₂→(∀ a b,F a b→G a b)→Paired G l₁ l₂
 | _,_,.nil,_ => .nil
 | _,_,.cons r t,f => .cons (f _ _ r) (Paired.mapP t f)
theorem YK.stay (x:YK P w H h a o) (k:∀ b u,(b=a∨H b=some (.own a))→h.get? b=some u→h'.get? b=some u)
  (ho:∀ b,H b=some (.own a)→H' b=some (.own a)) (ht:∀ b xs,H b=some (.tup xs)→H' b=some (.tup xs)):YK P w H' h' a o:=by
 induction o with
 | lst xs=>obtain ⟨z,its,n,r,e⟩:=x;exact ⟨z,its,n,r,k _ _ (.inl rfl) e⟩
 | tup xs=>obtain ⟨z,its,r,ob,e,c⟩:=x;exact ⟨z,its,r,ob,k _ _ (.inl rfl) e,c⟩
 | dK kvs=>obtain ⟨z,y,vs,r,ob,es,ep,e,c⟩:=x;exact ⟨z,y,vs,r,ob,es,ep,k _ _ (.inl rfl) e,c⟩
 | dT kvs =>
  obtain ⟨z,y,xs,r,ob,es,ep,e,c⟩:=x
  exact ⟨z,y,xs,Paired.mapP r fun p q z=>⟨z.1,ht _ _ z.2.1,z.2.2⟩,ob,es,ep,k _ _ (.inl rfl) e,c⟩
 | set S n=>obtain ⟨ob,es,ep,t,e,c⟩:=x;exact ⟨ob,es,ep,t,k _ _ (.inl rfl) e,c⟩
 | ins C dx fs =>
  obtain ⟨d,z,ne,e,mA,⟨od,es,ep,e2,c⟩,r⟩:=x
  exact ⟨ho _ d,z,ne,k _ _ (.inl rfl) e,mA,⟨od,es,ep,k _ _ (.inr d) e2,c⟩,r⟩
 | own y=>obtain ⟨ob,e⟩:=x;exact ⟨ob,k _ _ (.inl rfl) e⟩
 | xd fs=>obtain ⟨mA,⟨od,es,ep,e,c⟩,r⟩:=x;exact ⟨mA,⟨od,es,ep,k _ _ (.inl rfl) e,c⟩,r⟩
 | rng lo hi=>obtain ⟨t,u,v,e⟩:=x;exact ⟨t,u,v,k _ _ (.inl rfl) e⟩
 | frz ob u ih=>obtain ⟨e,q⟩:=x;exact ⟨k _ _ (.inl rfl) e,ih q⟩
 | tbl ps =>
  have e:h.get? a=some { cls := .none,data := .fields ps }:=x
  show h'.get? a=some { cls := .none,data := .fields ps }
  exact k a _ (.inl rfl) e
 | met f y =>
  have e:h.get? a=some (PySem.W.methodObj (.ref f) (.ref y)):=x
  show h'.get? a=some (PySem.W.methodObj (.ref f) (.ref y))
  exact k a _ (.inl rfl) e
 | ext φ=>obtain ⟨p,⟨o,e⟩,st⟩:=x;exact ⟨st _ _ p fun o q=>k _ _ (.inl rfl) q,⟨o,k _ _ (.inl rfl) e⟩,st⟩
theorem HOk.lt (x:HOk P w H h) (e:H a=some o):a<h.objs.size:=(x a o e).lt
theorem HOk.fresh (x:HOk P w H h) (e:h.objs.size≤a):H a=none:=by
 cases q:H a with
 | none=>rfl
 | some u=>exact absurd (Nat.lt_of_lt_of_le (x.lt q) e) (Nat.lt_irrefl _)
theorem HOk.kept (x:HOk P w H h) (k:∀ b u,h.get? b=some u→h'.get? b=some u):HOk P w H h':=fun a o e =>
 (x a o e).stay (fun b u _ q=>k b u q) (fun _ q=>q) fun _ _ q=>q
theorem HOk.laid (x:HOk P w H h) (k:∀ b u,h.get? b=some u→h'.get? b=some u) (hp:h.objs.size≤a) (new:YK P w (upd H a o) h' a o):HOk P w (upd H a o) h':=fun b u e=>by
 have hn:=x.fresh hp
 by_cases hb:b=a
 ·subst hb;rw [Yc] at e;cases e;exact new
 ·rw [Yh hb] at e
  exact (x b u e).stay (fun c v _ q=>k c v q) (fun c q=>by rw [Yh (Yu q hn)];exact q) fun c xs q=>by rw [Yh (Yu q hn)];exact q
end
def Rd (H:Hp) (a:Addr) (u:HO):Prop:=H a=some u∨∃ o,H a=some (.frz o u)
theorem Rd.of {H:Hp} {a:Addr} {u:HO} (h:H a=some u):Rd H a u := .inl h
theorem Rd.ok {P:Program} {w:World} {H:Hp} {h:Heap} {a:Addr} {u:HO} (r:Rd H a u) (x:HOk P w H h):YK P w H h a u:=by
 rcases r with r | ⟨o,r⟩
 ·exact x a u r
 ·obtain ⟨_,q⟩:=x a _ r
  exact q
def Mut:Option HO→Prop
 | some (.lst _)=>True
 | some (.dK _)=>True
 | some (.dT _)=>True
 | some (.set _ _)=>True
 | some (.ins _ _ _)=>True
 | some (.ext _)=>True
 | _=>False
section
variable {P:Program} {w:World} {H:Hp} {h h':Heap} {x e:Addr} {o':HO}
theorem HOk.write (ok:HOk P w H h) (mu:Mut (H x)) (he:e=x∨H e=some (.own x)) (k:∀ b u,b≠e→h.get? b=some u→h'.get? b=some u) (heo:∃ u,h'.get? e=some u)
  (new:YK P w (upd H x o') h' x o'):HOk P w (upd H x o') h':=fun b u q=>by
 have nown:∀ c y,H c=some (.own y)→c≠x:=fun c y r z=>by subst z;rw [r] at mu;exact mu
 have ntup:∀ c xs,H c=some (.tup xs)→c≠x:=fun c xs r z=>by subst z;rw [r] at mu;exact mu
 by_cases hb:b=x
 ·subst hb;rw [Yc] at q;cases q;exact new
 ·rw [Yh hb] at q
  by_cases hbe:b=e
  ·have q':H b=some (.own x):=by
    rcases he with z | z
    ·exact absurd (hbe.trans z) hb
    ·rw [hbe];exact z
   rw [q] at q';cases q'
   obtain ⟨v,hv⟩:=heo
   exact ⟨v,by rw [hbe];exact hv⟩
  ·refine (ok b u q).stay (fun c v hc r=>k c v ?_ r) (fun c r=>by rw [Yh (nown c b r)];exact r) fun c xs r=>by rw [Yh (ntup c xs r)];exact r
   rcases hc with rfl | hc
   ·exact hbe
   ·rintro rfl
    rcases he with z | z
    ·exact nown c b hc z
    ·rw [hc] at z;cases z;exact hb rfl
end
structure Un (fs ex:List Addr) (H H':Hp) (h h':Heap):Prop where
 keep:∀ b o,h.get? b=some o→H b=none→b∉fs→b∉ex→h'.get? b=some o
 slot:∀ b o,h.get? b=some o→H b=none→b∈fs→b∉ex→∃ sl,h'.get? b=some { o with slots:=sl }
 free:∀ b o,h.get? b=some o→H b=none→b∉ex→H' b=none
 there:∀ b o,h.get? b=some o→b∉ex→∃ o',h'.get? b=some o'
 tups:∀ b xs,H b=some (.tup xs)→H' b=some (.tup xs)
 frzs:∀ b o u,H b=some (.frz o u)→H' b=some (.frz o u)
 tbls:∀ b ps,H b=some (.tbl ps)→∃ more,H' b=some (.tbl (ps++more))
section
variable {fs fs' ex ex':List Addr} {H H1 H2:Hp} {h h1 h2 h':Heap} {a x e:Addr} {o:HO}
theorem Un.any (u:Un fs ex H H1 h h1) {b:Addr} {ob:Obj} (q:h.get? b=some ob) (n:H b=none) (hx:b∉ex):∃ sl,h1.get? b=some { ob with slots:=sl }:=by
 by_cases hb:b∈fs
 ·exact u.slot b ob q n hb hx
 ·exact ⟨ob.slots,u.keep b ob q n hb hx⟩
theorem Un.trans (a:Un fs ex H H1 h h1) (b:Un fs ex H1 H2 h1 h2):Un fs ex H H2 h h2 where
 keep:=fun c ob q n hc hx=>b.keep c ob (a.keep c ob q n hc hx) (a.free c ob q n hx) hc hx
 slot:=fun c ob q n hc hx=>by
  obtain ⟨sl,e1⟩:=a.slot c ob q n hc hx
  obtain ⟨sl',e2⟩:=b.slot c _ e1 (a.free c ob q n hx) hc hx
  exact ⟨sl',e2⟩
 free:=fun c ob q n hx=>by
  obtain ⟨o',e1⟩:=a.there c ob q hx
  exact b.free c o' e1 (a.free c ob q n hx) hx
 there:=fun c ob q hx=>by
  obtain ⟨o',e1⟩:=a.there c ob q hx
  exact b.there c o' e1 hx
 tups:=fun c xs q=>b.tups c xs (a.tups c xs q)
 frzs:=fun c ob xs q=>b.frzs c ob xs (a.frzs c ob xs q)
 tbls:=fun c ps q=>by
  obtain ⟨m1,e1⟩:=a.tbls c ps q
  obtain ⟨m2,e2⟩:=b.tbls c _ e1
  exact ⟨m1++m2,by rw [e2,Array.append_assoc]⟩
theorem Un.kept (k:∀ b u,h.get? b=some u→h'.get? b=some u):Un fs ex H H h h' :=
 ⟨fun b ob q _ _ _=>k b ob q,fun b ob q _ _ _=>⟨ob.slots,k b ob q⟩,fun _ _ _ n _=>n,fun b ob q _=>⟨ob,k b ob q⟩,fun _ _ q=>q,fun _ _ _ q=>q,fun _ ps q=>⟨#[],by rw [q];simp⟩⟩
theorem Un.refl:Un fs ex H H h h:=Un.kept fun _ _ q=>q
theorem Un.laid (k:∀ b u,h.get? b=some u→h'.get? b=some u) (hp:h.objs.size≤a) (hn:H a=none):Un fs ex H (upd H a o) h h' where
 keep:=fun b u q _ _ _=>k b u q
 slot:=fun b u q _ _ _=>⟨u.slots,k b u q⟩
 free:=fun b u q n _=>by rw [Yh (Nat.ne_of_lt (Nat.lt_of_lt_of_le (Heap.lt_size q) hp))];exact n
 there:=fun b u q _=>⟨u,k b u q⟩
 tups:=fun b xs q=>by rw [Yh (Yu q hn)];exact q
 frzs:=fun b u xs q=>by rw [Yh (Yu q hn)];exact q
 tbls:=fun b ps q=>⟨#[],by rw [Yh (Yu q hn),q];simp⟩
theorem Un.write (mu:Mut (H x)) (he:e=x∨H e=some (.own x)) (k:∀ b u,b≠e→h.get? b=some u→h'.get? b=some u) (heo:∃ u,h'.get? e=some u):Un fs ex H (upd H x o) h h':=by
 have hx:∀ b,H b=none→b≠x:=fun b n z=>by subst z;rw [n] at mu;exact mu
 have hb:∀ b,H b=none→b≠e:=fun b n z=>by
  subst z
  rcases he with r | r
  ·exact hx b n r
  ·rw [n] at r;cases r
 have hm:∀ b u,H b=some u→¬ Mut (some u)→b≠x:=fun b u q nm z=>by subst z;rw [q] at mu;exact nm mu
 refine ⟨fun b u q n _ _=>k b u (hb b n) q,fun b u q n _ _=>⟨u.slots,k b u (hb b n) q⟩,fun b u q n _=>by rw [Yh (hx b n)];exact n,fun b u q _=>?_,
  fun b xs q=>by rw [Yh (hm b _ q fun z=>z)];exact q,fun b u xs q=>by rw [Yh (hm b _ q fun z=>z)];exact q,fun b ps q=>⟨#[],by rw [Yh (hm b _ q fun z=>z),q];simp⟩⟩
 by_cases hbe:b=e
 ·subst hbe;exact heo
 ·exact ⟨u,k b u hbe q⟩
end
def trk (h:Heap) (H:Hp):List Addr:=(List.range h.objs.size).filter fun a=>(H a).isSome
def WA (h:Heap) (H:Hp):Heap:=PySem.W.hideAll h (trk h H)
theorem Yb2 (h:Heap) (H:Hp):(WA h H).objs.size=h.objs.size:=PySem.W.hideAll_size _ _
theorem YcS {h:Heap} {H:Hp} {b:Addr} {o:Obj} (e:h.get? b=some o) (n:H b=none):(WA h H).get? b=some o :=
 PySem.W.hideAll_get _ e fun hm=>by
  have q:(H b).isSome=true:=(List.mem_filter.mp hm).2
  rw [n] at q;simp at q
theorem YdU {h:Heap} {H:Hp} {b:Addr} {o:Obj} (e:(WA h H).get? b=some o):h.get? b=some o∧H b=none:=by
 have e':h.get? b=some o:=PySem.W.of_hideAll (trk h H) e
 refine ⟨e',?_⟩
 cases q:H b with
 | none=>rfl
 | some x =>
  have hm:b∈trk h H:=List.mem_filter.mpr ⟨List.mem_range.mpr (Heap.lt_size e'),by simp [q]⟩
  have z:(WA h H).get? b=none:=PySem.W.hideAll_none (trk h H) hm
  rw [z] at e;cases e
def YdV (g h:Heap) (L:Addr):List (Addr×Obj):=(List.range h.objs.size).filterMap fun a=>if a=L∨(g.get? a).isSome=true then none else (h.get? a).map fun o=>(a,o)
def YY (g h:Heap) (L d:Addr):List (Addr×Obj):=(YdV g h L).filter fun p=>decide (p.1≠d)
end L2
namespace L2
open PySem PySem.Spec PyProof.Rows
structure Mod (K:PySem.W.Frag) (mg:Str→Option Value) (base:Heap):Prop where
 kin:K.In base
 glob:base.Ns mainGlobals mg
 blt:∃ mb,base.Ns builtinsNs mb∧∀ x:Str,x≠"__name__"→mb x=bootBuiltins x
 nolimit:base.NoLimit
structure Cx where
 prog:Program
 w:World
 K:PySem.W.Frag
 mg:Str→Option Value
 base:Heap
 A:Around
 N:List Str
 s₀:Shared
 H₀:Hp
 env:Env
 outer:List Env
 stack:List Env
 ex:List Addr
 fn:Str→Bool
 calm:Bool
 pn:List (Addr×Obj)
 xe:Value→Shared→Prop
def frs (l:List Env):List Addr:=l.filterMap (·.frame)
abbrev Cx.fs (X:Cx):List Addr:=frs X.outer
def Vis (sc:Scope) (x:Str):Prop:=sc.names.lookup x=some .local∨sc.names.lookup x=some .cell∨sc.names.lookup x=some .free
def Loc (sc:Scope) (x:Str):Prop:=sc.names.lookup x=some .local∨sc.names.lookup x=some .cell
def Look (env:Env) (h:Heap) (m:Str→Option Value) (x:Str) (u:Value):Prop :=
 (env.kindOf x=some .local∧m x=some u)∨((env.kindOf x=some .cell∨env.kindOf x=some .free)∧∃ c,env.cells.lookup x=some c∧h.IsCell c (some u))
structure Cx.Ok (X:Cx):Prop where
 mod:Mod X.K X.mg X.base
 kind:X.env.scope.kind = .function
 glob:X.env.globals=mainGlobals
 blt:X.env.builtins=builtinsNs
 above:X.s₀.heap.objs.size≤X.env.locals
 inj:∀ x y c,X.env.cells.lookup x=some c→X.env.cells.lookup y=some c→x=y
 has:∀ x,(X.env.kindOf x=some .cell∨X.env.kindOf x=some .free)→∃ c,X.env.cells.lookup x=some c
 cab:∀ x c,X.fn x=true→X.env.cells.lookup x=some c→X.s₀.heap.objs.size≤c
 hd:X.calm=true→X.A.handled=none
 frames:X.A.frames=some X.stack
 stk:X.stack=X.outer∨(X.stack=X.env::X.outer∧X.env.frame=some X.env.locals)
 exf:∀ b∈X.ex,b≠X.env.locals∧∀ x c,X.env.cells.lookup x=some c→c≠b
 bs:∀ b o,X.base.get? b=some o→X.s₀.heap.get? b=some o∧X.H₀ b=none
 bsz:X.base.objs.size≤X.s₀.heap.objs.size
 noex:∀ b o,X.base.get? b=some o→b∉X.ex
 exfs:∀ b∈X.ex,b∉X.fs
 funs:X.s₀.heap.FunFrames X.base X.outer
 frf:∀ b∈X.fs,X.H₀ b=none
structure Inv (X:Cx) (pins:List (Addr×Obj)) (σ:List (Option V)) (H:Hp) (s:Shared):Prop where
 ok:X.Ok
 os:s.os=X.s₀.os
 bare:AllBare s.gens
 base:Un X.fs X.ex X.H₀ H X.s₀.heap s.heap
 loc:∃ m,s.heap.Ns X.env.locals m∧∀ (i:Nat) (x:Str) (v:V),X.N[i]?=some x→σ[i]?=some (some v)→Vis X.env.scope x→∃ u,Yv v u∧Look X.env s.heap m x u
 cell:∀ x c,X.env.cells.lookup x=some c→∃ v,s.heap.IsCell c v
 free:H X.env.locals=none
 freeC:∀ x c,X.env.cells.lookup x=some c→H c=none
 pin:∀ p∈X.pn++pins,s.heap.get? p.1=some p.2∧H p.1=none∧p.1≠X.env.locals∧p.1∉X.fs∧∀ v,p.2.data ≠ .cell v
 hok:HOk X.prog X.w H s.heap
 len:σ.length=X.N.length
section
variable {X:Cx} {pins:List (Addr×Obj)} {σ:List (Option V)} {H H':Hp} {s:Shared} {h':Heap}
theorem Cx.Ok.nofr (ok:X.Ok) {b:Addr} {o:Obj} (e:X.base.get? b=some o):b∉X.fs:=fun hb=>by
 have:=(ok.funs.mem hb).1
 rw [e] at this;cases this
theorem Inv.bs (I:Inv X pins σ H s):∀ b o,X.base.get? b=some o→s.heap.get? b=some o∧H b=none:=fun b o e =>
 ⟨I.base.keep b o (I.ok.bs b o e).1 (I.ok.bs b o e).2 (I.ok.nofr e) (I.ok.noex b o e),I.base.free b o (I.ok.bs b o e).1 (I.ok.bs b o e).2 (I.ok.noex b o e)⟩
theorem Inv.bk (I:Inv X pins σ H s):∀ b o,X.base.get? b=some o→s.heap.get? b=some o:=fun b o e=>(I.bs b o e).1
theorem Inv.mod (I:Inv X pins σ H s):Mod X.K X.mg X.base:=I.ok.mod
theorem Inv.kIn (I:Inv X pins σ H s):X.K.In s.heap:=I.ok.mod.kin.keeps I.bk
theorem Inv.lt (I:Inv X pins σ H s):X.env.locals<s.heap.objs.size:=let ⟨_,hn,_⟩:=I.loc;hn.lt
theorem Inv.sz (I:Inv X pins σ H s):X.s₀.heap.objs.size≤s.heap.objs.size:=Nat.le_trans I.ok.above (Nat.le_of_lt I.lt)
theorem Inv.nofs (I:Inv X pins σ H s) {a:Addr} (h:s.heap.objs.size≤a):a∉X.fs:=fun hb=>by
 obtain ⟨_,o,ho,_⟩:=I.ok.funs.mem hb
 exact absurd (Nat.lt_of_lt_of_le (Heap.lt_size ho) (Nat.le_trans I.sz h)) (Nat.lt_irrefl _)
theorem Inv.cne (I:Inv X pins σ H s):∀ x c,X.env.cells.lookup x=some c→c≠X.env.locals:=fun x c e z=>by
 obtain ⟨v,o,ho,hd⟩:=I.cell x c e
 obtain ⟨m,⟨o',es,ep,ho',hd',_⟩,_⟩:=I.loc
 rw [z,ho'] at ho;cases ho;rw [hd'] at hd;cases hd
theorem Inv.funs (I:Inv X pins σ H s):s.heap.FunFrames X.base X.outer:=by
 have all:∀ (l:List Env),(∀ b∈frs l,b∈X.fs)→X.s₀.heap.FunFrames X.base l→s.heap.FunFrames X.base l:=by
  intro l
  induction l with
  | nil=>intro _ _;trivial
  | cons env r ih =>
   intro hs hl
   obtain ⟨hk,⟨L,o,hf,hn,ho,hd⟩,hr⟩:=hl
   have hL:L∈X.fs:=hs L (by unfold frs;rw [List.filterMap_cons,hf];exact List.mem_cons_self)
   obtain ⟨sl,e⟩:=I.base.slot L o ho (I.ok.frf L hL) hL fun z=>I.ok.exfs L z hL
   exact ⟨hk,⟨L,_,hf,hn,e,hd⟩,ih (fun b hb=>hs b (by unfold frs;rw [List.filterMap_cons,hf];exact List.mem_cons_of_mem _ hb)) hr⟩
 exact all X.outer (fun _ hb=>hb) I.ok.funs
theorem Inv.stack (I:Inv X pins σ H s):s.heap.FunFrames X.base X.stack:=by
 rcases I.ok.stk with e | ⟨e,hf⟩
 ·rw [e];exact I.funs
 ·rw [e]
  obtain ⟨m,hn,_⟩:=I.loc
  refine .cons (by rw [I.ok.kind];decide) hf hn ?_ I.funs
  exact Heap.get?_none_of_le (Nat.le_trans I.ok.bsz I.ok.above)
theorem Inv.stkSub (I:Inv X pins σ H s):∀ b∈frs X.stack,b∈X.env.locals::X.fs:=fun b hb=>by
 rcases I.ok.stk with e | ⟨e,hf⟩
 ·rw [e] at hb;exact List.mem_cons_of_mem _ hb
 ·rw [e] at hb
  unfold frs at hb
  rw [List.filterMap_cons,hf] at hb
  exact hb
theorem Inv.stkFree (I:Inv X pins σ H s):∀ b∈frs X.stack,H b=none:=fun b hb=>by
 rcases List.mem_cons.mp (I.stkSub b hb) with e | hb
 ·rw [e];exact I.free
 ·obtain ⟨_,o,ho,_⟩:=I.ok.funs.mem hb
  exact I.base.free b o ho (I.ok.frf b hb) fun z=>I.ok.exfs b z hb
theorem Inv.step {g':Array GenState} {t':Nat} {d':Drawn} {ch:List Addr} (I:Inv X pins σ H s)
  (hch:∀ b∈ch,(b∈X.ex∨X.s₀.heap.objs.size≤b)∧b≠X.env.locals∧(∀ x c,X.env.cells.lookup x=some c→c≠b)∧∀ p∈X.pn++pins,p.1≠b)
  (keep:∀ b o,b≠X.env.locals→b∉X.fs→b∉ch→s.heap.get? b=some o→H b=none→h'.get? b=some o)
  (slot:∀ b o,b≠X.env.locals→b∈X.fs→b∉ch→s.heap.get? b=some o→H b=none→∃ sl,h'.get? b=some { o with slots:=sl }) (free:∀ b o,b∉ch→s.heap.get? b=some o→H b=none→H' b=none)
  (there:∀ b o,b∉ch→s.heap.get? b=some o→∃ o',h'.get? b=some o')
  (tups:∀ b xs,H b=some (.tup xs)→H' b=some (.tup xs)) (frzs:∀ b o u,H b=some (.frz o u)→H' b=some (.frz o u)) (tbls:∀ b ps,H b=some (.tbl ps)→∃ more,H' b=some (.tbl (ps++more)))
  (ns:∀ m,s.heap.Ns X.env.locals m→h'.Ns X.env.locals m) (hok:HOk X.prog X.w H' h') (hg:AllBare g') :
  Inv X pins σ H' { s with heap:=h',gens:=g',drawn:=d',toks:=t' }:=by
 have neL:∀ b o,X.s₀.heap.get? b=some o→b≠X.env.locals:=fun b o e=>Nat.ne_of_lt (Nat.lt_of_lt_of_le (Heap.lt_size e) I.ok.above)
 have neC:∀ b o,X.s₀.heap.get? b=some o→b∉X.ex→b∉ch:=fun b o e hx hb=>by
  rcases (hch b hb).1 with z | z
  ·exact hx z
  ·exact absurd (Nat.lt_of_lt_of_le (Heap.lt_size e) z) (Nat.lt_irrefl _)
 have cellK:∀ x c,X.env.cells.lookup x=some c→∀ v,s.heap.IsCell c v→h'.IsCell c v:=fun x c e v ⟨o,ho,hd⟩=>by
  have nch:c∉ch:=fun z=>(hch c z).2.2.1 x c e rfl
  by_cases hc:c∈X.fs
  ·obtain ⟨sl,q⟩:=slot c o (I.cne x c e) hc nch ho (I.freeC x c e)
   exact ⟨_,q,hd⟩
  ·exact ⟨o,keep c o (I.cne x c e) hc nch ho (I.freeC x c e),hd⟩
 refine ⟨I.ok,I.os,hg,⟨fun b o e n hb hx=>?_,fun b o e n hb hx=>?_,fun b o e n hx=>?_,fun b o e hx=>?_,fun b xs e=>tups b xs (I.base.tups b xs e),fun b o xs e=>frzs b o xs (I.base.frzs b o xs e),fun b ps e=>?_⟩,?_,fun x c e=>?_,?_,fun x c e=>?_,fun p hp=>?_,hok,I.len⟩
 ·exact keep b o (neL b o e) hb (neC b o e hx) (I.base.keep b o e n hb hx) (I.base.free b o e n hx)
 ·obtain ⟨sl,e1⟩:=I.base.slot b o e n hb hx
  obtain ⟨sl',e2⟩:=slot b _ (neL b o e) hb (neC b o e hx) e1 (I.base.free b o e n hx)
  exact ⟨sl',e2⟩
 ·obtain ⟨o',e1⟩:=I.base.there b o e hx
  exact free b o' (neC b o e hx) e1 (I.base.free b o e n hx)
 ·obtain ⟨o',e1⟩:=I.base.there b o e hx
  exact there b o' (neC b o e hx) e1
 ·obtain ⟨m1,e1⟩:=I.base.tbls b ps e
  obtain ⟨m2,e2⟩:=tbls b _ e1
  exact ⟨m1++m2,by rw [e2,Array.append_assoc]⟩
 ·obtain ⟨m,hn,hl⟩:=I.loc
  refine ⟨m,ns m hn,fun i x v e1 e2 e3=>?_⟩
  obtain ⟨u,r,l⟩:=hl i x v e1 e2 e3
  refine ⟨u,r,?_⟩
  rcases l with l | ⟨k,c,e,z⟩
  ·exact .inl l
  ·exact .inr ⟨k,c,e,cellK x c e _ z⟩
 ·obtain ⟨v,z⟩:=I.cell x c e
  exact ⟨v,cellK x c e v z⟩
 ·obtain ⟨m,⟨o,_,_,ho,_⟩,_⟩:=I.loc
  exact free _ o (fun z=>(hch _ z).2.1 rfl) ho I.free
 ·obtain ⟨v,o,ho,hd⟩:=I.cell x c e
  exact free c o (fun z=>(hch c z).2.2.1 x c e rfl) ho (I.freeC x c e)
 ·obtain ⟨e,n,ne,nf,d⟩:=I.pin p hp
  have nch:p.1∉ch:=fun z=>(hch p.1 z).2.2.2 p hp rfl
  exact ⟨keep p.1 p.2 ne nf nch e n,free p.1 p.2 nch e n,ne,nf,d⟩
theorem Inv.un {t':Nat} (I:Inv X pins σ H s) (u:Un X.fs [] H H' s.heap h') (hok:HOk X.prog X.w H' h'):Inv X pins σ H' { s with heap:=h',toks:=t' }:=by
 obtain ⟨m,⟨o,es,ep,ho,r⟩,_⟩:=id I.loc
 obtain ⟨sl,hL⟩:=u.any ho I.free (by simp)
 exact I.step (g':=s.gens) (d':=s.drawn) (ch:=[]) (fun _ z=>nomatch z) (fun b o _ hb _ e n=>u.keep b o e n hb (by simp)) (fun b o _ hb _ e n=>u.slot b o e n hb (by simp)) (fun b o _ e n=>u.free b o e n (by simp)) (fun b o _ e=>u.there b o e (by simp)) u.tups u.frzs u.tbls (fun m' hm=>by
  obtain ⟨o',es',ep',ho',r'⟩:=hm
  rw [ho] at ho';cases ho'
  exact ⟨_,es',ep',hL,r'⟩) hok I.bare
theorem Inv.call {g':Array GenState} {t':Nat} {d':Drawn} {ch:List Addr} (I:Inv X pins σ H s) (u:Un (frs X.stack) ch H H' s.heap h') (hok:HOk X.prog X.w H' h') (hg:AllBare g')
  (hch:∀ b∈ch,(b∈X.ex∨X.s₀.heap.objs.size≤b)∧b≠X.env.locals∧(∀ x c,X.env.cells.lookup x=some c→c≠b)∧∀ p∈X.pn++pins,p.1≠b) :
  Inv X pins σ H' { s with heap:=h',gens:=g',drawn:=d',toks:=t' }:=by
 obtain ⟨m,⟨o,es,ep,ho,r⟩,_⟩:=id I.loc
 obtain ⟨sl,hL⟩:=u.any ho I.free fun z=>(hch _ z).2.1 rfl
 exact I.step (ch:=ch) hch (fun b o hL hb hc e n=>u.keep b o e n (fun z=>(List.mem_cons.mp (I.stkSub b z)).elim hL hb) hc) (fun b o _ _ hc e n=>u.any e n hc) (fun b o hc e n=>u.free b o e n hc) (fun b o hc e=>u.there b o e hc) u.tups u.frzs u.tbls (fun m' hm=>by
  obtain ⟨o',es',ep',ho',r'⟩:=hm
  rw [ho] at ho';cases ho'
  exact ⟨_,es',ep',hL,r'⟩) hok hg
theorem Inv.turned {t':Nat} {it:Addr} (I:Inv X pins σ H s) (k:∀ b o,b≠it→s.heap.get? b=some o→h'.get? b=some o) (hn:H it=none) (hL:it≠X.env.locals)
  (h1:it∈X.ex∨X.s₀.heap.objs.size≤it) (h2:∀ x c,X.env.cells.lookup x=some c→c≠it) (h3:∀ p∈X.pn++pins,p.1≠it):Inv X pins σ H { s with heap:=h',toks:=t' }:=by
 have nit:∀ b u,H b=some u→b≠it:=fun b u e z=>by rw [z,hn] at e;cases e
 refine I.step (g':=s.gens) (d':=s.drawn) (ch:=[it]) (fun b hb=>?_) (fun b o _ _ hc e _=>k b o (fun z=>hc (by simp [z])) e) (fun b o _ _ hc e _=>⟨o.slots,k b o (fun z=>hc (by simp [z])) e⟩) (fun _ _ _ _ n=>n)
  (fun b o hc e=>⟨o,k b o (fun z=>hc (by simp [z])) e⟩) (fun _ _ e=>e) (fun _ _ _ e=>e) (fun b ps e=>⟨#[],by rw [e];simp⟩) (fun m hm=>?_) (fun b u e=>?_) I.bare
 ·have e:b=it:=by simpa using hb
  subst e
  exact ⟨h1,hL,h2,h3⟩
 ·obtain ⟨o,es,ep,ho,r⟩:=hm
  exact ⟨o,es,ep,k _ o (Ne.symm hL) ho,r⟩
 ·refine (I.hok b u e).stay (fun c v hc q=>k c v ?_ q) (fun _ q=>q) fun _ _ q=>q
  rcases hc with z | z
  ·rw [z];exact nit b u e
  ·exact nit c _ z
theorem Inv.tok (I:Inv X pins σ H s) (t:Nat):Inv X pins σ H { s with toks:=t }:=I.un (h':=s.heap) (t':=t) Un.refl I.hok
theorem Inv.kept {t':Nat} (I:Inv X pins σ H s) (k:∀ b u,s.heap.get? b=some u→h'.get? b=some u):Inv X pins σ H { s with heap:=h',toks:=t' }:=I.un (Un.kept k) (I.hok.kept k)
theorem Inv.laid {a:Addr} {o:HO} {t':Nat} (I:Inv X pins σ H s) (k:∀ b u,s.heap.get? b=some u→h'.get? b=some u) (hp:s.heap.objs.size≤a) (new:YK X.prog X.w (upd H a o) h' a o) :
  Inv X pins σ (upd H a o) { s with heap:=h',toks:=t' }:=I.un (Un.laid k hp (I.hok.fresh hp)) (I.hok.laid k hp new)
theorem Inv.write {x e:Addr} {o:HO} {t':Nat} (I:Inv X pins σ H s) (mu:Mut (H x)) (he:e=x∨H e=some (.own x)) (k:∀ b u,b≠e→s.heap.get? b=some u→h'.get? b=some u) (heo:∃ u,h'.get? e=some u)
  (new:YK X.prog X.w (upd H x o) h' x o):Inv X pins σ (upd H x o) { s with heap:=h',toks:=t' }:=I.un (Un.write mu he k heo) (I.hok.write mu he k heo new)
theorem Inv.pins_of {pins':List (Addr×Obj)} (I:Inv X pins σ H s) (h:∀ p∈pins',s.heap.get? p.1=some p.2∧H p.1=none∧p.1≠X.env.locals∧p.1∉X.fs∧∀ v,p.2.data ≠ .cell v):Inv X pins' σ H s :=
 ⟨I.ok,I.os,I.bare,I.base,I.loc,I.cell,I.free,I.freeC,fun p hp=>(List.mem_append.mp hp).elim (fun z=>I.pin p (List.mem_append_left _ z)) (h p),I.hok,I.len⟩
theorem Qz {N:List Str} (hN:N.Nodup) {i j:Nat} {x:Str} (a:N[i]?=some x) (b:N[j]?=some x):i=j:=by
 obtain ⟨h1,e1⟩:=List.getElem?_eq_some_iff.mp a
 obtain ⟨h2,e2⟩:=List.getElem?_eq_some_iff.mp b
 exact (List.getElem_inj hN).mp (e1.trans e2.symm)
theorem Yb3 {M:Model} {A:Around} {E:Value→Shared→Prop} {i:Nat} {x:Str} {v:V} {u:Value} {Q:Unit→Shared→Prop} (I:Inv X pins σ H s) (hN:X.N.Nodup) (hi:X.N[i]?=some x) (hx:Loc X.env.scope x) (r:Yv v u)
  (h:∀ s',Inv X pins (σ.set i (some v)) H s'→(∃ a,Heap.SameBut a s.heap s'.heap∧(a=X.env.locals∨X.env.cells.lookup x=some a))→Q () s') (hf:X.fn x=true∨X.env.scope.names.lookup x=some .local:=by first | exact .inl rfl | exact .inr rfl | assumption):wpAny M A (storeName X.env x u) Q E s:=by
 obtain ⟨m,hn,hl⟩:=id I.loc
 have hcls:(X.env.scope.kind == .class||(X.env.scope.kind == .module&&X.env.locals != X.env.globals))=false:=by rw [I.ok.kind];rfl
 have hiσ:i<σ.length:=by rw [I.len];exact (List.getElem?_eq_some_iff.mp hi).1
 have cne:=I.cne
 have tracked:∀ {a:Addr} {h':Heap},(∃ o,s.heap.get? a=some o∧H a=none)→Heap.SameBut a s.heap h'→HOk X.prog X.w H h':=fun {a h'} ha hs b ob e=>by
  obtain ⟨_,_,hfree⟩:=ha
  refine (I.hok b ob e).stay (fun c w' hc q=>(hs.2 c ?_).trans q) (fun _ q=>q) fun _ _ q=>q
  rintro rfl
  rcases hc with rfl | hc
  ·rw [hfree] at e;cases e
  ·rw [hfree] at hc;cases hc
 rcases hx with hk | hk
 ·refine wpAny_storeName_local hk hn (fun h' hn' hs=>?_) hcls
  obtain ⟨oL,_,_,hoL,_⟩:=id hn
  refine h _ ⟨I.ok,I.os,I.bare,⟨fun b o e n hb hx=>?_,fun b o e n hb hx=>?_,I.base.free,fun b o e hx=>?_,I.base.tups,I.base.frzs,I.base.tbls⟩,⟨_,hn',fun j y v' e1 e2 e3=>?_⟩,fun y c e=>?_,I.free,I.freeC,fun p hp=>?_,tracked ⟨oL,hoL,I.free⟩ hs,by simpa using I.len⟩ ⟨_,hs,.inl rfl⟩
  ·exact (hs.2 b (Nat.ne_of_lt (Nat.lt_of_lt_of_le (Heap.lt_size e) I.ok.above))).trans (I.base.keep b o e n hb hx)
  ·obtain ⟨sl,e1⟩:=I.base.slot b o e n hb hx
   exact ⟨sl,(hs.2 b (Nat.ne_of_lt (Nat.lt_of_lt_of_le (Heap.lt_size e) I.ok.above))).trans e1⟩
  ·obtain ⟨o',e1⟩:=I.base.there b o e hx
   exact ⟨o',(hs.2 b (Nat.ne_of_lt (Nat.lt_of_lt_of_le (Heap.lt_size e) I.ok.above))).trans e1⟩
  ·by_cases hj:j=i
   ·subst hj
    rw [hi] at e1;cases e1
    rw [List.getElem?_set_self hiσ] at e2
    cases e2
    exact ⟨u,r,.inl ⟨hk,by simp⟩⟩
   ·rw [List.getElem?_set_ne (Ne.symm hj)] at e2
    obtain ⟨u',r',q⟩:=hl j y v' e1 e2 e3
    refine ⟨u',r',?_⟩
    rcases q with ⟨k,e⟩ | ⟨k,c,e,z⟩
    ·refine .inl ⟨k,?_⟩
     have:y≠x:=fun e=>hj (Qz hN e1 (e▸hi))
     simp [this,e]
    ·exact .inr ⟨k,c,e,z.sameBut hs (cne y c e)⟩
  ·obtain ⟨w',z⟩:=I.cell y c e
   exact ⟨w',z.sameBut hs (cne y c e)⟩
  ·obtain ⟨e,n,ne,nf,d⟩:=I.pin p hp
   exact ⟨(hs.2 p.1 ne).trans e,n,ne,nf,d⟩
 ·have hfn:X.fn x=true:=by
   rcases hf with z | z
   ·exact z
   ·rw [z] at hk;cases hk
  obtain ⟨c,hc⟩:=I.ok.has x (.inl hk)
  obtain ⟨w',z⟩:=I.cell x c hc
  refine wpAny_storeName_cell I.ok.kind hk hc z (fun h' hc' hs=>?_)
  obtain ⟨oc,hoc,hocd⟩:=id z
  refine h { s with heap:=h' } ⟨I.ok,I.os,I.bare,⟨fun b o e n hb hx=>?_,fun b o e n hb hx=>?_,I.base.free,fun b o e hx=>?_,I.base.tups,I.base.frzs,I.base.tbls⟩,⟨m,hn.sameBut hs (Ne.symm (cne x c hc)),fun j y v' e1 e2 e3=>?_⟩,fun y c' e=>?_,I.free,I.freeC,fun p hp=>?_,tracked ⟨oc,hoc,I.freeC x c hc⟩ hs,by simpa using I.len⟩ ⟨c,hs,.inr hc⟩
  ·exact (hs.2 b (Nat.ne_of_lt (Nat.lt_of_lt_of_le (Heap.lt_size e) (I.ok.cab x c hfn hc)))).trans (I.base.keep b o e n hb hx)
  ·obtain ⟨sl,e1⟩:=I.base.slot b o e n hb hx
   exact ⟨sl,(hs.2 b (Nat.ne_of_lt (Nat.lt_of_lt_of_le (Heap.lt_size e) (I.ok.cab x c hfn hc)))).trans e1⟩
  ·obtain ⟨o',e1⟩:=I.base.there b o e hx
   exact ⟨o',(hs.2 b (Nat.ne_of_lt (Nat.lt_of_lt_of_le (Heap.lt_size e) (I.ok.cab x c hfn hc)))).trans e1⟩
  ·by_cases hj:j=i
   ·subst hj
    rw [hi] at e1;cases e1
    rw [List.getElem?_set_self hiσ] at e2
    cases e2
    exact ⟨u,r,.inr ⟨.inl hk,c,hc,hc'⟩⟩
   ·rw [List.getElem?_set_ne (Ne.symm hj)] at e2
    obtain ⟨u',r',q⟩:=hl j y v' e1 e2 e3
    refine ⟨u',r',?_⟩
    rcases q with q | ⟨k,c',e,z'⟩
    ·exact .inl q
    ·refine .inr ⟨k,c',e,z'.sameBut hs ?_⟩
     rintro rfl
     exact hj (Qz hN e1 (I.ok.inj _ _ _ e hc▸hi))
  ·by_cases hcc:c'=c
   ·subst hcc;exact ⟨_,hc'⟩
   ·obtain ⟨w2,z2⟩:=I.cell y c' e
    exact ⟨w2,z2.sameBut hs hcc⟩
  ·obtain ⟨e,n,ne,nf,d⟩:=I.pin p hp
   refine ⟨(hs.2 p.1 ?_).trans e,n,ne,nf,d⟩
   intro q
   rw [q,hoc] at e
   have q':oc=p.2:=Option.some.inj e
   exact d w' (by rw [← q'];exact hocd)
theorem QA {M:Model} {A:Around} {E:Value→Shared→Prop} {i:Nat} {x:Str} {v:V} {u:Value} {Q:Unit→Shared→Prop} (I:Inv X pins σ H s) (hN:X.N.Nodup) (hi:X.N[i]?=some x) (hx:Loc X.env.scope x) (r:Yv v u)
  (h:∀ s',Inv X pins (σ.set i (some v)) H s'→Q () s') (hf:X.fn x=true∨X.env.scope.names.lookup x=some .local:=by first | exact .inl rfl | exact .inr rfl | assumption):wpAny M A (storeName X.env x u) Q E s :=
 Yb3 I hN hi hx r (fun s' I' _=>h s' I') hf
theorem Inv.call' {s':Shared} {ch:List Addr} (I:Inv X pins σ H s) (ho:s'.os=s.os) (u:Un (frs X.stack) ch H H' s.heap s'.heap) (hok:HOk X.prog X.w H' s'.heap) (hg:AllBare s'.gens)
  (hch:∀ b∈ch,(b∈X.ex∨X.s₀.heap.objs.size≤b)∧b≠X.env.locals∧(∀ x c,X.env.cells.lookup x=some c→c≠b)∧∀ p∈X.pn++pins,p.1≠b):Inv X pins σ H' s':=by
 obtain ⟨h',g',d',t',o'⟩:=s'
 have e:o'=s.os:=ho
 subst e
 exact I.call (g':=g') (t':=t') (d':=d') u hok hg hch
end
abbrev XK:=Value→Option Addr→Hp→Prop
abbrev St:=List (Option V)
abbrev VK:=V→Hp→Prop
abbrev TE:=St→Hp→VK→Prop
abbrev TT:=St→Hp→(Bool→Hp→Prop)→Prop
abbrev TA:=St→Hp→(List V→Hp→Prop)→Prop
structure Ends where
 nx:St→Hp→Prop
 rt:VK
 bk:St→Hp→Prop:=fun _ _=>False
 ct:St→Hp→Prop:=fun _ _=>False
abbrev TS:=Ends→St→Hp→Prop
def EP (X:Cx) (pins:List (Addr×Obj)) (σ:St) (Q:VK) (u:Value) (s':Shared):Prop:=∃ v H',Inv X pins σ H' s'∧Yv v u∧Q v H'
def TP (X:Cx) (pins:List (Addr×Obj)) (σ:St) (Q:Bool→Hp→Prop) (b:Bool) (s':Shared):Prop:=∃ H',Inv X pins σ H' s'∧Q b H'
def AP (X:Cx) (pins:List (Addr×Obj)) (σ:St) (Q:List V→Hp→Prop) (us:List Value) (s':Shared):Prop:=∃ vs H',Inv X pins σ H' s'∧Yl vs us∧Q vs H'
def SP (X:Cx) (pins:List (Addr×Obj)) (D:Ends) (f:Flow) (s':Shared):Prop :=
 match f with
 | .next=>∃ σ' H',Inv X pins σ' H' s'∧D.nx σ' H'
 | .brk=>∃ σ' H',Inv X pins σ' H' s'∧D.bk σ' H'
 | .cont=>∃ σ' H',Inv X pins σ' H' s'∧D.ct σ' H'
 | .ret u=>∃ v σ' H',Inv X pins σ' H' s'∧Yv v u∧D.rt v H'
def PE (X:Cx) (e:Expr) (t:TE):Prop :=
 ∀ (pins:List (Addr×Obj)) (s:Shared) (σ:St) (H:Hp) (Q:VK),Inv X pins σ H s→t σ H Q→wpAny (model X.prog X.w) X.A (eval e X.env) (EP X pins σ Q) X.xe s
def PT (X:Cx) (e:Expr) (t:TT):Prop :=
 ∀ (pins:List (Addr×Obj)) (s:Shared) (σ:St) (H:Hp) (Q:Bool→Hp→Prop),Inv X pins σ H s→t σ H Q→wpAny (model X.prog X.w) X.A (isTrue e X.env (eval e X.env)) (TP X pins σ Q) X.xe s
def PW (X:Cx) (e:Expr) (t:TT):Prop :=
 ∀ (whole:Sem Value) (pins:List (Addr×Obj)) (s:Shared) (σ:St) (H:Hp) (Q:Bool→Hp→Prop),Inv X pins σ H s→t σ H Q→wpAny (model X.prog X.w) X.A (isTrue e X.env whole) (TP X pins σ Q) X.xe s
theorem PW.pt {X:Cx} {e:Expr} {t:TT} (h:PW X e t):PT X e t:=h _
def PA (X:Cx) (es:List Expr) (t:TA):Prop :=
 ∀ (pos:Pos) (pins:List (Addr×Obj)) (s:Shared) (σ:St) (H:Hp) (Q:List V→Hp→Prop),Inv X pins σ H s→t σ H Q→wpAny (model X.prog X.w) X.A (spliced (backTo pos (starEach es X.env))) (AP X pins σ Q) X.xe s
def PS (X:Cx) (st:Stmt) (t:TS):Prop :=
 ∀ (pins:List (Addr×Obj)) (s:Shared) (σ:St) (H:Hp) (D:Ends),Inv X pins σ H s→t D σ H→wpAny (model X.prog X.w) X.A (exec st X.env) (SP X pins D) X.xe s
def PSs (X:Cx) (st:List Stmt) (t:TS):Prop :=
 ∀ (pins:List (Addr×Obj)) (s:Shared) (σ:St) (H:Hp) (D:Ends),Inv X pins σ H s→t D σ H→wpAny (model X.prog X.w) X.A (execs st X.env) (SP X pins D) X.xe s
theorem thn {α:Type} {t:Sem α} {Q Q':α→Shared→Prop} {M:Model} {A:Around} {E:Value→Shared→Prop} {s:Shared} (h:wpAny M A t Q E s) (hQ:∀ a s,Q a s→Q' a s):wpAny M A t Q' E s:=wpAny_mono h hQ fun _ _ x=>x
end L2
namespace L2
open PySem PySem.Spec PyProof.Rows
section
variable {X:Cx}
def Xs (i:Nat):TE:=fun σ H Q=>∃ v,σ[i]?=some (some v)∧Q v H
def tC (v:V):TE:=fun _ H Q=>Q v H
theorem QB {i:Nat} {x:Str} {pos:Pos} (hN:X.N[i]?=some x) (hv:Vis X.env.scope x) (hd:(x==("__debug__":Str))=false:=by decide) (hcd:(x==("__classdict__":Str))=false:=by decide):PE X (.Name x pos) (Xs i):=by
 intro pins s σ H Q I h
 obtain ⟨v,e,h⟩:=h
 obtain ⟨m,hn,hl⟩:=I.loc
 obtain ⟨u,r,l⟩:=hl i x v hN e hv
 have fin:EP X pins σ Q u s:=⟨v,H,I,r,h⟩
 rcases l with ⟨hk,hm⟩ | ⟨hk,c,hc,hcell⟩
 ·exact wpAny_Name (wpAny_loadName_local I.ok.kind hk hn hm fin) hd
 ·rcases hk with hk | hk
  ·exact wpAny_Name (wpAny_loadName_cell I.ok.kind hk hc hcell fin) hd
  ·exact wpAny_Name (wpAny_loadName_free I.ok.kind hk hc hcell fin hcd) hd
theorem Yg {i j pos}:PE X (.Constant (.int i) j pos) (tC (.int i)):=fun _ _ _ H _ I h=>wpAny_Constant_int ⟨.int i,H,I.tok _,⟨_,rfl⟩,h⟩
theorem Y4 {b j pos}:PE X (.Constant (.bool b) j pos) (tC (.bl b)):=fun _ _ _ H _ I h=>Constant_bool ⟨.bl b,H,I,rfl,h⟩
theorem V0 {j pos}:PE X (.Constant .none j pos) (tC .non):=fun _ _ _ H _ I h=>Constant_none ⟨.non,H,I,rfl,h⟩
theorem Yy {x j pos}:PE X (.Constant (.str x) j pos) (tC (.str x)):=fun _ _ _ H _ I h=>Calls.Constant_str ⟨.str x,H,I.tok _,⟨_,rfl⟩,h⟩
def Gl (X:Cx) (x:Str):Prop:=X.env.kindOf x=some .globalImplicit
theorem Ww {E:Value→Shared→Prop} {pins:List (Addr×Obj)} {s:Shared} {σ:St} {H:Hp} {x:Str} {u:Value} {pos:Pos} {Q:Value→Shared→Prop} (I:Inv X pins σ H s) (hg:Gl X x) (hm:X.mg x=some u) (h:Q u s)
  (hd:(x==("__debug__":Str))=false:=by decide):wpAny (model X.prog X.w) X.A (eval (.Name x pos) X.env) Q E s :=
 Calls.Name_function_global I.ok.kind hg (Calls.loadGlobal_global (by rw [I.ok.glob];exact I.mod.glob.keeps I.bk) hm h) hd
theorem WN {E:Value→Shared→Prop} {pins:List (Addr×Obj)} {s:Shared} {σ:St} {H:Hp} {x:Str} {u:Value} {pos:Pos} {Q:Value→Shared→Prop} (I:Inv X pins σ H s) (hg:Gl X x) (hm:X.mg x=none) (hv:bootBuiltins x=some u) (h:Q u s)
  (hn:x≠"__name__":=by decide) (hd:(x==("__debug__":Str))=false:=by decide):wpAny (model X.prog X.w) X.A (eval (.Name x pos) X.env) Q E s:=by
 obtain ⟨mb,h1,h2⟩:=I.mod.blt
 exact Calls.Name_function_global I.ok.kind hg (Calls.loadGlobal_builtin (by rw [I.ok.glob];exact I.mod.glob.keeps I.bk) hm (by rw [I.ok.blt];exact h1.keeps I.bk) ((h2 x hn).trans hv) h) hd
theorem YaL {x:Str} {v:V} {u:Value} {pos:Pos} (hg:Gl X x) (hm:X.mg x=some u) (r:Yv v u) (hd:(x==("__debug__":Str))=false:=by decide):PE X (.Name x pos) (tC v) :=
 fun _ _ _ H _ I h=>Ww I hg hm ⟨v,H,I,r,h⟩ hd
theorem YdW {x:Str} {v:V} {u:Value} {pos:Pos} (hg:Gl X x) (hm:X.mg x=none) (hv:bootBuiltins x=some u) (r:Yv v u) (hn:x≠"__name__":=by decide) (hd:(x==("__debug__":Str))=false:=by decide):PE X (.Name x pos) (tC v) :=
 fun _ _ _ H _ I h=>WN I hg hm hv ⟨v,H,I,r,h⟩ hn hd
variable {a b:Expr} {ta tb:TE} {pos:Pos}
def tB (t:TE):TT:=fun σ H Q=>t σ H fun x H1=>∃ c,x = .bl c∧Q c H1
theorem YH {e:Expr} {t:TE} (h:PE X e t) (he:∀ whole,isTrue e X.env whole=(do let v ← whole;standAt e.pos;holding [v] (truthy v))):PT X e (tB t):=by
 intro pins s σ H Q I hw
 refine isTrue_plain (thn (h pins s σ H _ I hw) fun v s1 ⟨x,H1,I1,r1,q1⟩=>?_) (he _)
 obtain ⟨d,rfl,q⟩:=q1
 cases r1
 exact wpAny_truthy_bool ⟨H1,I1,q⟩
variable {tA tB':TT} {YY:List Expr}
def tAnd (t u:TT):TT:=fun σ H Q=>t σ H fun c H1=>if c=true then u σ H1 Q else Q false H1
def tOr (t u:TT):TT:=fun σ H Q=>t σ H fun c H1=>if c=true then Q true H1 else u σ H1 Q
def tNot (t:TT):TT:=fun σ H Q=>t σ H fun c H1=>Q (!c) H1
theorem Vu (ha:PT X a tA):PW X (.BoolOp .And [a] pos) tA:=by
 intro wh pins s σ H Q I h
 refine isTrue_and (thn (ha pins s σ H Q I h) fun c s1 e=>?_)
 cases c with
 | true=>exact isTrue_and_nil e
 | false=>exact e
theorem WB (ha:PT X a tA):PW X (.BoolOp .Or [a] pos) tA:=by
 intro wh pins s σ H Q I h
 refine isTrue_or (thn (ha pins s σ H Q I h) fun c s1 e=>?_)
 cases c with
 | false=>exact isTrue_or_nil e
 | true=>exact e
theorem Vh (ha:PT X a tA) (hb:PW X (.BoolOp .And (b::YY) pos) tB'):PW X (.BoolOp .And (a::b::YY) pos) (tAnd tA tB'):=by
 intro wh pins s σ H Q I h
 refine isTrue_and (thn (ha pins s σ H _ I h) fun c s1 ⟨H1,I1,q1⟩=>?_)
 cases c with
 | true=>exact hb wh pins s1 σ H1 Q I1 q1
 | false=>exact ⟨H1,I1,q1⟩
theorem W4 (ha:PT X a tA) (hb:PW X (.BoolOp .Or (b::YY) pos) tB'):PW X (.BoolOp .Or (a::b::YY) pos) (tOr tA tB'):=by
 intro wh pins s σ H Q I h
 refine isTrue_or (thn (ha pins s σ H _ I h) fun c s1 ⟨H1,I1,q1⟩=>?_)
 cases c with
 | true=>exact ⟨H1,I1,q1⟩
 | false=>exact hb wh pins s1 σ H1 Q I1 q1
theorem Xt (ha:PT X a tA):PT X (.UnaryOp .Not a pos) (tNot tA):=by
 intro pins s σ H Q I h
 exact isTrue_not (ha pins s σ H (fun c H1=>Q (!c) H1) I h)
def YdA (ta tb:TE):TE:=fun σ H Q=>ta σ H fun x H1=>∃ c,x = .bl c∧if c=true then tb σ H1 Q else Q (.bl false) H1
def tOrV (ta tb:TE):TE:=fun σ H Q=>ta σ H fun x H1=>∃ c,x = .bl c∧if c=true then Q (.bl true) H1 else tb σ H1 Q
def YdB (ta:TE):TE:=fun σ H Q=>ta σ H fun x H1=>∃ c,x = .bl c∧Q (.bl (!c)) H1
theorem Xc {op} {t:TE} (h:PE X a t):PE X (.BoolOp op [a] pos) t:=fun pins s σ H Q I hw=>BoolOp_one (h pins s σ H Q I hw)
theorem Y8 (ha:PE X a ta) (hb:PE X (.BoolOp .And (b::YY) pos) tb):PE X (.BoolOp .And (a::b::YY) pos) (YdA ta tb):=by
 intro pins s σ H Q I h
 refine BoolOp_and (thn (ha pins s σ H _ I h) fun v s1 ⟨x,H1,I1,r1,q1⟩=>?_)
 obtain ⟨c,rfl,q1⟩:=q1
 cases r1
 refine wpAny_truthy_bool ?_
 cases c with
 | true=>exact hb pins s1 σ H1 Q I1 q1
 | false=>exact ⟨.bl false,H1,I1,rfl,q1⟩
theorem V1 (ha:PE X a ta):PE X (.UnaryOp .Not a pos) (YdB ta):=by
 intro pins s σ H Q I h
 refine UnaryOp_ (thn (ha pins s σ H _ I h) fun v s1 ⟨x,H1,I1,r1,q1⟩=>?_)
 obtain ⟨c,rfl,q1⟩:=q1
 cases r1
 exact not_of (wpAny_truthy_bool ⟨.bl (!c),H1,I1,rfl,q1⟩)
def tIf (t:TT) (ta tb:TE):TE:=fun σ H Q=>t σ H fun c H1=>if c=true then ta σ H1 Q else tb σ H1 Q
theorem QC {c:Expr} (hc:PT X c tA) (ha:PE X a ta) (hb:PE X b tb):PE X (.IfExp c a b pos) (tIf tA ta tb):=by
 intro pins s σ H Q I h
 refine wpAny_IfExp (thn (hc pins s σ H _ I h) fun d s1 ⟨H1,I1,q1⟩=>?_)
 cases d with
 | true=>exact ha pins s1 σ H1 Q I1 q1
 | false=>exact hb pins s1 σ H1 Q I1 q1
end
end L2
namespace L2
open PySem PySem.Spec PyProof.Rows
def SqL (K:PySem.W.Frag) (H:Hp) (a:Addr) (xs:List V):Prop :=
 Rd H a (.lst xs) ∨
  ∃ (o:Obj) (its:Array Value) (n:Nat),K.lookup a=some o∧o.cls = .type "list"∧o.dict=none∧o.data = .seq its n∧its.size≤sizeLine∧Yl xs its.toList
def SqT (K:PySem.W.Frag) (H:Hp) (a:Addr) (xs:List V):Prop :=
 Rd H a (.tup xs) ∨
  ∃ (o:Obj) (its:Array Value) (n:Nat),K.lookup a=some o∧o.cls = .type "tuple"∧o.data = .seq its n∧its.size≤sizeLine∧Yl xs its.toList
def absV:Value→Option V
 | .none=>some .non
 | .bool b=>some (.bl b)
 | .int i _=>some (.int i)
 | .str x _=>some (.str x)
 | .bytes b _=>some (.byt b)
 | .float b _=>some (.flt b)
 | .ref a=>some (.ref a)
 | .type n=>some (.ty n)
 | _=>none
theorem Yv.abs {x:V} {u:Value} (r:Yv x u):absV u=some x:=by
 cases x with
 | non=>cases r;rfl
 | bl _=>cases r;rfl
 | int _=>obtain ⟨t,rfl⟩:=r;rfl
 | str _=>obtain ⟨t,rfl⟩:=r;rfl
 | byt _=>obtain ⟨t,rfl⟩:=r;rfl
 | flt _=>obtain ⟨t,rfl⟩:=r;rfl
 | ref _=>cases r;rfl
 | ty _=>cases r;rfl
theorem Yv.inj {x y:V} {u:Value} (r:Yv x u) (q:Yv y u):x=y:=Option.some.inj (r.abs.symm.trans q.abs)
theorem Yl.inj:∀ {xs ys:List V} {us:List Value},Yl xs us→Yl ys us→xs=ys
 | _,_,_,.nil,.nil=>rfl
 | _,_,_,.cons r t,.cons r' t'=>by rw [r.inj r',Yl.inj t t']
section
variable {X:Cx} {pins:List (Addr×Obj)} {σ:St} {H:Hp} {s:Shared} {a:Addr} {xs ys:List V}
theorem SqL.of {K:PySem.W.Frag} (h:H a=some (.lst xs)):SqL K H a xs := .inl (.inl h)
theorem SqT.of {K:PySem.W.Frag} (h:H a=some (.tup xs)):SqT K H a xs := .inl (.inl h)
theorem Inv.list (I:Inv X pins σ H s) (h:SqL X.K H a xs):∃ its:List Value,Yl xs its∧PlainL s.heap a its.toArray∧xs.length≤sizeLine:=by
 rcases h with h | ⟨o,its,n,hk,hc,hd,hs,hz,r⟩
 ·obtain ⟨z,its,n,r,e⟩:=h.ok I.hok
  exact ⟨its,r,⟨_,n,e,rfl,rfl,rfl⟩,z⟩
 ·refine ⟨its.toList,r,⟨o,n,I.kIn a o hk,hc,hd,by simpa using hs⟩,?_⟩
  have e:=r.length
  simp only [Array.length_toList] at e
  omega
theorem Inv.tuple (I:Inv X pins σ H s) (h:SqT X.K H a xs):∃ its:List Value,Yl xs its∧IsTup s.heap a its.toArray∧xs.length≤sizeLine:=by
 rcases h with h | ⟨o,its,n,hk,hc,hs,hz,r⟩
 ·obtain ⟨z,its,r,p⟩:=h.ok I.hok
  exact ⟨its,r,p,z⟩
 ·refine ⟨its.toList,r,⟨o,I.kIn a o hk,hc,n,by simpa using hs⟩,?_⟩
  have e:=r.length
  simp only [Array.length_toList] at e
  omega
theorem Inv.list_inj (I:Inv X pins σ H s) (h:SqL X.K H a xs) (h':SqL X.K H a ys):xs=ys:=by
 obtain ⟨its,r,⟨o,n,e,_,_,d⟩,_⟩:=I.list h
 obtain ⟨its',r',⟨o',n',e',_,_,d'⟩,_⟩:=I.list h'
 rw [e] at e';cases e'
 rw [d] at d'
 injection d' with d1 _
 have:its=its':=by simpa using congrArg Array.toList d1
 subst this
 exact r.inj r'
theorem Inv.tuple_inj (I:Inv X pins σ H s) (h:SqT X.K H a xs) (h':SqT X.K H a ys):xs=ys:=by
 obtain ⟨its,r,⟨o,e,_,n,d⟩,_⟩:=I.tuple h
 obtain ⟨its',r',⟨o',e',_,n',d'⟩,_⟩:=I.tuple h'
 rw [e] at e';cases e'
 rw [d] at d'
 injection d' with d1 _
 have:its=its':=by simpa using congrArg Array.toList d1
 subst this
 exact r.inj r'
end
abbrev Cx.wish (X:Cx) (E:Value→Shared→Prop):Cx:={ X with xe:=E }
abbrev Cx.nox (X:Cx):Cx:=X.wish fun _ _=>False
theorem Cx.Ok.wish {X:Cx} (ok:X.Ok) (E:Value→Shared→Prop):(X.wish E).Ok :=
 ⟨ok.mod,ok.kind,ok.glob,ok.blt,ok.above,ok.inj,ok.has,ok.cab,ok.hd,ok.frames,ok.stk,ok.exf,ok.bs,ok.bsz,ok.noex,ok.exfs,ok.funs,ok.frf⟩
theorem Cx.Ok.unwish {X:Cx} {E:Value→Shared→Prop} (ok:(X.wish E).Ok):X.Ok :=
 ⟨ok.mod,ok.kind,ok.glob,ok.blt,ok.above,ok.inj,ok.has,ok.cab,ok.hd,ok.frames,ok.stk,ok.exf,ok.bs,ok.bsz,ok.noex,ok.exfs,ok.funs,ok.frf⟩
section
variable {X:Cx} {pins:List (Addr×Obj)} {σ:St} {H:Hp} {s:Shared} {E:Value→Shared→Prop}
theorem Inv.wish (I:Inv X pins σ H s) (E:Value→Shared→Prop):Inv (X.wish E) pins σ H s:=⟨I.ok.wish E,I.os,I.bare,I.base,I.loc,I.cell,I.free,I.freeC,I.pin,I.hok,I.len⟩
theorem Inv.unwish (I:Inv (X.wish E) pins σ H s):Inv X pins σ H s:=⟨I.ok.unwish,I.os,I.bare,I.base,I.loc,I.cell,I.free,I.freeC,I.pin,I.hok,I.len⟩
theorem SP.unwish {D:Ends} {f:Flow} {s':Shared} (h:SP (X.wish E) pins D f s'):SP X pins D f s':=by
 cases f with
 | next=>obtain ⟨σ',H',I,q⟩:=h;exact ⟨σ',H',I.unwish,q⟩
 | brk=>obtain ⟨σ',H',I,q⟩:=h;exact ⟨σ',H',I.unwish,q⟩
 | cont=>obtain ⟨σ',H',I,q⟩:=h;exact ⟨σ',H',I.unwish,q⟩
 | ret u=>obtain ⟨v,σ',H',I,r,q⟩:=h;exact ⟨v,σ',H',I.unwish,r,q⟩
theorem PE.nox {e:Expr} {t:TE} (h:PE X.nox e t):PE X e t:=fun pins s σ H Q I hw =>
 wpAny_mono (h pins s σ H Q (I.wish _) hw) (fun _ _ ⟨v,H',I',r,q⟩=>⟨v,H',I'.unwish,r,q⟩) fun _ _ z=>False.elim z
theorem PT.nox {e:Expr} {t:TT} (h:PT X.nox e t):PT X e t:=fun pins s σ H Q I hw =>
 wpAny_mono (h pins s σ H Q (I.wish _) hw) (fun _ _ ⟨H',I',q⟩=>⟨H',I'.unwish,q⟩) fun _ _ z=>False.elim z
theorem PSs.nox {st:List Stmt} {t:TS} (h:PSs X.nox st t):PSs X st t:=fun pins s σ H D I hw =>
 wpAny_mono (h pins s σ H D (I.wish _) hw) (fun _ _ q=>q.unwish) fun _ _ z=>False.elim z
end
section
variable {X:Cx} {st:Stmt} {YY:List Stmt} {t u:TS} {e:Expr} {te:TE} {pos:Pos}
def YdC:TS:=fun D σ H=>D.nx σ H
def XO (t u:TS):TS:=fun D σ H=>t { D with nx:=u D } σ H
theorem Yk:PSs X [] YdC:=fun _ _ σ H _ I h=>wpAny_execs_nil ⟨σ,H,I,h⟩
theorem Ye (h1:PS X st t) (h2:PSs X YY u):PSs X (st::YY) (XO t u):=by
 intro pins s σ H D I h
 refine wpAny_execs_cons (thn (h1 pins s σ H { D with nx:=u D } I h) fun f s1 q=>?_)
 cases f with
 | next =>
  obtain ⟨σ',H',I',q⟩:=q
  exact h2 pins s1 σ' H' D I' q
 | ret v=>exact q
 | brk=>exact q
 | cont=>exact q
theorem Yf (h1:PS X st t):PSs X [st] t:=by
 intro pins s σ H D I h
 refine wpAny_execs_cons (thn (h1 pins s σ H D I h) fun f s1 q=>?_)
 cases f with
 | next=>exact wpAny_execs_nil q
 | ret v=>exact q
 | brk=>exact q
 | cont=>exact q
def YeA:TS:=fun D σ H=>D.bk σ H
def tCont:TS:=fun D σ H=>D.ct σ H
theorem Inv.quiet {pins:List (Addr×Obj)} {σ:St} {H:Hp} {s:Shared} (I:Inv X pins σ H s):interactive X.env=false:=by simp [interactive,I.ok.kind]
def Ybo (te:TE):TS:=fun D σ H=>te σ H fun _ H1=>D.nx σ H1
theorem YdX (he:PE X e te) (hs:swapsWith e none pos.line X.env=pure false:=by rfl):PS X (.Expr e pos) (Ybo te):=by
 intro pins s σ H D I h
 exact wpAny_Expr_any (thn (he pins s σ H _ I h) fun v s1 ⟨x,H1,I1,r1,q1⟩=>⟨σ,H1,I1,q1⟩) I.quiet hs
def Ybp (te:TE):TS:=fun D σ H=>te σ H D.rt
theorem Yj (he:PE X e te):PS X (.Return (some e) pos) (Ybp te):=by
 intro pins s σ H D I h
 exact wpAny_Return_some (thn (he pins s σ H _ I h) fun v s1 ⟨x,H1,I1,r1,q1⟩=>⟨x,σ,H1,I1,r1,q1⟩)
def tRetN:TS:=fun D _ H=>D.rt .non H
def tIfS (c:TT) (t u:TS):TS:=fun D σ H=>c σ H fun b H1=>if b=true then t D σ H1 else u D σ H1
theorem Yr {c:Expr} {a b:List Stmt} {tc:TT} (hc:PT X c tc) (ha:PSs X a t) (hb:PSs X b u):PS X (.If c a b pos) (tIfS tc t u):=by
 intro pins s σ H D I h
 refine wpAny_If (thn (hc pins s σ H _ I h) fun d s1 ⟨H1,I1,q1⟩=>?_)
 cases d with
 | true=>exact ha pins s1 σ H1 D I1 q1
 | false=>exact hb pins s1 σ H1 D I1 q1
def YeB:TS:=fun _ _ _=>False
end
abbrev TG:=V→St→Hp→(St→Hp→Prop)→Prop
abbrev TGs:=List V→St→Hp→(St→Hp→Prop)→Prop
def PG (X:Cx) (target:Expr) (t:TG):Prop :=
 ∀ (pins:List (Addr×Obj)) (s:Shared) (σ:St) (H:Hp) (v:V) (u:Value) (Q:St→Hp→Prop),Inv X pins σ H s→Yv v u→t v σ H Q →
  wpAny (model X.prog X.w) X.A (assign target X.env u) (fun _ s'=>∃ σ' H',Inv X pins σ' H' s'∧Q σ' H') X.xe s
def PGs (X:Cx) (ts:List Expr) (t:TGs):Prop :=
 ∀ (pins:List (Addr×Obj)) (s:Shared) (σ:St) (H:Hp) (vs:List V) (us:List Value) (Q:St→Hp→Prop),Inv X pins σ H s→Yl vs us→t vs σ H Q →
  wpAny (model X.prog X.w) X.A (assignInOrder ((assignEach ts X.env).map (·.2)) us) (fun _ s'=>∃ σ' H',Inv X pins σ' H' s'∧Q σ' H') X.xe s
abbrev TSet:=V→V→V→Hp→(Hp→Prop)→Prop
def PSet (X:Cx) (t:TSet):Prop :=
 ∀ (pins:List (Addr×Obj)) (s:Shared) (σ:St) (H:Hp) (o i v:V) (ov iv u:Value) (Q:Hp→Prop),Inv X pins σ H s→Yv o ov→Yv i iv→Yv v u→t o i v H Q →
  wpAny (model X.prog X.w) X.A (setItem ov iv u) (fun _ s'=>∃ H',Inv X pins σ H' s'∧Q H') X.xe s
abbrev TIp:=V→V→Hp→VK→Prop
section
variable {X:Cx} {pos:Pos}
def YA (i:Nat):TG:=fun v σ H Q=>Q (σ.set i (some v)) H
theorem Y0 {i:Nat} {x:Str} (hN:X.N.Nodup) (hi:X.N[i]?=some x) (hx:Loc X.env.scope x) (hf:X.fn x=true∨X.env.scope.names.lookup x=some .local:=by first | exact .inl rfl | exact .inr rfl | assumption):PG X (.Name x pos) (YA i):=by
 intro pins s σ H v u Q I r h
 exact wpAny_assign_Name (QA I hN hi hx r (fun s' I'=>⟨_,H,I',h⟩) hf)
def WC:TGs:=fun vs σ H Q=>vs=[]∧Q σ H
def Xb (t:TG) (u:TGs):TGs:=fun vs σ H Q=>∃ v r,vs=v::r∧t v σ H fun σ' H'=>u r σ' H' Q
theorem Uv:PGs X [] WC:=by
 intro pins s σ H vs us Q I r h
 obtain ⟨e,h⟩:=h
 subst e
 cases r
 exact assignInOrder_nil ⟨σ,H,I,h⟩
theorem X8 {e:Expr} {es:List Expr} {t:TG} {u:TGs} (h1:PG X e t) (h2:PGs X es u)
  (hs:(assignEach (e::es) X.env).map (·.2)=assign e X.env::(assignEach es X.env).map (·.2)):PGs X (e::es) (Xb t u):=by
 intro pins s σ H vs us Q I r h
 obtain ⟨v,vr,e1,h⟩:=h
 subst e1
 cases r with
 | cons r rr =>
  rw [hs]
  refine assignInOrder_cons (thn (h1 pins s σ H _ _ _ I r h) fun _ s1 ⟨σ1,H1,I1,q1⟩=>?_)
  exact h2 pins s1 σ1 H1 _ _ Q I1 rr q1
def WD (K:PySem.W.Frag) (n:Nat) (t:TGs):TG:=fun v σ H Q=>∃ a xs,v = .ref a∧SqT K H a xs∧xs.length=n∧t xs σ H Q
theorem QD {es:List Expr} {k:Nat} {t:TGs} {n:Nat} (hc:X.calm=true) (h:PGs X es t)
  (hn:(assignEach es X.env).length=n) (hst:(assignEach es X.env).findIdx? (·.1)=none):PG X (.Tuple es k pos) (WD X.K n t):=by
 intro pins s σ H v u Q I r hw
 obtain ⟨a,xs,e1,hq,hl,hw⟩:=hw
 subst e1
 cases r
 obtain ⟨its,rv,ht,hz⟩:=I.tuple hq
 refine assign_Tuple_tuple (I.ok.hd hc) ht (by simp [hn,← hl,rv.length]) hst fun h' hx=>?_
 have I1:Inv X pins σ H { s with heap:=h' }:=I.kept (t':=s.toks) fun b o e=>hx b o (Nat.ne_of_lt (Heap.lt_size e)) e
 exact h pins _ σ H xs _ Q I1 (by simpa using rv) hw
def gSub (to ti:TE) (t:TSet):TG:=fun v σ H Q=>to σ H fun o H1=>ti σ H1 fun i H2=>t o i v H2 fun H3=>Q σ H3
theorem YeC {o i:Expr} {to ti:TE} {t:TSet} (ho:PE X o to) (hi:PE X i ti) (hs:PSet X t)
  (ha:∀ v,assign (.Subscript o i pos) X.env v=(do
   let ov ← holding [v] (eval o X.env)
   let iv ← holding [v,ov] (eval i X.env)
   standAt pos
   holding [v,ov,iv] (setItem ov iv v)
   release [v,ov,iv] [])):PG X (.Subscript o i pos) (gSub to ti t):=by
 intro pins s σ H v u Q I r h
 rw [ha]
 refine wpAny_bind (wpAny_holding (thn (ho pins s σ H _ I h) fun ov s1 ⟨x,H1,I1,r1,q1⟩=>?_))
 refine wpAny_bind (wpAny_holding (thn (hi pins s1 σ H1 _ I1 q1) fun iv s2 ⟨y,H2,I2,r2,q2⟩=>?_))
 refine wpAny_bind (wpAny_standAt (wpAny_bind (wpAny_holding (thn (hs pins s2 σ H2 x y v ov iv u _ I2 r1 r2 r q2) fun _ s3 ⟨H3,I3,q3⟩=>?_))))
 exact wpAny_release ⟨σ,H3,I3,q3⟩
def Ybq (te:TE) (g:TG):TS:=fun D σ H=>te σ H fun x H1=>g x σ H1 D.nx
theorem YeD {tg e:Expr} {te:TE} {g:TG} (he:PE X e te) (hg:PG X tg g) (hs:swapsWithSole [tg] e pos.line X.env=pure false) (hw:swappedStores [tg] e X.env=pure none)
  (h1:(assignEach [tg] X.env).map (·.2)=[assign tg X.env]):PS X (.Assign [tg] e pos) (Ybq te g):=by
 intro pins s σ H D I h
 refine wpAny_Assign_stores (thn (he pins s σ H _ I h) fun v s1 ⟨x,H1,I1,r1,q1⟩=>?_) hs hw
 rw [h1]
 exact thn (hg pins s1 σ H1 x v _ I1 r1 q1) fun _ s2 q=>q
theorem YL {i:Nat} {x:Str} {e:Expr} {te:TE} {pos':Pos} (hN:X.N.Nodup) (hi:X.N[i]?=some x) (hx:Loc X.env.scope x) (he:PE X e te) (hs:swapsWith e (some (.Name x pos')) pos.line X.env=pure false) (hf:X.fn x=true∨X.env.scope.names.lookup x=some .local) :
  PS X (.Assign [.Name x pos'] e pos) (Ybq te (YA i)):=by
 intro pins s σ H D I h
 refine wpAny_Assign_Name (thn (he pins s σ H _ I h) fun v s1 ⟨y,H1,I1,r1,q1⟩=>?_) hs
 exact QA I1 hN hi hx r1 (fun s2 I2=>⟨_,H1,I2,q1⟩) hf
def tAug (i:Nat) (te:TE) (ti:TIp):TS:=fun D σ H=>∃ x,σ[i]?=some (some x)∧te σ H fun y H1=>ti x y H1 fun z H2=>D.nx (σ.set i (some z)) H2
def ipI (f:Int→Int→Int):TIp:=fun x y H Q=>∃ i j,x = .int i∧y = .int j∧Q (.int (f i j)) H
end
section
variable {X:Cx} {pos:Pos}
end
structure It where
 go:Nat→Hp→Prop
 yld:Nat→Hp→V→Hp→Prop
 stop:Nat→Hp→Prop
def XV (X:Cx) (pins:List (Addr×Obj)) (H:Hp) (b:Addr):Prop :=
 H b=none∧b≠X.env.locals∧b∉X.fs∧(b∈X.ex∨X.s₀.heap.objs.size≤b)∧(∀ x c,X.env.cells.lookup x=some c→c≠b)∧∀ p∈X.pn++pins,p.1≠b
theorem Inv.fpOk {X:Cx} {pins:List (Addr×Obj)} {σ:St} {H H':Hp} {s:Shared} {b:Addr} (I:Inv X pins σ H s) (hb:s.heap.objs.size≤b) (hn:H' b=none):XV X pins H' b:=by
 refine ⟨hn,Nat.ne_of_gt (Nat.lt_of_lt_of_le I.lt hb),I.nofs hb,.inr (Nat.le_trans I.sz hb),fun x c e z=>?_,fun p hp z=>?_⟩
 ·obtain ⟨v,q⟩:=I.cell x c e
  exact absurd (Nat.lt_of_lt_of_le q.lt (by rw [z];exact hb)) (Nat.lt_irrefl _)
 ·exact absurd (Nat.lt_of_lt_of_le (Heap.lt_size (I.pin p hp).1) (by rw [z];exact hb)) (Nat.lt_irrefl _)
structure Turn (P:Program) (w:World) (K:PySem.W.Frag) (tg:Expr) (J:It) (fp:List Addr) (it:Addr) (tn:Nat→Heap→Prop):Prop where
 mem:it∈fp
 obj:∀ i h,tn i h→∀ b∈fp,∃ o,h.get? b=some o∧∀ v,o.data ≠ .cell v
 keep:∀ i h h',tn i h→(∀ b∈fp,∀ o,h.get? b=some o→h'.get? b=some o)→tn i h'
 item:∀ (X:Cx),X.prog=P→X.w=w→X.K=K→X.calm=true→∀ (i:Nat) (pins:List (Addr×Obj)) (s:Shared) (σ:St) (H:Hp) (E:Value→Shared→Prop),Inv X pins σ H s→(∀ b∈fp,XV X pins H b)→tn i s.heap→J.go i H →
  wpAny (model P w) X.A (pyNext (.ref it)) (fun r s1=>∃ u,r=some u ∧
   wpAny (model P w) X.A (letOwnedTupleGo tg (.ref it) u) (fun _ s2=>∃ x H',Inv X pins σ H' s2∧Yv x u∧J.yld i H x H'∧tn (i+1) s2.heap∧∀ b∈fp,H' b=none) E s1) E s
 done:∀ (X:Cx),X.prog=P→X.w=w→X.K=K→X.calm=true→∀ (i:Nat) (pins:List (Addr×Obj)) (s:Shared) (σ:St) (H:Hp) (E:Value→Shared→Prop),Inv X pins σ H s→(∀ b∈fp,XV X pins H b)→tn i s.heap→J.stop i H →
  wpAny (model P w) X.A (pyNext (.ref it)) (fun r s1=>r=none∧Inv X pins σ H s1) E s
 self:∀ (A:Around) (i:Nat) (s:Shared) (Q:Value→Shared→Prop) (E:Value→Shared→Prop),tn i s.heap→Q (.ref it) s→wpAny (model P w) A (pyIter (.ref it)) Q E s
abbrev TI:=St→Hp→(It→Hp→Prop)→Prop
def PIE (X:Cx) (pins:List (Addr×Obj)) (σ:St) (tg:Expr) (R:It→Hp→Prop) (itv:Value) (s2:Shared):Prop :=
 ∃ (it:Addr) (fp:List Addr) (tn:Nat→Heap→Prop) (J:It) (H':Hp),itv = .ref it∧Inv X pins σ H' s2∧Turn X.prog X.w X.K tg J fp it tn∧tn 0 s2.heap∧(∀ b∈fp,XV X pins H' b)∧R J H'
def PI (X:Cx) (tg iter:Expr) (wi:TI):Prop :=
 ∀ (pins:List (Addr×Obj)) (s:Shared) (σ:St) (H:Hp) (R:It→Hp→Prop),Inv X pins σ H s→wi σ H R →
  wpAny (model X.prog X.w) X.A (eval iter X.env) (fun v s1=>wpAny (model X.prog X.w) X.A (pyIter v) (PIE X pins σ tg R) X.xe s1) X.xe s
theorem Ybr {M:Model} {A:Around} {E:Value→Shared→Prop} {s:Shared} {tg:Expr} {it:Addr} {u:Value} {o:Obj} {n:String} {vs:Array Value} {Q:Unit→Shared→Prop} (ho:s.heap.get? it=some o) (hc:o.cls = .type n) (hd:o.data = .fields vs)
  (hn:["enumerate","zip","dict_itemiterator","dict_reverseitemiterator","odict_iterator","itertools.zip_longest","itertools.pairwise"].contains n=false) (hQ:Q () s):wpAny M A (letOwnedTupleGo tg (.ref it) u) Q E s:=by
 unfold letOwnedTupleGo
 cases tg<;>first
  | exact wpAny_pure hQ
  | (cases u<;>first
    | exact wpAny_pure hQ
    | (refine wpAny_bind (wpAny_load ho ?_)
       rw [hc,hd]
       show wpAny M A (if (["enumerate","zip","dict_itemiterator","dict_reverseitemiterator","odict_iterator","itertools.zip_longest","itertools.pairwise"].contains n&&vs[0]?==some (rawInt _))=true then _ else _) Q E s
       rw [if_neg (by intro h;rw [hn,Bool.false_and] at h;cases h)]
       exact wpAny_pure hQ))
def Itl (K:PySem.W.Frag) (a:Addr):It :=
 ⟨fun i H=>∃ xs x,SqL K H a xs∧xs[i]?=some x,fun i H x H'=>H'=H∧∀ xs,SqL K H a xs→xs[i]?=some x,fun i H=>∃ xs,SqL K H a xs∧xs.length≤i⟩
def Itt (K:PySem.W.Frag) (a:Addr):It :=
 ⟨fun i H=>∃ xs x,SqT K H a xs∧xs[i]?=some x,fun i H x H'=>H'=H∧∀ xs,SqT K H a xs→xs[i]?=some x,fun i H=>∃ xs,SqT K H a xs∧xs.length≤i⟩
def Itr (lo:Int) (n:Nat):It:=⟨fun i _=>i<n,fun i H x H'=>H'=H∧x = .int (lo+i),fun i _=>n≤i⟩
theorem Yb4 {P:Program} {w:World} {K:PySem.W.Frag} {tg:Expr} (a it:Addr):Turn P w K tg (Itl K a) [it] it (fun i h=>h.IsListIter it a i) where
 mem:=by simp
 obj:=fun i h st b hb=>by
  have e:b=it:=by simpa using hb
  subst e
  obtain ⟨o,e,c,d⟩:=st
  exact ⟨o,e,fun v z=>by rw [d] at z;cases z⟩
 keep:=fun i h h' st k=>st.at fun o e=>k it (by simp) o e
 item:=by
  intro X hP hw hK hc i pins s σ H E I hf st hg
  subst hP hw hK
  obtain ⟨xs,x,hq,hx⟩:=hg
  obtain ⟨its,rv,p,hz⟩:=I.list hq
  obtain ⟨u,hu,ru⟩:=rv.get hx
  obtain ⟨f0,f1,f2,f3,f4,f5⟩:=hf it (by simp)
  refine wpAny_pyNext_list_item st p.isList (x:=u) (by simpa using hu) fun h' st' sb=>?_
  have I1:Inv X pins σ H { s with heap:=h' }:=I.turned (t':=s.toks) (fun b o hb e=>(sb.2 b hb).trans e) f0 f1 f3 f4 f5
  obtain ⟨o,e,c,d⟩:=id st'
  exact ⟨u,rfl,Ybr (s:={ s with heap:=h' }) e c d (by decide) ⟨x,H,I1,ru,⟨rfl,fun ys hy=>by rw [I.list_inj hy hq];exact hx⟩,st',fun b hb=>(hf b hb).1⟩⟩
 done:=by
  intro X hP hw hK hc i pins s σ H E I hf st hg
  subst hP hw hK
  obtain ⟨xs,hq,hx⟩:=hg
  obtain ⟨its,rv,p,hz⟩:=I.list hq
  obtain ⟨f0,f1,f2,f3,f4,f5⟩:=hf it (by simp)
  have hl:=rv.length
  exact wpAny_pyNext_list_end (I.ok.hd hc) st p.isList (by simp;omega) fun h' eb=>⟨rfl,I.turned (t':=s.toks) (fun b o hb e=>eb b o hb e) f0 f1 f3 f4 f5⟩
 self:=fun _ _ _ _ _ st h=>wpAny_pyIter_listiter st h
theorem Ybs {P:Program} {w:World} {K:PySem.W.Frag} {tg:Expr} (a it:Addr):Turn P w K tg (Itt K a) [it] it (fun i h=>h.IsTupleIter it a i) where
 mem:=by simp
 obj:=fun i h st b hb=>by
  have e:b=it:=by simpa using hb
  subst e
  obtain ⟨o,e,c,d⟩:=st
  exact ⟨o,e,fun v z=>by rw [d] at z;cases z⟩
 keep:=fun i h h' st k=>st.at fun o e=>k it (by simp) o e
 item:=by
  intro X hP hw hK hc i pins s σ H E I hf st hg
  subst hP hw hK
  obtain ⟨xs,x,hq,hx⟩:=hg
  obtain ⟨its,rv,p,hz⟩:=I.tuple hq
  obtain ⟨u,hu,ru⟩:=rv.get hx
  obtain ⟨f0,f1,f2,f3,f4,f5⟩:=hf it (by simp)
  refine wpAny_pyNext_tuple_item st (show s.heap.IsTuple a its.toArray from p) (x:=u) (by simpa using hu) fun h' st' sb=>?_
  have I1:Inv X pins σ H { s with heap:=h' }:=I.turned (t':=s.toks) (fun b o hb e=>(sb.2 b hb).trans e) f0 f1 f3 f4 f5
  obtain ⟨o,e,c,d⟩:=id st'
  exact ⟨u,rfl,Ybr (s:={ s with heap:=h' }) e c d (by decide) ⟨x,H,I1,ru,⟨rfl,fun ys hy=>by rw [I.tuple_inj hy hq];exact hx⟩,st',fun b hb=>(hf b hb).1⟩⟩
 done:=by
  intro X hP hw hK hc i pins s σ H E I hf st hg
  subst hP hw hK
  obtain ⟨xs,hq,hx⟩:=hg
  obtain ⟨its,rv,p,hz⟩:=I.tuple hq
  obtain ⟨f0,f1,f2,f3,f4,f5⟩:=hf it (by simp)
  have hl:=rv.length
  exact wpAny_pyNext_tuple_end (I.ok.hd hc) st (show s.heap.IsTuple a its.toArray from p) (by simp;omega) fun h' eb=>⟨rfl,I.turned (t':=s.toks) (fun b o hb e=>eb b o hb e) f0 f1 f3 f4 f5⟩
 self:=fun _ _ _ _ _ st h=>wpAny_pyIter_tupleiter st h
theorem Ybt {P:Program} {w:World} {K:PySem.W.Frag} {tg:Expr} (it:Addr) (lo:Int) (n:Nat):Turn P w K tg (Itr lo n) [it] it (fun i h=>IsRangeIter h it (lo+(i:Nat)*1) ((n:Int) - (i:Nat)) 1) where
 mem:=by simp
 obj:=fun i h st b hb=>by
  have e:b=it:=by simpa using hb
  subst e
  exact ⟨_,st,fun v z=>by
   have z':Data.fields _=Data.cell v:=z
   cases z'⟩
 keep:=fun i h h' st k=>k it (by simp) _ st
 item:=by
  intro X hP hw hK hc i pins s σ H E I hf st hg
  subst hP hw hK
  obtain ⟨f0,f1,f2,f3,f4,f5⟩:=hf it (by simp)
  have W:=Walks.range (prog:=X.prog) (w:=X.w) (I.ok.hd hc) it lo 1 n
  refine W.item i s _ _ hg st fun v h' tk hv st' kk=>?_
  obtain ⟨t,rfl⟩:=hv
  have I1:Inv X pins σ H { s with heap:=h',toks:=tk }:=I.turned (fun b o hb e=>kk b o (by simpa using hb) e) f0 f1 f3 f4 f5
  refine ⟨_,rfl,Ybr (s:={ s with heap:=h',toks:=tk }) (n:="range_iterator") st' rfl rfl (by decide) ⟨.int (lo+i),H,I1,⟨t,?_⟩,⟨rfl,rfl⟩,st',fun b hb=>(hf b hb).1⟩⟩
  rw [Int.mul_one]
 done:=by
  intro X hP hw hK hc i pins s σ H E I hf st hg
  subst hP hw hK
  obtain ⟨f0,f1,f2,f3,f4,f5⟩:=hf it (by simp)
  exact wpAny_pyNext_range_end (I.ok.hd hc) st (by have:n≤i:=hg;omega) fun h' eb=>⟨rfl,I.turned (t':=s.toks) (fun b o hb e=>eb b o hb e) f0 f1 f3 f4 f5⟩
 self:=fun _ _ _ _ _ st h=>wpAny_pyIter_rangeiter st h
end L2
namespace L2
open PySem PySem.Spec PyProof.Rows
section
variable {X:Cx} {tg:Expr}
def W5 (K:PySem.W.Frag) (tl:TE):TI:=fun σ H R=>tl σ H fun x H1=>∃ a,x = .ref a∧(∃ xs,SqL K H1 a xs)∧R (Itl K a) H1
def QE (K:PySem.W.Frag) (tl:TE):TI:=fun σ H R=>tl σ H fun x H1=>∃ a,x = .ref a∧(∃ xs,SqT K H1 a xs)∧R (Itt K a) H1
theorem XW {l:Expr} {tl:TE} (hl:PE X l tl):PI X tg l (W5 X.K tl):=by
 intro pins s σ H R I h
 refine thn (hl pins s σ H _ I h) fun v s1 ⟨x,H1,I1,r1,q1⟩=>?_
 obtain ⟨a,e,⟨xs,hq⟩,q⟩:=q1
 subst e
 cases r1
 obtain ⟨its,rv,p,hz⟩:=I1.list hq
 refine wpAny_pyIter_list p.isList ?_
 refine ⟨s1.heap.objs.size,[s1.heap.objs.size],_,_,H1,rfl,I1.kept (t':=s1.toks) fun b o e=>Heap.get?_push_of_some _ e,Yb4 a _,⟨_,Heap.get?_push_size _ rfl,rfl,rfl⟩,fun b hb=>?_,q⟩
 have e:b=s1.heap.objs.size:=by simpa using hb
 subst e
 exact I1.fpOk (Nat.le_refl _) (I1.hok.fresh (Nat.le_refl _))
theorem WE {l:Expr} {tl:TE} (hl:PE X l tl):PI X tg l (QE X.K tl):=by
 intro pins s σ H R I h
 refine thn (hl pins s σ H _ I h) fun v s1 ⟨x,H1,I1,r1,q1⟩=>?_
 obtain ⟨a,e,⟨xs,hq⟩,q⟩:=q1
 subst e
 cases r1
 obtain ⟨its,rv,p,hz⟩:=I1.tuple hq
 refine wpAny_pyIter_tuple (show s1.heap.IsTuple a its.toArray from p) ?_
 refine ⟨s1.heap.objs.size,[s1.heap.objs.size],_,_,H1,rfl,I1.kept (t':=s1.toks) fun b o e=>Heap.get?_push_of_some _ e,Ybs a _,⟨_,Heap.get?_push_size _ rfl,rfl,rfl⟩,fun b hb=>?_,q⟩
 have e:b=s1.heap.objs.size:=by simpa using hb
 subst e
 exact I1.fpOk (Nat.le_refl _) (I1.hok.fresh (Nat.le_refl _))
theorem YcT {pins:List (Addr×Obj)} {σ:St} {H:Hp} {s:Shared} {R:It→Hp→Prop} {E:Value→Shared→Prop} {lo hi:Int} {t u v:Tok} {tk:Nat} (I:Inv X pins σ H s) (h1 : -(2^62)≤lo) (h2:lo<2^62) (h3 : -(2^62)≤hi) (h4:hi<2^62)
  (q:R (Itr lo (hi - lo).toNat) H):wpAny (model X.prog X.w) X.A (pyIter (.ref s.heap.objs.size)) (PIE X pins σ tg R) E { s with heap:=s.heap.push { cls := .type "range",data := .fields #[.int lo t,.int hi u,.int 1 v] },toks:=tk }:=by
 refine wpAny_pyIter_range (IsRange.new ..) (small_one h1 h2 h3 h4) ?_
 have I1:Inv X pins σ H { s with heap:=s.heap.push { cls := .type "range",data := .fields #[.int lo t,.int hi u,.int 1 v] },toks:=tk }:=I.kept fun b o e=>Heap.get?_push_of_some _ e
 refine ⟨(s.heap.push { cls := .type "range",data := .fields #[.int lo t,.int hi u,.int 1 v] }).objs.size,[(s.heap.push { cls := .type "range",data := .fields #[.int lo t,.int hi u,.int 1 v] }).objs.size],_,_,H,rfl,
  I1.kept (t':=tk) fun b o e=>Heap.get?_push_of_some _ e,Ybt _ lo (hi - lo).toNat,?_,fun b hb=>?_,q⟩
 ·have e1:lo+((0:Nat):Int)*1=lo:=by simp
  have e2:(((hi - lo).toNat:Nat):Int) - ((0:Nat):Int)=Builtin.Range.rangeSize lo hi 1:=by rw [rangeSize_one];split<;>omega
  show IsRangeIter _ _ (lo+((0:Nat):Int)*1) ((((hi - lo).toNat:Nat):Int) - ((0:Nat):Int)) 1
  rw [e1,e2]
  exact Heap.get?_push_size _ rfl
 ·have e:b=(s.heap.push { cls := .type "range",data := .fields #[.int lo t,.int hi u,.int 1 v] }).objs.size:=by simpa using hb
  subst e
  exact I1.fpOk (Nat.le_refl _) (I1.hok.fresh (Nat.le_refl _))
def Qo (ta:TA):TI:=fun σ H R=>ta σ H fun vs H1=>∃ j:Int,vs=[.int j] ∧ -(2^62)≤j∧j<2^62∧R (Itr 0 j.toNat) H1
theorem Vi {a:Expr} {ta:TA} {p pos:Pos} (hg:Gl X "range") (hm:X.mg "range"=none) (ha:PA X [a] ta) (hs:starEach [a] X.env=[(false,eval a X.env)]):PI X tg (.Call (.Name "range" p) [a] [] pos) (Qo ta):=by
 intro pins s σ H R I h
 refine Call_ (WN I hg hm boot_range (PyProof.Rows.callWith_type1 (thn (ha pos pins s σ H _ I h) fun us s1 ⟨vs,H1,I1,r1,q1⟩=>?_) hs rfl))
 obtain ⟨j,e,q1,q2,q⟩:=q1
 subst e
 cases r1 with
 | cons r rr =>
  cases rr
  obtain ⟨t,rfl⟩:=r
  exact call_range_1 (YcT I1 (by omega) (by omega) q1 q2 (by simpa using q))
def X9 (wi:TI) (g:TG) (tb:TS):TS:=fun D σ H=>wi σ H fun J H1=>∃ W:Nat→Nat→St→Hp→Prop,(∃ m,W 0 m σ H1)∧∀ i m σ H,W i m σ H →
 (J.stop i H∧D.nx σ H)∨(J.go i H∧∃ N:St→Hp→Prop,(∀ σ' H',N σ' H'→∃ m',m'<m∧W (i+1) m' σ' H')∧∀ x H',J.yld i H x H'→g x σ H' fun σ2 H2=>tb { D with nx:=N,ct:=N,bk:=D.nx } σ2 H2)
def WO (fp:List Addr) (h:Heap):List (Addr×Obj):=fp.filterMap fun b=>(h.get? b).map fun o=>(b,o)
theorem Xx {fp:List Addr} {h:Heap} {b:Addr} {o:Obj} (hb:b∈fp) (e:h.get? b=some o):(b,o)∈WO fp h:=List.mem_filterMap.mpr ⟨b,hb,by rw [e];rfl⟩
theorem Yb5 {fp:List Addr} {h:Heap} {p:Addr×Obj} (hp:p∈WO fp h):p.1∈fp∧h.get? p.1=some p.2:=by
 obtain ⟨b,hb,e⟩:=List.mem_filterMap.mp hp
 cases q:h.get? b with
 | none=>rw [q] at e;cases e
 | some o =>
  rw [q] at e
  have e':(b,o)=p:=Option.some.inj e
  subst e'
  exact ⟨hb,q⟩
theorem Inv.pinned {pins:List (Addr×Obj)} {σ:St} {H:Hp} {s:Shared} {fp:List Addr} (I:Inv X pins σ H s) (hf:∀ b∈fp,XV X pins H b) (ho:∀ b∈fp,∃ o,s.heap.get? b=some o∧∀ v,o.data ≠ .cell v):Inv X (pins++WO fp s.heap) σ H s :=
 I.pins_of fun p hp=>(List.mem_append.mp hp).elim (fun z=>I.pin p (List.mem_append_right _ z)) fun z=>by
  obtain ⟨hb,e⟩:=Yb5 z
  obtain ⟨f0,f1,f2,_⟩:=hf p.1 hb
  obtain ⟨o,e',d⟩:=ho p.1 hb
  rw [e] at e';cases e'
  exact ⟨e,f0,f1,f2,d⟩
theorem Inv.unpinned {pins pl:List (Addr×Obj)} {σ:St} {H:Hp} {s:Shared} (I:Inv X (pins++pl) σ H s):Inv X pins σ H s:=I.pins_of fun p hp=>I.pin p (List.mem_append_right _ (List.mem_append_left _ hp))
theorem V2 {iter:Expr} {body:List Stmt} {wi:TI} {g:TG} {tb:TS} {pos:Pos} (hp:PassesOwn (model X.prog X.w) X.A X.env X.xe) (hc:X.calm=true) (hi:PI X tg iter wi) (hg:PG X tg g) (hb:PSs X body tb)
  (hs:∀ x,foldedSetIterable iter X.env x=pure x):PS X (.For tg iter body [] pos) (X9 wi g tb):=by
 intro pins s σ H D I h
 refine wpAny_For (thn (hi pins s σ H _ I h) fun v s1 h1=>thn h1 fun itv s2 h2=>?_) hs
 obtain ⟨it,fp,tn,J,H2,e,I2,T,st2,f2,W,⟨m0,w0⟩,turn⟩:=h2
 subst e
 -- what stays true of the iterator's objects through the loop
 have stat:∀ {H':Hp},(∀ b∈fp,H' b=none)→∀ b∈fp,XV X pins H' b:=fun hn b hb=>⟨hn b hb,(f2 b hb).2⟩
 refine codeAny_forLoop_any (fun n s'=>∃ i σ' H',Inv X pins σ' H' s'∧tn i s'.heap∧(∀ b∈fp,H' b=none)∧W i n σ' H') ?_ m0 ⟨0,σ,H2,I2,st2,fun b hb=>(f2 b hb).1,w0⟩
 rintro n s3 ⟨i,σ3,H3,I3,st3,fr3,w3⟩
 rcases turn i n σ3 H3 w3 with ⟨stop,qn⟩ | ⟨go,N,hN,step⟩
 ·refine wpAny_passesOwn hp (thn (T.done X rfl rfl rfl hc i pins s3 σ3 H3 X.xe I3 (stat fr3) st3 stop) fun r s4 ⟨hr,I4⟩=>?_)
  subst hr
  exact wpAny_execs_nil ⟨σ3,H3,I4,qn⟩
 ·refine wpAny_passesOwn hp (thn (T.item X rfl rfl rfl hc i pins s3 σ3 H3 X.xe I3 (stat fr3) st3 go) fun r s4 ⟨u,hr,h4⟩=>?_)
  subst hr
  refine wpAny_passesOwn hp (thn h4 fun _ s5 ⟨x,H5,I5,r5,y5,st5,fr5⟩=>?_)
  have I5':=I5.pinned (stat fr5) (T.obj _ _ st5)
  refine wpAny_passesOwn hp (thn (hg _ s5 σ3 H5 x u _ I5' r5 (step x H5 y5)) fun _ s6 ⟨σ6,H6,I6,q6⟩=>?_)
  refine wpAny_passesOwn hp (thn (hb _ s6 σ6 H6 _ I6 q6) fun f s7 q7=>?_)
  have again:∀ {σ7:St} {H7:Hp},Inv X (pins++WO fp s5.heap) σ7 H7 s7→N σ7 H7→∃ m,m<n∧∃ i σ' H',Inv X pins σ' H' s7∧tn i s7.heap∧(∀ b∈fp,H' b=none)∧W i m σ' H':=fun {σ7 H7} I7 n7=>by
   obtain ⟨m',hm,w7⟩:=hN σ7 H7 n7
   refine ⟨m',hm,i+1,σ7,H7,I7.unpinned,T.keep _ _ _ st5 fun b hb o e=>(I7.pin (b,o) (List.mem_append_right _ (List.mem_append_right _ (Xx hb e)))).1,fun b hb=>?_,w7⟩
   obtain ⟨o,e,d⟩:=T.obj _ _ st5 b hb
   exact (I7.pin (b,o) (List.mem_append_right _ (List.mem_append_right _ (Xx hb e)))).2.1
  cases f with
  | next=>obtain ⟨σ7,H7,I7,n7⟩:=q7;exact again I7 n7
  | cont=>obtain ⟨σ7,H7,I7,n7⟩:=q7;exact again I7 n7
  | brk=>obtain ⟨σ7,H7,I7,q7⟩:=q7;exact ⟨σ7,H7,I7.unpinned,q7⟩
  | ret v=>obtain ⟨x7,σ7,H7,I7,r7,q7⟩:=q7;exact ⟨x7,σ7,H7,I7.unpinned,r7,q7⟩
end
theorem YcU {K:PySem.W.Frag} {a:Addr} {xs:List V} {g:TG} {tb:TS} {D:Ends} {σ:St} {H:Hp} (Pv:Nat→St→Hp→Prop) (h0:Pv 0 σ H) (hl:∀ i σ H,i≤xs.length→Pv i σ H→SqL K H a xs)
  (hs:∀ i x σ H,xs[i]?=some x→Pv i σ H→g x σ H fun σ2 H2=>tb { D with nx:=Pv (i+1),ct:=Pv (i+1),bk:=D.nx } σ2 H2) (hd:∀ σ H,Pv xs.length σ H→D.nx σ H) :
  ∃ W:Nat→Nat→St→Hp→Prop,(∃ m,W 0 m σ H)∧∀ i m σ H,W i m σ H →
   ((Itl K a).stop i H∧D.nx σ H)∨((Itl K a).go i H∧∃ N:St→Hp→Prop,(∀ σ' H',N σ' H'→∃ m',m'<m∧W (i+1) m' σ' H')∧∀ x H',(Itl K a).yld i H x H'→g x σ H' fun σ2 H2=>tb { D with nx:=N,ct:=N,bk:=D.nx } σ2 H2):=by
 refine ⟨fun i m σ H=>m=xs.length - i∧i≤xs.length∧Pv i σ H,⟨xs.length,by simp,Nat.zero_le _,h0⟩,?_⟩
 rintro i m σ H ⟨rfl,hi,p⟩
 have q:=hl i σ H hi p
 by_cases hlt:i<xs.length
 ·refine .inr ⟨⟨xs,xs[i],q,by simp [hlt]⟩,Pv (i+1),fun σ' H' p'=>⟨xs.length - (i+1),by omega,rfl,hlt,p'⟩,fun x H' y=>?_⟩
  obtain ⟨e,y⟩:=y
  subst e
  exact hs i x σ _ (y xs q) p
 ·have e:i=xs.length:=by omega
  subst e
  exact .inl ⟨⟨xs,q,Nat.le_refl _⟩,hd σ H p⟩
theorem YdY {K:PySem.W.Frag} {a:Addr} {xs:List V} {g:TG} {tb:TS} {D:Ends} {σ:St} {H:Hp} (Pv:Nat→St→Hp→Prop) (h0:Pv 0 σ H) (hl:∀ i σ H,i≤xs.length→Pv i σ H→SqT K H a xs)
  (hs:∀ i x σ H,xs[i]?=some x→Pv i σ H→g x σ H fun σ2 H2=>tb { D with nx:=Pv (i+1),ct:=Pv (i+1),bk:=D.nx } σ2 H2) (hd:∀ σ H,Pv xs.length σ H→D.nx σ H) :
  ∃ W:Nat→Nat→St→Hp→Prop,(∃ m,W 0 m σ H)∧∀ i m σ H,W i m σ H →
   ((Itt K a).stop i H∧D.nx σ H)∨((Itt K a).go i H∧∃ N:St→Hp→Prop,(∀ σ' H',N σ' H'→∃ m',m'<m∧W (i+1) m' σ' H')∧∀ x H',(Itt K a).yld i H x H'→g x σ H' fun σ2 H2=>tb { D with nx:=N,ct:=N,bk:=D.nx } σ2 H2):=by
 refine ⟨fun i m σ H=>m=xs.length - i∧i≤xs.length∧Pv i σ H,⟨xs.length,by simp,Nat.zero_le _,h0⟩,?_⟩
 rintro i m σ H ⟨rfl,hi,p⟩
 have q:=hl i σ H hi p
 by_cases hlt:i<xs.length
 ·refine .inr ⟨⟨xs,xs[i],q,by simp [hlt]⟩,Pv (i+1),fun σ' H' p'=>⟨xs.length - (i+1),by omega,rfl,hlt,p'⟩,fun x H' y=>?_⟩
  obtain ⟨e,y⟩:=y
  subst e
  exact hs i x σ _ (y xs q) p
 ·have e:i=xs.length:=by omega
  subst e
  exact .inl ⟨⟨xs,q,Nat.le_refl _⟩,hd σ H p⟩
theorem Yb6 {lo:Int} {n:Nat} {g:TG} {tb:TS} {D:Ends} {σ:St} {H:Hp} (Pv:Nat→St→Hp→Prop) (h0:Pv 0 σ H)
  (hs:∀ i σ H,i<n→Pv i σ H→g (.int (lo+i)) σ H fun σ2 H2=>tb { D with nx:=Pv (i+1),ct:=Pv (i+1),bk:=D.nx } σ2 H2) (hd:∀ σ H,Pv n σ H→D.nx σ H) :
  ∃ W:Nat→Nat→St→Hp→Prop,(∃ m,W 0 m σ H)∧∀ i m σ H,W i m σ H →
   ((Itr lo n).stop i H∧D.nx σ H)∨((Itr lo n).go i H∧∃ N:St→Hp→Prop,(∀ σ' H',N σ' H'→∃ m',m'<m∧W (i+1) m' σ' H')∧∀ x H',(Itr lo n).yld i H x H'→g x σ H' fun σ2 H2=>tb { D with nx:=N,ct:=N,bk:=D.nx } σ2 H2):=by
 refine ⟨fun i m σ H=>m=n - i∧i≤n∧Pv i σ H,⟨n,by simp,Nat.zero_le _,h0⟩,?_⟩
 rintro i m σ H ⟨rfl,hi,p⟩
 by_cases hlt:i<n
 ·refine .inr ⟨hlt,Pv (i+1),fun σ' H' p'=>⟨n - (i+1),by omega,rfl,hlt,p'⟩,fun x H' y=>?_⟩
  obtain ⟨e,y⟩:=y
  subst e y
  exact hs i σ _ hlt p
 ·have e:i=n:=by omega
  subst e
  exact .inl ⟨Nat.le_refl _,hd σ H p⟩
end L2
namespace L2
open PySem PySem.Spec PyProof.Rows
abbrev R2:=V→V→Hp→VK→Prop
def OpR (X:Cx) (f:Value→Value→Sem Value) (r:R2):Prop :=
 ∀ (pins:List (Addr×Obj)) (s:Shared) (σ:St) (H:Hp) (x y:V) (v u:Value) (Q:VK),Inv X pins σ H s→Yv x v→Yv y u→r x y H Q →
  wpAny (model X.prog X.w) X.A (f v u) (EP X pins σ Q) X.xe s
def UnR (X:Cx) (f:Value→Sem Value) (r:V→Hp→VK→Prop):Prop :=
 ∀ (pins:List (Addr×Obj)) (s:Shared) (σ:St) (H:Hp) (x:V) (v:Value) (Q:VK),Inv X pins σ H s→Yv x v→r x H Q →
  wpAny (model X.prog X.w) X.A (f v) (EP X pins σ Q) X.xe s
def Xm (X:Cx) (f:Value) (r:List V→Hp→VK→Prop):Prop :=
 ∀ (pins:List (Addr×Obj)) (s:Shared) (σ:St) (H:Hp) (xs:List V) (us:List Value) (Q:VK),Inv X pins σ H s→Yl xs us→r xs H Q →
  wpAny (model X.prog X.w) X.A (call f us) (EP X pins σ Q) X.xe s
def tOp (r:R2) (ta tb:TE):TE:=fun σ H Q=>ta σ H fun x H1=>tb σ H1 fun y H2=>r x y H2 Q
def tUn (r:V→Hp→VK→Prop) (ta:TE):TE:=fun σ H Q=>ta σ H fun x H1=>r x H1 Q
def rI (C:Int→Int→Prop) (g:Int→Int→V):R2:=fun x y H Q=>∃ i j,x = .int i∧y = .int j∧C i j∧Q (g i j) H
def rI0 (g:Int→Int→V):R2:=fun x y H Q=>∃ i j,x = .int i∧y = .int j∧Q (g i j) H
def rU (g:Int→V):V→Hp→VK→Prop:=fun x H Q=>∃ i,x = .int i∧Q (g i) H
section
variable {X:Cx} {a b c:Expr} {ta tb tc:TE} {pos:Pos}
theorem binT (ha:PE X a ta) (hb:PE X b tb) {pins:List (Addr×Obj)} {s:Shared} {σ:St} {H:Hp} {R:V→V→Hp→Prop} (I:Inv X pins σ H s)
  (h:ta σ H fun x H1=>tb σ H1 fun y H2=>R x y H2) {Q:Value→Shared→Prop} {f:Value→Value→Sem Value}
  (hf:∀ v u s2 x y H2,Inv X pins σ H2 s2→Yv x v→Yv y u→R x y H2→wpAny (model X.prog X.w) X.A (f v u) Q X.xe s2) :
  wpAny (model X.prog X.w) X.A (eval a X.env) (fun v s₁=>wpAny (model X.prog X.w) X.A (eval b X.env) (fun u s₂=>wpAny (model X.prog X.w) X.A (f v u) Q X.xe s₂) X.xe s₁) X.xe s:=by
 refine thn (ha pins s σ H _ I h) fun v s1 ⟨x,H1,I1,r1,q1⟩=>?_
 refine thn (hb pins s1 σ H1 _ I1 q1) fun u s2 ⟨y,H2,I2,r2,q2⟩=>?_
 exact hf v u s2 x y H2 I2 r1 r2 q2
theorem YB {op:Operator} {r:R2} (ho:OpR X (binaryOp op) r) (ha:PE X a ta) (hb:PE X b tb):PE X (.BinOp a op b pos) (tOp r ta tb):=by
 intro pins s σ H Q I h
 exact wpAny_BinOp (binT ha hb I h fun v u s2 x y H2 I2 rx ry q=>ho pins s2 σ H2 x y v u Q I2 rx ry q)
theorem pe_un {op:UnaryOp} {r:V→Hp→VK→Prop} (ho:UnR X (unaryOp op) r) (ha:PE X a ta):PE X (.UnaryOp op a pos) (tUn r ta):=by
 intro pins s σ H Q I h
 exact UnaryOp_ (thn (ha pins s σ H _ I h) fun v s1 ⟨x,H1,I1,r1,q1⟩=>ho pins s1 σ H1 x v Q I1 r1 q1)
theorem opI {f:Value→Value→Sem Value} {C:Int→Int→Prop} {g:Int→Int→Int}
  (rule:∀ (i j:Int) (t u:Tok) (s:Shared) (Q:Value→Shared→Prop) (E:Value→Shared→Prop),C i j→Q (.int (g i j) s.toks) { s with toks:=s.toks+1 }→wpAny (model X.prog X.w) X.A (f (.int i t) (.int j u)) Q E s) :
  OpR X f (rI C fun i j => .int (g i j)):=by
 intro pins s σ H x y v u Q I rx ry h
 obtain ⟨i,j,rfl,rfl,hc,q⟩:=h
 obtain ⟨t,rfl⟩:=rx
 obtain ⟨t',rfl⟩:=ry
 exact rule i j t t' s _ _ hc ⟨.int (g i j),H,I.tok _,⟨_,rfl⟩,q⟩
theorem opI0 {f:Value→Value→Sem Value} {g:Int→Int→Int}
  (rule:∀ (i j:Int) (t u:Tok) (s:Shared) (Q:Value→Shared→Prop) (E:Value→Shared→Prop),Q (.int (g i j) s.toks) { s with toks:=s.toks+1 }→wpAny (model X.prog X.w) X.A (f (.int i t) (.int j u)) Q E s) :
  OpR X f (rI0 fun i j => .int (g i j)):=by
 intro pins s σ H x y v u Q I rx ry h
 obtain ⟨i,j,rfl,rfl,q⟩:=h
 obtain ⟨t,rfl⟩:=rx
 obtain ⟨t',rfl⟩:=ry
 exact rule i j t t' s _ _ ⟨.int (g i j),H,I.tok _,⟨_,rfl⟩,q⟩
theorem opB0 {f:Value→Value→Sem Value} {g:Int→Int→Bool}
  (rule:∀ (i j:Int) (t u:Tok) (s:Shared) (Q:Value→Shared→Prop) (E:Value→Shared→Prop),Q (.bool (g i j)) s→wpAny (model X.prog X.w) X.A (f (.int i t) (.int j u)) Q E s) :
  OpR X f (rI0 fun i j => .bl (g i j)):=by
 intro pins s σ H x y v u Q I rx ry h
 obtain ⟨i,j,rfl,rfl,q⟩:=h
 obtain ⟨t,rfl⟩:=rx
 obtain ⟨t',rfl⟩:=ry
 exact rule i j t t' s _ _ ⟨.bl (g i j),H,I,rfl,q⟩
def CPow (i j:Int):Prop:=0≤j∧j≤1000000∧i.natAbs<2^64
def CMul (i j:Int):Prop:=(-(2^64)<i∧i<2^64)∨(-(2^64)<j∧j<2^64)
theorem CMul.ok {i j:Int} (h:CMul i j):IntMulOk i j:=by
 rcases h with ⟨h1,h2⟩ | ⟨h1,h2⟩
 ·exact .of_left (intBits_le_64 h1 h2)
 ·exact .of_right (intBits_le_64 h1 h2)
theorem V3:OpR X (binaryOp .Add) (rI0 fun i j => .int (i+j)):=opI0 fun _ _ _ _ _ _ _ q=>add_int q
theorem V4:OpR X (binaryOp .Sub) (rI0 fun i j => .int (i - j)):=opI0 fun _ _ _ _ _ _ _ q=>sub_int q
theorem Y9:OpR X (binaryOp .Mod) (rI (fun _ j=>0<j) fun i j => .int (i%j)):=opI fun i j _ _ _ _ _ hc q=>by
 have h1:(0:Int)<j:=hc
 exact mod_int' (by omega) (by rw [Int.fmod_eq_emod_of_nonneg i (by omega)];exact q)
theorem V5:OpR X (binaryOp .Pow) (rI CPow fun i j => .int (i^j.toNat)):=opI fun _ _ _ _ _ _ _ hc q=>pow_int_small hc.1 hc.2.1 hc.2.2 q
theorem unI {f:Value→Sem Value} {g:Int→Int}
  (rule:∀ (i:Int) (t:Tok) (s:Shared) (Q:Value→Shared→Prop) (E:Value→Shared→Prop),Q (.int (g i) s.toks) { s with toks:=s.toks+1 }→wpAny (model X.prog X.w) X.A (f (.int i t)) Q E s) :
  UnR X f (rU fun i => .int (g i)):=by
 intro pins s σ H x v Q I rx h
 obtain ⟨i,rfl,q⟩:=h
 obtain ⟨t,rfl⟩:=rx
 exact rule i t s _ _ ⟨.int (g i),H,I.tok _,⟨_,rfl⟩,q⟩
theorem YeE:UnR X (unaryOp .USub) (rU fun i => .int (-i)):=unI fun _ _ _ _ _ q=>neg_int q
end
def QF:V→V→Bool
 | .non,.non=>true | .non,.int _=>true | .int _,.non=>true | .non,.bl _=>true | .bl _,.non=>true | .non,.str _=>true | .str _,.non=>true
 | .int _,.int _=>true | .bl _,.bl _=>true | .str _,.str _=>true | .byt _,.byt _=>true
 | .int _,.str _=>true | .str _,.int _=>true | .bl _,.str _=>true | .str _,.bl _=>true
 | _,_=>false
def rEq:R2:=fun x y H Q=>QF x y=true∧Q (.bl (decide (x=y))) H
def rNe:R2:=fun x y H Q=>QF x y=true∧Q (.bl (!decide (x=y))) H
theorem YaM {i j:Int}:decide (V.int i=V.int j)=(i==j):=by
 rw [Bool.eq_iff_iff]
 simp
theorem Yb7 {i j:Bool}:decide (V.bl i=V.bl j)=(i==j):=by
 rw [Bool.eq_iff_iff]
 simp
theorem YaN {i j:Str}:decide (V.str i=V.str j)=(i==j):=by
 rw [Bool.eq_iff_iff]
 simp
theorem YaO {i j:Array UInt8}:decide (V.byt i=V.byt j)=(i.toList==j.toList):=by
 rw [Bool.eq_iff_iff]
 cases i
 cases j
 simp
section
variable {X:Cx} {a b c:Expr} {ta tb tc:TE} {pos:Pos}
theorem YG {pins:List (Addr×Obj)} {σ:St} {H:Hp} {s:Shared} {Q:VK} {k k':Bool} (I:Inv X pins σ H s) (q:Q (.bl k) H) (e:k=k'):EP X pins σ Q (.bool k') s:=by
 subst e
 exact ⟨.bl k,H,I,rfl,q⟩
theorem YS:OpR X (compareOp .Eq) rEq:=by
 intro pins s σ H x y v u Q I rx ry h
 obtain ⟨hs,q⟩:=h
 cases x with
 | non =>
  cases rx
  cases y with
  | non=>cases ry;exact PySem.EqNone.eq_none_none (YG I q (by simp))
  | bl j=>cases ry;exact PySem.EqNone.eq_none_bool (YG I q (by simp))
  | int j=>obtain ⟨t',rfl⟩:=ry;exact PySem.EqNone.eq_none_int (YG I q (by simp))
  | str j=>obtain ⟨t',rfl⟩:=ry;exact PySem.EqNone.eq_none_str (YG I q (by simp))
  | _=>exact absurd (show false=true from hs) Bool.false_ne_true
 | bl i =>
  cases rx
  cases y with
  | non=>cases ry;exact PySem.EqNone.eq_bool_none (YG I q (by simp))
  | bl j=>cases ry;exact eq_bool (YG I q Yb7)
  | str j=>obtain ⟨t',rfl⟩:=ry;exact PySem.EqMixed.eq_bool_str (YG I q (by simp))
  | _=>exact absurd (show false=true from hs) Bool.false_ne_true
 | int i =>
  obtain ⟨t,rfl⟩:=rx
  cases y with
  | non=>cases ry;exact PySem.EqNone.eq_int_none (YG I q (by simp))
  | int j=>obtain ⟨t',rfl⟩:=ry;exact eq_int (YG I q YaM)
  | str j=>obtain ⟨t',rfl⟩:=ry;exact PySem.EqMixed.eq_int_str (YG I q (by simp))
  | _=>exact absurd (show false=true from hs) Bool.false_ne_true
 | str i =>
  obtain ⟨t,rfl⟩:=rx
  cases y with
  | non=>cases ry;exact PySem.EqNone.eq_str_none (YG I q (by simp))
  | bl j=>cases ry;exact PySem.EqMixed.eq_str_bool (YG I q (by simp))
  | int j=>obtain ⟨t',rfl⟩:=ry;exact PySem.EqMixed.eq_str_int (YG I q (by simp))
  | str j=>obtain ⟨t',rfl⟩:=ry;exact eq_str (YG I q YaN)
  | _=>exact absurd (show false=true from hs) Bool.false_ne_true
 | byt i =>
  obtain ⟨t,rfl⟩:=rx
  cases y with
  | byt j=>obtain ⟨t',rfl⟩:=ry;exact PySem.W.eq_bytes (YG I q YaO)
  | _=>exact absurd (show false=true from hs) Bool.false_ne_true
 | _=>cases y<;>exact absurd (show false=true from hs) Bool.false_ne_true
theorem Qp:OpR X (compareOp .NotEq) rNe:=by
 intro pins s σ H x y v u Q I rx ry h
 obtain ⟨hs,q⟩:=h
 cases x with
 | non =>
  cases rx
  cases y with
  | non=>cases ry;exact PySem.EqNone.ne_none_none (YG I q (by simp))
  | bl j=>cases ry;exact PySem.EqNone.ne_none_bool (YG I q (by simp))
  | int j=>obtain ⟨t',rfl⟩:=ry;exact PySem.EqNone.ne_none_int (YG I q (by simp))
  | str j=>obtain ⟨t',rfl⟩:=ry;exact PySem.EqNone.ne_none_str (YG I q (by simp))
  | _=>exact absurd (show false=true from hs) Bool.false_ne_true
 | bl i =>
  cases rx
  cases y with
  | non=>cases ry;exact PySem.EqNone.ne_bool_none (YG I q (by simp))
  | bl j=>cases ry;exact ne_bool (YG I q (congrArg not Yb7))
  | str j=>obtain ⟨t',rfl⟩:=ry;exact PySem.EqMixed.ne_bool_str (YG I q (by simp))
  | _=>exact absurd (show false=true from hs) Bool.false_ne_true
 | int i =>
  obtain ⟨t,rfl⟩:=rx
  cases y with
  | non=>cases ry;exact PySem.EqNone.ne_int_none (YG I q (by simp))
  | int j=>obtain ⟨t',rfl⟩:=ry;exact ne_int (YG I q (congrArg not YaM))
  | str j=>obtain ⟨t',rfl⟩:=ry;exact PySem.EqMixed.ne_int_str (YG I q (by simp))
  | _=>exact absurd (show false=true from hs) Bool.false_ne_true
 | str i =>
  obtain ⟨t,rfl⟩:=rx
  cases y with
  | non=>cases ry;exact PySem.EqNone.ne_str_none (YG I q (by simp))
  | bl j=>cases ry;exact PySem.EqMixed.ne_str_bool (YG I q (by simp))
  | int j=>obtain ⟨t',rfl⟩:=ry;exact PySem.EqMixed.ne_str_int (YG I q (by simp))
  | str j=>obtain ⟨t',rfl⟩:=ry;exact ne_str (YG I q (congrArg not YaN))
  | _=>exact absurd (show false=true from hs) Bool.false_ne_true
 | byt i =>
  obtain ⟨t,rfl⟩:=rx
  cases y with
  | byt j=>obtain ⟨t',rfl⟩:=ry;exact PySem.W.ne_bytes (YG I q (congrArg not YaO))
  | _=>exact absurd (show false=true from hs) Bool.false_ne_true
 | _=>cases y<;>exact absurd (show false=true from hs) Bool.false_ne_true
theorem V6:OpR X (compareOp .Lt) (rI0 fun i j => .bl (decide (i<j))):=opB0 fun _ _ _ _ _ _ _ q=>lt_int q
theorem op_le:OpR X (compareOp .LtE) (rI0 fun i j => .bl (decide (i≤j))):=opB0 fun _ _ _ _ _ _ _ q=>le_int q
theorem Ybu:OpR X (compareOp .Gt) (rI0 fun i j => .bl (decide (j<i))):=opB0 fun _ _ _ _ _ _ _ q=>gt_int q
theorem QG:OpR X (compareOp .Is) (fun x y H Q=>y = .non∧Q (.bl (decide (x = .non))) H):=by
 intro pins s σ H x y v u Q I rx ry h
 obtain ⟨rfl,q⟩:=h
 cases ry
 refine is_none_gen (YG I q ?_)
 cases x<;>first
  | (cases rx;rfl)
  | (obtain ⟨t,rfl⟩:=rx;rfl)
theorem Yp (b:Expr) {op:CmpOp} (h:op ≠ .In:=by decide) (h2:op ≠ .NotIn:=by decide):behindInMarks op b=false:=by
 have e1:(op==CmpOp.In)=false:=by cases op<;>first | rfl | exact absurd rfl h
 have e2:(op==CmpOp.NotIn)=false:=by cases op<;>first | rfl | exact absurd rfl h2
 cases b<;>simp [behindInMarks,e1,e2]
theorem Xu {op:CmpOp} {r:R2} (ho:OpR X (compareOp op) r) (ha:PE X a ta) (hb:PE X b tb) (hm:behindInMarks op b=false):PE X (.Compare a [op] [b] pos) (tOp r ta tb):=by
 intro pins s σ H Q I h
 exact wpAny_Compare1 (binT ha hb I h fun v u s2 x y H2 I2 rx ry q=>ho pins s2 σ H2 x y v u Q I2 rx ry q) hm
def YdD (t:TE):TT:=fun σ H Q=>t σ H fun x H'=>∃ k,x = .bl k∧Q k H'
theorem Ys {op:CmpOp} {r:R2} (ho:OpR X (compareOp op) r) (ha:PE X a ta) (hb:PE X b tb) (hm:behindInMarks op b=false):PT X (.Compare a [op] [b] pos) (YdD (tOp r ta tb)):=by
 intro pins s σ H Q I h
 refine wpAny_isTrue_Compare1 (thn (ha pins s σ H _ I h) fun v s1 ⟨x,H1,I1,r1,q1⟩=>thn (hb pins s1 σ H1 _ I1 q1) fun u s2 ⟨y,H2,I2,r2,q2⟩ =>
  thn (ho pins s2 σ H2 x y v u _ I2 r1 r2 q2) fun c s3 ⟨z,H3,I3,r3,k,e,q3⟩=>?_) hm
 subst e
 cases r3
 exact wpAny_truthy_bool ⟨H3,I3,q3⟩
def Yb8 (r r':R2) (ta tb tc:TE):TE:=fun σ H Q=>ta σ H fun x H1=>tb σ H1 fun y H2=>r x y H2 fun z H3=>∃ k,z = .bl k ∧
 (if k=true then tc σ H3 fun w' H4=>r' y w' H4 Q else Q (.bl false) H3)
theorem YcV {op op':CmpOp} {r r':R2} (ho:OpR X (compareOp op) r) (ho':OpR X (compareOp op') r') (ha:PE X a ta) (hb:PE X b tb) (hc:PE X c tc)
  (hm:lastMarks [op,op'] [b,c]=false):PE X (.Compare a [op,op'] [b,c] pos) (Yb8 r r' ta tb tc):=by
 intro pins s σ H Q I h
 refine Compare_chain (thn (ha pins s σ H _ I h) fun v s1 ⟨x,H1,I1,r1,q1⟩=>chain_link (thn (hb pins s1 σ H1 _ I1 q1) fun u s2 ⟨y,H2,I2,r2,q2⟩ =>
  thn (ho pins s2 σ H2 x y v u _ I2 r1 r2 q2) fun d s3 ⟨z,H3,I3,r3,k,e,q3⟩=>?_)) hm
 subst e
 cases r3
 refine wpAny_truthy_bool ?_
 cases k with
 | false=>exact ite_ff ⟨.bl false,H3,I3,rfl,q3⟩
 | true=>exact ite_tt (chain_last (thn (hc pins s3 σ H3 _ I3 q3) fun w' s4 ⟨z',H4,I4,r4,q4⟩=>ho' pins s4 σ H4 y z' u w' Q I4 r2 r4 q4))
theorem WP:(sizeLine:Nat)<2^63:=by rw [sizeLine_eq];decide
theorem V7:OpR X (binaryOp .Add) (fun x y H Q=>∃ i j,x = .str i∧y = .str j∧i.length+j.length≤sizeLine∧Q (.str (i++j)) H):=by
 intro pins s σ H x y v u Q I rx ry h
 obtain ⟨i,j,rfl,rfl,hz,q⟩:=h
 obtain ⟨t,rfl⟩:=rx
 obtain ⟨t',rfl⟩:=ry
 exact add_str (fun t' tk=>⟨.str (i++j),H,I.tok _,⟨_,rfl⟩,q⟩) hz
theorem Ws {x:V} {us:List Value} (r:Yl [x] us):∃ u,us=[u]∧Yv x u:=by
 cases r with
 | cons r1 r2=>cases r2;exact ⟨_,rfl,r1⟩
theorem YdE {x y:V} {us:List Value} (r:Yl [x,y] us):∃ u w',us=[u,w']∧Yv x u∧Yv y w':=by
 cases r with
 | cons r1 r2 =>
  cases r2 with
  | cons r3 r4=>cases r4;exact ⟨_,_,rfl,r1,r3⟩
theorem Yb9:Xm X (.type "int") (fun xs H Q=>(∃ i,xs=[.int i]∧Q (.int i) H)∨∃ k,xs=[.bl k]∧Q (.int (if k then 1 else 0)) H):=by
 intro pins s σ H xs us Q I r h
 rcases h with ⟨i,rfl,q⟩ | ⟨k,rfl,q⟩
 ·obtain ⟨u,rfl,t,rfl⟩:=Ws r
  exact call_int_int ⟨.int i,H,I,⟨_,rfl⟩,q⟩
 ·obtain ⟨u,rfl,r1⟩:=Ws r
  cases r1
  exact call_int_bool ⟨.int (if k then 1 else 0),H,I.tok _,⟨_,rfl⟩,q⟩
end
end L2
namespace L2
open PySem PySem.Spec PyProof.Rows
structure ObjM (h:Heap) (x dx C:Addr) (mA:Str→Option Value):Prop where
 obj:h.get? x=some (PySem.W.instObj C dx)
 ns:h.Ns1 dx mA
 ne:dx≠x
theorem Yca {h:Heap} {dx:Addr} {mA:Str→Option Value} (n:h.Ns1 dx mA):∃ od,h.get? dx=some od∧∀ name,PySem.W.lookIn name od=some (mA name):=by
 obtain ⟨o,es,ep,ho,hd,hk,_,hm⟩:=n
 refine ⟨o,ho,fun name=>?_⟩
 have e:=hm name
 unfold nsFind findBy at e
 rw [← Array.find?_toList] at e
 unfold PySem.W.lookIn
 rw [hd]
 dsimp only
 split
 ·rename_i y q
  rw [q] at e
  exact congrArg some e
 ·rename_i q
  rw [q] at e
  have a:es.toList.any (·.refKey)=false:=by
   rw [List.any_eq_false]
   intro y hy
   obtain ⟨z,t,hkey⟩:=hk y (Array.mem_toList_iff.mp hy)
   simp [DictEntry.refKey,hkey]
  have a':¬ es.toList.any (·.refKey)=true:=by rw [a];exact Bool.false_ne_true
  rw [if_neg a']
  exact congrArg some e
theorem ObjM.look {h:Heap} {x dx C:Addr} {mA:Str→Option Value} (I:ObjM h x dx C mA):∃ od,PySem.W.InstAt h x (PySem.W.instObj C dx) C (some od)∧∀ name,PySem.W.lookIn name od=some (mA name) :=
 let ⟨od,ho,hl⟩:=Yca I.ns
 ⟨od,⟨I.obj,rfl,rfl,ho⟩,hl⟩
section
variable {prog:Program} {w:World} {A:Around} {E:Value→Shared→Prop} {s:Shared} {K:PySem.W.Frag} {x dx C f:Addr} {mA:Str→Option Value} {name:Str} {v:Value}
end
def Wp (f:Str) (v:V):List (Str×V)→List (Str×V)
 | []=>[(f,v)]
 | (g,x)::r=>if g=f then (g,v)::r else (g,x)::Wp f v r
theorem VF (f g:Str) (v:V):∀ fs:List (Str×V),(Wp f v fs).lookup g=if g=f then some v else fs.lookup g
 | []=>by
  show List.lookup g [(f,v)]=_
  by_cases h:g=f
  ·have hb:(g==f)=true:=beq_iff_eq.mpr h
   simp only [List.lookup,hb,if_pos h]
  ·have hb:(g==f)=false:=beq_eq_false_iff_ne.mpr h
   simp only [List.lookup,hb,if_neg h]
 | (k,x)::r=>by
  have ih:=VF f g v r
  rw [show Wp f v ((k,x)::r)=(if k=f then (k,v)::r else (k,x)::Wp f v r) from rfl]
  by_cases hk:k=f
  ·rw [if_pos hk]
   by_cases h:g=k
   ·have hb:(g==k)=true:=beq_iff_eq.mpr h
    simp only [List.lookup,hb,if_pos (h.trans hk)]
   ·have hb:(g==k)=false:=beq_eq_false_iff_ne.mpr h
    simp only [List.lookup,hb,if_neg (fun e:g=f=>h (e.trans hk.symm))]
  ·rw [if_neg hk]
   by_cases h:g=k
   ·have hb:(g==k)=true:=beq_iff_eq.mpr h
    simp only [List.lookup,hb,if_neg (fun e:g=f=>hk (h.symm.trans e))]
   ·have hb:(g==k)=false:=beq_eq_false_iff_ne.mpr h
    simp only [List.lookup,hb]
    exact ih
theorem Vj (f:Str) (v:V):∀ fs:List (Str×V),f∈(Wp f v fs).map (·.1)∧∀ g,g∈fs.map (·.1)→g∈(Wp f v fs).map (·.1)
 | []=>⟨by simp [Wp],fun g h=>by simp at h⟩
 | (k,x)::r=>by
  obtain ⟨i1,i2⟩:=Vj f v r
  rw [show Wp f v ((k,x)::r)=(if k=f then (k,v)::r else (k,x)::Wp f v r) from rfl]
  by_cases hk:k=f
  ·rw [if_pos hk]
   subst hk
   exact ⟨by simp,fun g h=>by simpa using h⟩
  ·rw [if_neg hk]
   refine ⟨?_,fun g h=>?_⟩
   ·rw [List.map_cons]
    exact List.mem_cons_of_mem _ i1
   ·rw [List.map_cons] at h ⊢
    rcases List.mem_cons.mp h with e | e
    ·exact List.mem_cons.mpr (.inl e)
    ·exact List.mem_cons_of_mem _ (i2 g e)
section
variable {P:Program} {w:World} {H H':Hp} {h h':Heap} {a C dx:Addr} {fs fs':List (Str×V)}
theorem YaP (hok:HOk P w H h) (e:H a=some (.ins C dx fs)):∃ mA,ObjM h a dx C mA∧(∀ f,Uu (fs.lookup f) (mA f))∧PySem.Within mA (fs.map (·.1))∧fs.length≤1000∧H dx=some (.own a):=by
 obtain ⟨d,z,ne,ob,mA,n,r,q⟩:=(show YK P w H h a (.ins C dx fs) from hok a _ e)
 exact ⟨mA,⟨ob,n,ne⟩,r,q,z,d⟩
end
structure Cls (K:PySem.W.Frag) (C:Addr):Prop where
 pg:PySem.W.plainGet K C Str.empty=true
 hd:PySem.W.hasDictIn K C=true
 po:PySem.W.plainOver K C=true
 sa:PySem.W.findIn K (.ref C) "__setattr__"=some (some (.builtin "object.__setattr__"))
theorem Cls.get {K:PySem.W.Frag} {C:Addr} (c:Cls K C) (f:Str):PySem.W.plainGet K C f=true:=c.pg
def Ycb (K:PySem.W.Frag) (C:Addr) (f:Str):Prop:=PySem.W.findIn K (.ref C) f=some none
structure Meth (K:PySem.W.Frag) (C:Addr) (m:Str) (f:Addr):Prop where
 at_:PySem.W.findIn K (.ref C) m=some (some (.ref f))
 fn:PySem.W.isFn K (.ref f)=true
 kp:PySem.W.keepIn K (.ref f)=true
section
variable {X:Cx} {pins:List (Addr×Obj)} {σ:St} {H:Hp} {s:Shared} {a C dx:Addr} {fs:List (Str×V)} {f:Str} {v:V} {A:Around} {E:Value→Shared→Prop}
end
def tFld (K:PySem.W.Frag) (ta:TE) (f:Str):TE:=fun σ H Q=>ta σ H fun x H1=>∃ a C dx fs v,x = .ref a∧H1 a=some (.ins C dx fs)∧Cls K C∧Ycb K C f∧fs.lookup f=some v∧Q v H1
def sFld (K:PySem.W.Frag) (ta tv:TE) (f:Str):TS:=fun D σ H=>tv σ H fun y H1=>ta σ H1 fun x H2=>∃ a C dx fs,x = .ref a∧H2 a=some (.ins C dx fs)∧Cls K C∧Ycb K C f∧fs.length<1000 ∧
 D.nx σ (upd H2 a (.ins C dx (Wp f y fs)))
section
variable {X:Cx} {o e value:Expr} {f:Str} {pos pos' tpos:Pos} {ta tv:TE}
end
section
variable {X:Cx} {pins:List (Addr×Obj)} {σ:St} {H:Hp} {s:Shared} {A:Around} {E:Value→Shared→Prop} {Q:Value→Shared→Prop} {c:Value} {b:Bool}
inductive TyOf (K:PySem.W.Frag) (H:Hp):V→Value→Prop where
 | non:TyOf K H .non (.type "NoneType")
 | bl (x:Bool):TyOf K H (.bl x) (.type "bool")
 | int (i:Int):TyOf K H (.int i) (.type "int")
 | str (x:Str):TyOf K H (.str x) (.type "str")
 | flt (x:UInt64):TyOf K H (.flt x) (.type "float")
 | lst {a:Addr} {xs:List V} (e:H a=some (.lst xs)):TyOf K H (.ref a) (.type "list")
 | frz {a:Addr} {o:Obj} {xs:List V} (e:H a=some (.frz o (.lst xs))):TyOf K H (.ref a) (.type "list")
 | tup {a:Addr} {xs:List V} (e:H a=some (.tup xs)):TyOf K H (.ref a) (.type "tuple")
 | dK {a:Addr} {kvs:List (Key×V)} (e:H a=some (.dK kvs)):TyOf K H (.ref a) (.type "dict")
 | dT {a:Addr} {kvs:List (List Key×V)} (e:H a=some (.dT kvs)):TyOf K H (.ref a) (.type "dict")
 | ins {a C dx:Addr} {fs:List (Str×V)} (e:H a=some (.ins C dx fs)) (cl:Cls K C) (ha:PySem.W.findIn K (.ref C) "__class__"=some (some (.builtin "object.__class__")))
   (hn:PySem.W.specialIn K (.builtin "object.__class__") "__get__"=some (some (.builtin "getset_descriptor.__get__"))) (htk:PySem.W.takesIn K (.builtin "object.__class__")=some true)
   (hm:PySem.W.mroIn K C (.type "object")=some true):TyOf K H (.ref a) (.ref C)
theorem Ycc {x:V} {u t:Value} (I:Inv X pins σ H s) (rx:Yv x u) (ty:TyOf X.K H x t) (e:PySem.W.kitOne X.K t c=some b) (h:∀ tk,Q (.bool b) { s with toks:=tk }) :
  wpAny (model X.prog X.w) A (call (.builtin "isinstance") [u,c]) Q E s:=by
 cases ty with
 | non=>cases (show u=Value.none from rx);exact PySem.W.kia_one PySem.W.kitx_none I.kIn True.intro e (fun z=>nomatch z) h
 | bl y=>cases (show u=Value.bool y from rx);exact PySem.W.kia_one PySem.W.kitx_bool I.kIn True.intro e (fun z=>nomatch z) h
 | int i=>obtain ⟨t,q⟩:=(show ∃ t,u=Value.int i t from rx);cases q;exact PySem.W.kia_one PySem.W.kitx_int I.kIn True.intro e (fun z=>nomatch z) h
 | str y=>obtain ⟨t,q⟩:=(show ∃ t,u=Value.str y t from rx);cases q;exact PySem.W.kia_one PySem.W.kitx_str I.kIn True.intro e (fun z=>nomatch z) h
 | flt y=>obtain ⟨t,q⟩:=(show ∃ t,u=Value.float y t from rx);cases q;exact PySem.W.kia_one PySem.W.kitx_float I.kIn True.intro e (fun z=>nomatch z) h
 | @lst a xs ea =>
  cases (show u=Value.ref a from rx)
  obtain ⟨_,_,n,_,h1⟩:=(show YK X.prog X.w H s.heap a (.lst xs) from I.hok a _ ea)
  exact PySem.W.kia_one PySem.W.kitx_list I.kIn ⟨_,h1,rfl⟩ e (fun z=>nomatch z) h
 | @frz a ob xs ea =>
  cases (show u=Value.ref a from rx)
  obtain ⟨_,_,_,n,_,h1⟩:=(show YK X.prog X.w H s.heap a (.frz ob (.lst xs)) from I.hok a _ ea)
  exact PySem.W.kia_one PySem.W.kitx_list I.kIn ⟨_,h1,rfl⟩ e (fun z=>nomatch z) h
 | @tup a xs ea =>
  cases (show u=Value.ref a from rx)
  obtain ⟨_,_,_,p⟩:=(show YK X.prog X.w H s.heap a (.tup xs) from I.hok a _ ea)
  obtain ⟨o,h1,h2,_⟩:=p
  exact PySem.W.kia_one PySem.W.kitx_tuple I.kIn ⟨o,h1,h2⟩ e (fun z=>nomatch z) h
 | @dK a kvs ea =>
  cases (show u=Value.ref a from rx)
  obtain ⟨_,_,vs,_,p⟩:=(show YK X.prog X.w H s.heap a (.dK kvs) from I.hok a _ ea)
  obtain ⟨o,es,ep,h1,h2,_⟩:=p
  exact PySem.W.kia_one PySem.W.kitx_dict I.kIn ⟨o,h1,h2.1⟩ e (fun z=>nomatch z) h
 | @dT a kvs ea =>
  cases (show u=Value.ref a from rx)
  obtain ⟨_,_,xs,_,o,es,ep,h1,h2,_⟩:=(show YK X.prog X.w H s.heap a (.dT kvs) from I.hok a _ ea)
  exact PySem.W.kia_one PySem.W.kitx_dict I.kIn ⟨o,h1,h2.1⟩ e (fun z=>nomatch z) h
 | @ins a C dx fs ea cl ha hn htk hm =>
  cases (show u=Value.ref a from rx)
  obtain ⟨mA,O,_⟩:=YaP I.hok ea
  obtain ⟨od,J,_⟩:=O.look
  exact PySem.W.kia_one (PySem.W.kitx_own (cl.get _) cl.hd ha hn htk hm) I.kIn J e (fun z=>nomatch z) h
end
end L2
namespace L2
open PySem PySem.Spec PyProof.Rows
structure Room (k:Nat) (A:Around):Prop where
 hd:A.handled=none
 dp:A.depth+3*k+5<recursionLimit
 un:A.units+16*k+200<cLine
 gd:A.guards=some []
theorem Room.mono {j k:Nat} {A:Around} (r:Room k A) (h:j≤k):Room j A:=⟨r.hd,by have:=r.dp;omega,by have:=r.un;omega,r.gd⟩
theorem Room.deeper {k:Nat} {A:Around} (r:Room (k+1) A) (env:Env):Room k (A.deeper env) :=
 ⟨r.hd,by have:=r.dp;show A.depth+1+3*k+5<_;omega,by have:=r.un;show A.units+3+16*k+200<_;omega,r.gd⟩
theorem Room.in1 {k:Nat} {A:Around} (r:Room (k+1) A):Room k A.in1 :=
 ⟨r.hd,by have:=r.dp;show A.depth+3*k+5<_;omega,by have:=r.un;show A.units+1+16*k+200<_;omega,r.gd⟩
theorem Ybv {A:Around} {C:Addr} {us:List Value} {kw:List (Str×Value)}:(A.under (.builtin "type.__call__" ⟨.ref C::us,kw⟩)).depth=A.depth+1:=by
 first | rfl | simp [Around.under,Code.weight,Code.isCreation,Code.isGuard,Code.isCaller,Code.frames,Code.isFrame,guardIds]
theorem Ybw {A:Around} {C:Addr} {us:List Value} {kw:List (Str×Value)}:(A.under (.builtin "type.__call__" ⟨.ref C::us,kw⟩)).units=A.units+1:=by
 first | rfl | simp [Around.under,Code.cUnits,Code.frames,Code.isFrame]
theorem Room.make {k:Nat} {A:Around} (r:Room (k+1) A) (C:Addr) (us:List Value) (kw:List (Str×Value)):Room k (A.under (.builtin "type.__call__" ⟨.ref C::us,kw⟩)) :=
 ⟨r.hd,by have:=r.dp;rw [Ybv];omega,by have:=r.un;rw [Ybw];omega,by first | exact r.gd | simpa [Around.under,Code.isGuard,Code.isFrame,guardIds] using r.gd⟩
theorem Room.depth {k:Nat} {A:Around} (r:Room k A):A.depth<recursionLimit:=by have:=r.dp;omega
theorem Room.units {k:Nat} {A:Around} (r:Room k A):A.units+64<cLine:=by have:=r.un;omega
def Vk:TA:=fun _ H Q=>Q [] H
def Wt (ta:TE) (tr:TA):TA:=fun σ H Q=>ta σ H fun x H1=>tr σ H1 fun xs H2=>Q (x::xs) H2
section
variable {X:Cx} {e:Expr} {es:List Expr} {te:TE} {t:TA} {pos:Pos}
theorem Yb:PA X [] Vk:=fun _ _ _ _ H Q I h=>Calls.spliced_nil ⟨[],H,I,.nil,h⟩
theorem Ya (ha:PE X e te) (hr:PA X es t) (hs:starEach (e::es) X.env=(false,eval e X.env)::starEach es X.env:=by rfl):PA X (e::es) (Wt te t):=by
 intro pos pins s σ H Q I h
 rw [hs]
 show wpAny _ _ (spliced ((false,eval e X.env)::backTo pos (starEach es X.env))) _ _ s
 refine Calls.spliced_cons (thn (ha pins s σ H _ I h) fun u s1 ⟨x,H1,I1,r1,q1⟩=>?_)
 exact thn (hr pos pins s1 σ H1 _ I1 q1) fun us s2 ⟨xs,H2,I2,r2,q2⟩=>⟨x::xs,H2,I2,.cons r1 r2,q2⟩
def tTup (t:TA):TE:=fun σ H Q=>t σ H fun xs H1=>xs.length≤sizeLine∧∀ p,H1 p=none→Q (.ref p) (upd H1 p (.tup xs))
def tLst (t:TA):TE:=fun σ H Q=>t σ H fun xs H1=>xs.length≤sizeLine∧∀ p,H1 p=none→Q (.ref p) (upd H1 p (.lst xs))
theorem YN {x1} (h:PA X es t):PE X (.Tuple es x1 pos) (tTup t):=by
 intro pins s σ H Q I hq
 refine wpAny_Tuple_spliced (thn (h pos pins s σ H _ I hq) fun us s1 ⟨xs,H1,I1,r,z,q⟩=>⟨by rw [← r.length];exact z,?_⟩)
 have hf:H1 s1.heap.objs.size=none:=I1.hok.fresh (Nat.le_refl _)
 refine ⟨.ref s1.heap.objs.size,upd H1 s1.heap.objs.size (.tup xs),I1.laid (t':=s1.toks) (fun b u e=>Heap.get?_push_of_some _ e) (Nat.le_refl _) ?_,rfl,q _ hf⟩
 exact ⟨z,us,r,⟨_,Heap.get?_push_size _ rfl,rfl,_,rfl⟩⟩
theorem Xv (h:PA X es t):PE X (.List es pos) (tLst t):=by
 intro pins s σ H Q I hq
 refine wpAny_List_spliced (thn (h pos pins s σ H _ I hq) fun us s1 ⟨xs,H1,I1,r,z,q⟩=>⟨by rw [← r.length];exact z,?_⟩)
 have hf:H1 s1.heap.objs.size=none:=I1.hok.fresh (Nat.le_refl _)
 refine ⟨.ref s1.heap.objs.size,upd H1 s1.heap.objs.size (.lst xs),I1.laid (t':=s1.toks) (fun b u e=>Heap.get?_push_of_some _ e) (Nat.le_refl _) ?_,rfl,q _ hf⟩
 exact ⟨z,us,0,r,Heap.get?_push_size _ rfl⟩
end
abbrev Sp:=List V→Hp→VK→XK→Prop
abbrev CXT:=List Env→Hp→Shared→XK→Value→Shared→Prop
structure Env0 (P:Program) (w:World) (K:PySem.W.Frag) (mg:Str→Option Value) (base:Heap) (A:Around) (outer:List Env) (s:Shared) (H:Hp):Prop where
 frames:A.frames=some outer
 mod:Mod K mg base
 bs:∀ b o,base.get? b=some o→s.heap.get? b=some o∧H b=none
 bsz:base.objs.size≤s.heap.objs.size
 funs:s.heap.FunFrames base outer
 frf:∀ b∈frs outer,H b=none
 hok:HOk P w H s.heap
 bare:AllBare s.gens
def CE (outer:List Env) (P:Program) (w:World) (H:Hp) (s:Shared) (Q:VK) (u:Value) (s':Shared):Prop :=
 ∃ v H',s'.os=s.os∧AllBare s'.gens∧Un (frs outer) [] H H' s.heap s'.heap∧HOk P w H' s'.heap∧Yv v u∧Q v H'
def CR (CX:CXT) (outer:List Env) (P:Program) (w:World) (H:Hp) (s:Shared) (Q:VK) (E:XK) (r:Result) (s':Shared):Prop :=
 match r with
 | .ok (.ret u)=>CE outer P w H s Q u s'
 | .ok _=>False
 | .error e=>CX outer H s E e s'
structure FnOk (P:Program) (w:World) (K:PySem.W.Frag) (mg:Str→Option Value) (base:Heap) (CX:CXT) (k:Nat) (f:Addr) (fd:FuncData) (ps:List Str) (sp:Sp):Prop where
 len:∀ vs H Q E,sp vs H Q E→vs.length=ps.length
 run:∀ (A:Around) (outer:List Env) (s:Shared) (H:Hp) (args:Args) (us:List Value) (vs:List V) (Q:VK) (E:XK),Room k A→Env0 P w K mg base A outer s H→BindsTo s fd args (ps.zip us)→Yl vs us→sp vs H Q E →
  codeAny (model P w) A (.call (.ref f) args) (CR CX outer P w H s Q E) s
theorem FnOk.mono {P:Program} {w:World} {K:PySem.W.Frag} {mg:Str→Option Value} {base:Heap} {CX:CXT} {j k:Nat} {f:Addr} {fd:FuncData} {ps:List Str} {sp:Sp} (F:FnOk P w K mg base CX j f fd ps sp) (h:j≤k) :
  FnOk P w K mg base CX k f fd ps sp:=⟨F.len,fun A outer s H args us vs Q E hr=>F.run A outer s H args us vs Q E (hr.mono h)⟩
theorem Env0.make {P:Program} {w:World} {K:PySem.W.Frag} {mg:Str→Option Value} {base:Heap} {A:Around} {outer:List Env} {s:Shared} {H:Hp} (e:Env0 P w K mg base A outer s H) (C:Addr) (us:List Value) (kw:List (Str×Value)) :
  Env0 P w K mg base (A.under (.builtin "type.__call__" ⟨.ref C::us,kw⟩)) outer s H:=⟨by first | exact e.frames | (simpa [Around.under,Code.envs,Code.isFrame,pushEnvs] using e.frames),e.mod,e.bs,e.bsz,e.funs,e.frf,e.hok,e.bare⟩
theorem Env0.in1 {P:Program} {w:World} {K:PySem.W.Frag} {mg:Str→Option Value} {base:Heap} {A:Around} {outer:List Env} {s:Shared} {H:Hp} (e:Env0 P w K mg base A outer s H) :
  Env0 P w K mg base A.in1 outer s H:=⟨e.frames,e.mod,e.bs,e.bsz,e.funs,e.frf,e.hok,e.bare⟩
section
variable {X:Cx} {pins:List (Addr×Obj)} {σ:St} {H:Hp} {s s':Shared}
theorem Inv.env0 (I:Inv X pins σ H s):Env0 X.prog X.w X.K X.mg X.base X.A X.stack s H :=
 ⟨I.ok.frames,I.ok.mod,I.bs,Nat.le_trans I.ok.bsz I.sz,I.stack,I.stkFree,I.hok,I.bare⟩
theorem Inv.after {Q:VK} {u:Value} (I:Inv X pins σ H s) (h:CE X.stack X.prog X.w H s Q u s'):EP X pins σ Q u s':=by
 obtain ⟨v,H',os,bare,un,hok,r,q⟩:=h
 obtain ⟨hh,g,d,t,os'⟩:=s'
 obtain rfl:os'=s.os:=os
 exact ⟨v,H',I.call (h':=hh) (g':=g) (d':=d) (t':=t) (ch:=[]) un hok bare (fun b z=>absurd z (by simp)),r,q⟩
end
def Qq (sp:Sp) (dvs:List V) (E:XK) (t:TA):TE:=fun σ H Q=>t σ H fun vs H1=>sp (vs++dvs) H1 Q E
def tMeth (C:Addr) (m:Str) (sp:Sp) (dvs:List V) (E:XK) (ta:TE) (t:TA):TE:=fun σ H Q=>ta σ H fun x H1=>∃ a dx fs,x = .ref a∧H1 a=some (.ins C dx fs)∧fs.lookup m=none ∧
 t σ H1 fun vs H2=>sp (x::(vs++dvs)) H2 Q E
def tMake (C:Addr) (sp:Sp) (dvs:List V) (E:XK) (t:TA):TE:=fun σ H Q=>t σ H fun vs H1=>∀ x dx,H1 x=none→H1 dx=none→dx≠x →
 sp (.ref x::(vs++dvs)) (upd (upd H1 dx (.own x)) x (.ins C dx [])) (fun v H2=>v = .non∧Q (.ref x) H2) E
def Xr (K:PySem.W.Frag) (fd:FuncData) (ps:List Str) (ds:List Value):Prop :=
 ∀ (s:Shared) (us:List Value),K.In s.heap→(us++ds).length=ps.length→BindsTo s fd ⟨us,[]⟩ (ps.zip (us++ds))
theorem Xr.all {K:PySem.W.Frag} {fd:FuncData} {ps:List Str} (h:∀ us:List Value,us.length=ps.length→bindArgs fd ⟨us,[]⟩=pure (ps.zip us)):Xr K fd ps []:=fun s us _ hl=>by
 rw [List.append_nil] at hl ⊢
 exact .of_eq (h us hl)
def WQ (CX:CXT) (X:Cx) (E:XK):Prop:=∀ (pins:List (Addr×Obj)) (σ:St) (H:Hp) (s:Shared) (e:Value) (s':Shared),Inv X pins σ H s→CX X.stack H s E e s'→X.xe e s'
section
variable {X:Cx} {CX:CXT} {k:Nat} {f C:Addr} {fd:FuncData} {ps:List Str} {sp:Sp} {dvs:List V} {ds:List Value} {E:XK} {x m:Str} {p pos apos:Pos} {e o:Expr} {es:List Expr} {ta:TE} {t:TA}
theorem QH {pins:List (Addr×Obj)} {σ:St} {H:Hp} {s:Shared} {Q:VK} {us:List Value} {vs:List V} (F:FnOk X.prog X.w X.K X.mg X.base CX k f fd ps sp) (hr:Room k X.A) (hb:Xr X.K fd ps ds) (hd:Yl dvs ds) (hx:WQ CX X E)
  (I:Inv X pins σ H s) (r:Yl vs us) (h:sp (vs++dvs) H Q E):wpAny (model X.prog X.w) X.A (call (.ref f) us) (EP X pins σ Q) X.xe s:=by
 have r2:Yl (vs++dvs) (us++ds):=r.append hd
 have hl:(us++ds).length=ps.length:=by rw [← r2.length];exact F.len _ _ _ _ h
 refine wpAny_call (codeAny_mono (F.run X.A X.stack s H ⟨us,[]⟩ (us++ds) (vs++dvs) Q E hr I.env0 (hb s us I.kIn hl) r2 h) fun r s' hq=>?_)
 cases r with
 | error e=>exact hx pins σ H s e s' I hq
 | ok fl =>
  cases fl with
  | ret u=>exact I.after hq
  | next=>exact False.elim hq
  | brk=>exact False.elim hq
  | cont=>exact False.elim hq
theorem YaQ (F:FnOk X.prog X.w X.K X.mg X.base CX k f fd ps sp) (hr:Room k X.A) (hg:Gl X x) (hm:X.mg x=some (.ref f)) (hk:PySem.W.keepIn X.K (.ref f)=true) (hb:Xr X.K fd ps ds) (hd:Yl dvs ds) (hx:WQ CX X E)
  (ha:PA X (e::es) t) (hdb:(x==("__debug__":Str))=false:=by decide) (he:starEach (e::es) X.env=(false,eval e X.env)::starEach es X.env:=by rfl) (hpl:(backTo pos (starEach es X.env)).any (·.1)=false:=by rfl) :
  PE X (.Call (.Name x p) (e::es) [] pos) (Qq sp dvs E t):=by
 intro pins s σ H Q I h
 refine wpAny_Call_Name_kw (Ww I hg hm ?_ hdb)
 refine PySem.W.callWith_K (h₀:=X.base) I.ok.mod.kin hk (thn (ha pos pins s σ H _ I h) fun us s1 ⟨vs,H1,I1,r,q⟩=>⟨I1.kIn,?_⟩) he hpl
 exact QH F hr hb hd hx I1 r q
end
section
variable {X:Cx} {CX:CXT} {k:Nat} {f C:Addr} {fd:FuncData} {ps ks:List Str} {sp:Sp} {E:XK} {x m:Str} {p pos apos kpos:Pos} {e o:Expr} {es:List Expr} {kws:List Keyword} {te ta:TE} {t tk:TA} {nm:Option Str}
variable {g:List Value→List Value→List Value} {gV:List V→List V→List V}
end
structure FnScope (N P:List Str) (sc:Scope):Prop where
 kind:sc.kind = .function
 co:sc.isCoroutine=false
 gen:sc.isGenerator=false
 nd:N.Nodup
 pre:N.take P.length=P
 par:∀ x∈P,sc.names.lookup x=some .local∨sc.names.lookup x=some .cell
 nofree:∀ y∈sc.names,y.2 ≠ .free
theorem UR {kindOf:Str→Option NameKind} {x:Str}:∀ {binds:List (Str×Value)} {m:Str→Option Value},(∀ v,(x,v)∉binds)→bindL kindOf binds m x=m x
 | [],_,_=>rfl
 | (n,v)::r,m,h=>by
  unfold bindL
  rw [UR fun w hw=>h w (List.mem_cons_of_mem _ hw)]
  split
  ·have:x≠n:=by rintro rfl;exact h v List.mem_cons_self
   simp [this]
  ·rfl
theorem US {kindOf:Str→Option NameKind} {x:Str}:∀ {binds:List (Str×Value)} {m:Str→Option Value},(∀ v,(x,v)∉binds)→bindC kindOf binds m x=m x
 | [],_,_=>rfl
 | (n,v)::r,m,h=>by
  unfold bindC
  rw [US fun w hw=>h w (List.mem_cons_of_mem _ hw)]
  split
  ·rfl
  ·have:x≠n:=by rintro rfl;exact h v List.mem_cons_self
   simp [this]
theorem UT {kindOf:Str→Option NameKind} {x:Str} {v:Value}:∀ {P:List Str} {vs:List Value} {i:Nat} {m:Str→Option Value},P.Nodup→P[i]?=some x→vs[i]?=some v→kindOf x=some .local →
  bindL kindOf (P.zip vs) m x=some v
 | [],_,_,_,_,h,_,_=>by simp at h
 | _::_,[],_,_,_,_,h,_=>by simp at h
 | p::P,w::vs,0,m,nd,h1,h2,hk=>by
  simp at h1 h2;subst h1;subst h2
  show bindL kindOf ((p,w)::P.zip vs) m p=_
  unfold bindL
  rw [UR fun v hv=>(List.nodup_cons.mp nd).1 (List.of_mem_zip hv).1,if_pos hk]
  simp
 | p::P,w::vs,i+1,m,nd,h1,h2,hk=>by
  show bindL kindOf ((p,w)::P.zip vs) m x=_
  unfold bindL
  exact UT (i:=i) (List.nodup_cons.mp nd).2 (by simpa using h1) (by simpa using h2) hk
theorem UU {kindOf:Str→Option NameKind} {x:Str} {v:Value}:∀ {P:List Str} {vs:List Value} {i:Nat} {m:Str→Option Value},P.Nodup→P[i]?=some x→vs[i]?=some v→kindOf x≠some .local →
  bindC kindOf (P.zip vs) m x=some v
 | [],_,_,_,_,h,_,_=>by simp at h
 | _::_,[],_,_,_,_,h,_=>by simp at h
 | p::P,w::vs,0,m,nd,h1,h2,hk=>by
  simp at h1 h2;subst h1;subst h2
  show bindC kindOf ((p,w)::P.zip vs) m p=_
  unfold bindC
  rw [US fun v hv=>(List.nodup_cons.mp nd).1 (List.of_mem_zip hv).1,if_neg hk]
  simp
 | p::P,w::vs,i+1,m,nd,h1,h2,hk=>by
  show bindC kindOf ((p,w)::P.zip vs) m x=_
  unfold bindC
  exact UU (i:=i) (List.nodup_cons.mp nd).2 (by simpa using h1) (by simpa using h2) hk
def start (N:List Str) (vs:List V):St:=vs.map some++List.replicate (N.length - vs.length) none
def Wa (CX:CXT) (P:Program) (w:World) (K:PySem.W.Frag) (mg:Str→Option Value) (base:Heap) (N:List Str) (qual:Str) (scope:Scope) (f:Addr) (cd:Value) (A:Around) (outer:List Env) (s:Shared) (H:Hp) (E:XK):Cx where
 prog:=P
 w:=w
 K:=K
 mg:=mg
 base:=base
 A:=A.deeper (envOfC qual scope s.heap.objs.size f cd)
 N:=N
 s₀:=s
 H₀:=H
 env:=envOfC qual scope s.heap.objs.size f cd
 outer:=outer
 stack:=envOfC qual scope s.heap.objs.size f cd::outer
 ex:=[]
 calm:=true
 fn:=fun _=>true
 pn:=[]
 xe:=fun e s'=>wpAny (model P w) (A.deeper (envOfC qual scope s.heap.objs.size f cd)) (leaving (envOfC qual scope s.heap.objs.size f cd) e) (fun _ s''=>CX outer H s E e s'') (fun e' s''=>CX outer H s E e' s'') s'
theorem QI {sc:Scope} {n:Nat} {x:Str} (h:sc.names.lookup x=some .cell):∃ c,(cellsFrom n sc.names []).lookup x=some c:=by
 have q:=PySem.W.cellsFrom_some sc.names n [] (.inl h)
 exact Option.isSome_iff_exists.mp q
theorem UV {CX:CXT} {P:Program} {w:World} {K:PySem.W.Frag} {mg:Str→Option Value} {base:Heap} {N ps:List Str} {qual:Str} {scope:Scope} {f:Addr} {cd:Value} {A:Around} {outer:List Env} {s s1:Shared} {H:Hp} {E:XK} {us:List Value} {vs:List V}
  (S:FnScope N ps scope) (hd:A.handled=none) (e0:Env0 P w K mg base A outer s H) (hl:vs.length=ps.length) (r:Yl vs us)
  (x:InCallC s s.heap.objs.size (bindL (envOfC qual scope s.heap.objs.size f cd).kindOf (ps.zip us) fun _=>none) (cellsFrom (s.heap.objs.size+1) scope.names []) (bindC (envOfC qual scope s.heap.objs.size f cd).kindOf (ps.zip us) fun _=>none) s1) :
  Inv (Wa CX P w K mg base N qual scope f cd A outer s H E) [] (start N vs) H s1:=by
 have hpl:ps.length≤N.length:=by have:=congrArg List.length S.pre;rw [List.length_take] at this;omega
 obtain ⟨h1,tk,rfl,hk⟩:=x.done
 have noA:∀ b:Addr,b∉(Wa CX P w K mg base N qual scope f cd A outer s H E).ex:=fun b z=>absurd (show b∈([]:List Addr) from z) (by simp)
 refine ⟨⟨e0.mod,S.kind,rfl,rfl,Nat.le_refl _,fun y z c h1 h2=>?_,fun y hy=>?_,fun y c _ h=>?_,fun _=>hd,Around.frames_deeper e0.frames,.inr ⟨rfl,rfl⟩,fun b z=>absurd z (noA b),e0.bs,e0.bsz,fun b _ _=>noA b,fun b z=>absurd z (noA b),e0.funs,e0.frf⟩,
  rfl,e0.bare,Un.kept hk,⟨_,x.toInCall.ns,fun i y v h1 h2 h3=>?_⟩,fun y c h=>⟨_,x.cell y c h⟩,e0.hok.fresh (Nat.le_refl _),fun y c h=>?_,fun p hp=>absurd (show p∈([]:List (Addr×Obj)) from hp) (by simp),e0.hok.kept hk,?_⟩
 ·exact name_of_addr x.apart (PySem.mem_of_lookup h1) (PySem.mem_of_lookup h2)
 ·have hy:scope.names.lookup y=some .cell∨scope.names.lookup y=some .free:=hy
  rcases hy with hy | hy
  ·exact QI hy
  ·exact absurd rfl (S.nofree _ (PySem.mem_of_lookup hy))
 ·exact Nat.le_of_lt (x.above y c (PySem.mem_of_lookup h))
 ·have hi:i<vs.length:=by
   unfold start at h2
   by_cases hi:i<vs.length
   ·exact hi
   ·rw [List.getElem?_append_right (by simpa using hi)] at h2
    rw [List.getElem?_replicate] at h2
    split at h2<;>cases h2
  have ha:vs[i]?=some v:=by
   unfold start at h2
   rw [List.getElem?_append_left (by simpa using hi),List.getElem?_map] at h2
   cases e:vs[i]? with
   | none=>rw [e] at h2;cases h2
   | some a=>rw [e] at h2;cases h2;rfl
  obtain ⟨u,hu,rv⟩:=r.get ha
  have hp:ps[i]?=some y:=by
   rw [← S.pre,List.getElem?_take_of_lt (by omega)];exact h1
  have ndP:ps.Nodup:=by rw [← S.pre];exact S.nd.sublist (List.take_sublist _ _)
  refine ⟨u,rv,?_⟩
  rcases S.par y (List.mem_of_getElem? hp) with k | k
  ·exact .inl ⟨k,UT ndP hp hu k⟩
  ·obtain ⟨c,e⟩:=QI (n:=s.heap.objs.size+1) k
   refine .inr ⟨.inl k,c,e,?_⟩
   have q:=x.cell y c e
   rw [UU ndP hp hu (by show scope.names.lookup y≠_;rw [k];decide)] at q
   exact q
 ·exact e0.hok.fresh (Nat.le_of_lt (x.above y c (PySem.mem_of_lookup h)))
 ·unfold start
  show _=N.length
  rw [List.length_append,List.length_map,List.length_replicate]
  omega
theorem Ybx {CX:CXT} {P:Program} {w:World} {K:PySem.W.Frag} {mg:Str→Option Value} {base:Heap} {k:Nat} {f:Addr} {name qual:Str} {params:Arguments} {body:List Stmt} {scope:Scope} {dV kV doc pm cdv ct oc:Value} {an od:Option Addr}
  {osl:Array (Option Value)} {N ps:List Str} {sp:Sp} (lk:K.lookup f=some ⟨oc,od,.func (PySem.W.fnOf name qual params body scope dV kV doc pm an cdv ct),osl⟩) (hcd:PySem.W.codeIn K cdv qual=true) (S:FnScope N ps scope)
  (len:∀ vs H Q E,sp vs H Q E→vs.length=ps.length)
  (hbody:∀ (A:Around) (outer:List Env) (s:Shared) (H:Hp) (vs:List V) (Q:VK) (E:XK),Room k (A.deeper (envOfC qual scope s.heap.objs.size f cdv))→sp vs H Q E →
   ∃ t,PSs (Wa CX P w K mg base N qual scope f cdv A outer s H E) body t∧t { nx:=fun _ H'=>Q .non H',rt:=Q } (start N vs) H) :
  FnOk P w K mg base CX (k+1) f (PySem.W.fnOf name qual params body scope dV kV doc pm an cdv ct) ps sp:=by
 refine ⟨len,fun A outer s H args us vs Q E hr e0 hb r hsp=>?_⟩
 have hl:=len _ _ _ _ hsp
 have KX:K.In s.heap:=e0.mod.kin.keeps fun b o e=>(e0.bs b o e).1
 have lim:s.heap.NoLimit:=e0.mod.nolimit.keeps fun b o e=>(e0.bs b o e).1
 have hkind:∀ y∈ps.zip us,scope.names.lookup y.1=some .local∨(scope.names.lookup y.1=some .cell∧((cellsFrom (s.heap.objs.size+1) scope.names []).lookup y.1).isSome=true):=fun ⟨n,v⟩ hy=>by
  rcases S.par n (List.of_mem_zip hy).1 with q | q
  ·exact .inl q
  ·exact .inr ⟨q,PySem.W.cellsFrom_some _ _ _ (.inl q)⟩
 refine codeAny_call_function hr.depth (KX _ _ lk) rfl S.co S.gen rfl (PySem.W.codeRec_of KX hcd) (hb _ _ _ _ ?_)
 refine wpAny_newFunctionEnv_cells S.kind hkind fun env he s1 x=>?_
 subst he
 refine ⟨lim.keeps x.toInCall.keep,codeAny_func ?_⟩
 obtain ⟨t,ht,hq⟩:=hbody A outer s H vs Q E (hr.deeper _) hsp
 have I:Inv (Wa CX P w K mg base N qual scope f cdv A outer s H E) [] (start N vs) H s1:=UV S hr.hd e0 hl r x
 refine wpAny_mono (ht [] s1 (start N vs) H _ I hq) (fun fl s' hs=>?_) fun e s' hs=>hs
 have fin:∀ {σ':St} {H':Hp} {v:V} {u:Value},Inv (Wa CX P w K mg base N qual scope f cdv A outer s H E) [] σ' H' s'→Yv v u→Q v H'→CE outer P w H s Q u s' :=
  fun {σ' H' v u} J rv q=>⟨v,H',J.os,J.bare,J.base,J.hok,rv,q⟩
 cases fl with
 | ret u =>
  obtain ⟨v,σ',H',J,rv,q⟩:=hs
  exact fin J rv q
 | next =>
  obtain ⟨σ',H',J,q⟩:=hs
  exact fin (v:=V.non) (u:=Value.none) J rfl q
 | brk =>
  obtain ⟨_,_,_,q⟩:=hs
  exact False.elim q
 | cont =>
  obtain ⟨_,_,_,q⟩:=hs
  exact False.elim q
end L2
namespace L2
open PySem PySem.Spec PyProof.Rows
section
variable {X:Cx} {x:Str} {p pos:Pos} {e:Expr} {es:List Expr} {t:TA} {id T:String} {r:List V→Hp→VK→Prop}
def tCB (r:List V→Hp→VK→Prop) (t:TA):TE:=fun σ H Q=>t σ H fun vs H1=>r vs H1 Q
theorem YcW (hc:Xm X (.builtin id) r) (hg:Gl X x) (hm:X.mg x=none) (hv:bootBuiltins x=some (.builtin id)) (ha:PA X (e::es) t) (hn:x≠"__name__":=by decide) (hdb:(x==("__debug__":Str))=false:=by decide)
  (he:starEach (e::es) X.env=(false,eval e X.env)::starEach es X.env:=by rfl) (hpl:(backTo pos (starEach es X.env)).any (·.1)=false:=by rfl):PE X (.Call (.Name x p) (e::es) [] pos) (tCB r t):=by
 intro pins s σ H Q I h
 refine wpAny_Call_Name_kw (WN I hg hm hv ?_ hn hdb)
 exact PyProof.Rows.callWith_builtin1 (thn (ha pos pins s σ H _ I h) fun us s1 ⟨vs,H1,I1,r1,q1⟩=>hc pins s1 σ H1 vs us Q I1 r1 q1) he hpl
theorem Ycd (hc:Xm X (.type T) r) (hg:Gl X x) (hm:X.mg x=none) (hv:bootBuiltins x=some (.type T)) (ha:PA X (e::es) t) (hn:x≠"__name__":=by decide) (hdb:(x==("__debug__":Str))=false:=by decide)
  (he:starEach (e::es) X.env=(false,eval e X.env)::starEach es X.env:=by rfl) (hpl:(backTo pos (starEach es X.env)).any (·.1)=false:=by rfl):PE X (.Call (.Name x p) (e::es) [] pos) (tCB r t):=by
 intro pins s σ H Q I h
 refine wpAny_Call_Name_kw (WN I hg hm hv ?_ hn hdb)
 exact PyProof.Rows.callWith_type1 (thn (ha pos pins s σ H _ I h) fun us s1 ⟨vs,H1,I1,r1,q1⟩=>hc pins s1 σ H1 vs us Q I1 r1 q1) he hpl
end
end L2
namespace HT
open PySem PyProof.Rows
section
open PySem.SeqAt
open PySem.AutoSeq1 (wpAny_loadPart')
open PySem.MeetsSeq PySem.MeetsSeq2 PySem.MeetsSeq3
end
section
variable {prog:Program} {w:World} {A:Around} {E:Value→Shared→Prop} {s:Shared}
def sIx (n d:Nat):Option Int→Nat
 | none=>d
 | some v=>if v<0 then (v+(n:Int)).toNat else min v.toNat n
theorem sIx_nat (n d k:Nat):sIx n d (some (k:Int))=min k n:=by
 show (if (k:Int)<0 then ((k:Int)+(n:Int)).toNat else min (k:Int).toNat n)=min k n
 rw [if_neg (by omega),Int.toNat_natCast]
end
end HT
namespace L2
open PySem PySem.Spec PyProof.Rows
abbrev TO:=St→Hp→(Option Int→Hp→Prop)→Prop
def PO (X:Cx) (e:Option Expr) (t:TO):Prop :=
 ∀ (pins:List (Addr×Obj)) (s:Shared) (σ:St) (H:Hp) (Q:Option Int→Hp→Prop),Inv X pins σ H s→t σ H Q →
  wpAny (model X.prog X.w) X.A (evalPart e X.env) (fun u s'=>∃ o H',Inv X pins σ H' s'∧IsPart u o∧Q o H') X.xe s
def YdZ:TO:=fun _ H Q=>Q none H
def YdF (t:TE):TO:=fun σ H Q=>t σ H fun x H1=>∃ i,x = .int i∧Q (some i) H1
theorem V8 {ns:List Int}:∀ {us:List Value},Yl (ns.map V.int) us→IntsAre us ns:=by
 induction ns with
 | nil=>intro us r;rw [List.map_nil] at r;cases r;exact .nil
 | cons n ns ih =>
  intro us r
  rw [List.map_cons] at r
  cases r with
  | cons r1 r2 =>
   obtain ⟨t,e⟩:=r1
   subst e
   exact .cons n t (ih r2)
section
variable {X:Cx} {e:Expr} {te:TE} {lo hi:Option Expr} {tl th:TO} {pos p2:Pos}
theorem YaR (h:PE X e te):PO X (some e) (YdF te):=by
 intro pins s σ H Q I hw
 rw [evalPart_some]
 refine thn (h pins s σ H _ I hw) fun u s1 ⟨x,H1,I1,r1,q1⟩=>?_
 obtain ⟨i,rfl,q⟩:=q1
 obtain ⟨t,rfl⟩:=r1
 exact ⟨some i,H1,I1,.int i t,q⟩
def SlR (X:Cx) (r:V→Option Int→Option Int→Hp→VK→Prop):Prop :=
 ∀ (pins:List (Addr×Obj)) (s:Shared) (σ:St) (H:Hp) (x:V) (v vl vu:Value) (lo hi:Option Int) (sl:Addr) (Q:VK),Inv X pins σ H s→Yv x v→s.heap.IsSliceOf sl vl vu .none→IsPart vl lo→IsPart vu hi→r x lo hi H Q →
  ∃ T id,typeLookup (.type T) "__getitem__"=pure (some (.builtin id))∧s.TypeIs v T∧wpAny (model X.prog X.w) X.A (getItem v (.ref sl)) (EP X pins σ Q) X.xe s
def tSl (r:V→Option Int→Option Int→Hp→VK→Prop) (te:TE) (tl th:TO):TE:=fun σ H Q=>te σ H fun x H1=>tl σ H1 fun l H2=>th σ H2 fun u H3=>r x l u H3 Q
theorem YcX {r:V→Option Int→Option Int→Hp→VK→Prop} (hr:SlR X r) (he:PE X e te) (hl:PO X lo tl) (hu:PO X hi th):PE X (.Subscript e (.Slice lo hi none p2) pos) (tSl r te tl th):=by
 intro pins s σ H Q I h
 refine Subscript_ (thn (he pins s σ H _ I h) fun v s1 ⟨x,H1,I1,r1,q1⟩=>?_)
 refine wpAny_Slice (thn (hl pins s1 σ H1 _ I1 q1) fun vl s2 ⟨l,H2,I2,pl,q2⟩=>thn (hu pins s2 σ H2 _ I2 q2) fun vu s3 ⟨u,H3,I3,pu,q3⟩=>?_)
 rw [evalPart_none]
 refine wpAny_pure ?_
 have I4:Inv X pins σ H3 { s3 with heap:=s3.heap.push { cls := .type "slice",data := .fields #[vl,vu,.none] } }:=I3.kept (t':=s3.toks) fun b ob q=>Heap.get?_push_of_some _ q
 obtain ⟨T,id,hT,ht,hg⟩:=hr pins { s3 with heap:=s3.heap.push { cls := .type "slice",data := .fields #[vl,vu,.none] } } σ H3 x v vl vu l u s3.heap.objs.size Q I4 r1 (Heap.IsSliceOf.new ..) pl pu q3
 show wpAny (model X.prog X.w) X.A (subscriptTail e (.Slice lo hi none p2) v (.ref s3.heap.objs.size)) (EP X pins σ Q) X.xe { s3 with heap:=s3.heap.push { cls := .type "slice",data := .fields #[vl,vu,.none] } }
 exact tail_any (ops:=[.ref s3.heap.objs.size,v]) ht hT hg (by with_unfolding_all rfl)
def Uw (xs:List V) (lo hi:Option Int):List V:=(xs.drop (HT.sIx xs.length 0 lo)).take (HT.sIx xs.length xs.length hi - HT.sIx xs.length 0 lo)
theorem Yay (xs:List V) (lo hi:Option Int):(Uw xs lo hi).length≤xs.length:=by
 unfold Uw
 rw [List.length_take,List.length_drop]
 omega
end
end L2
namespace L2
open PySem PySem.Spec PyProof.Rows
def ixN (n:Nat) (i:Int):Option Nat:=if 0≤i then (if i<n then some i.toNat else none) else if -(n:Int)≤i then some (i+n).toNat else none
def atI {α:Type} (xs:List α) (i:Int):Option α:=(ixN xs.length i).bind fun j=>xs[j]?
theorem YaS {n:Nat} {i:Int} {j:Nat} (h:ixN n i=some j):seqIndex? i n=some j∧j<n ∧ -(n:Int)≤i∧i<n:=by
 unfold ixN at h
 by_cases h0:0≤i
 ·rw [if_pos h0] at h
  by_cases h1:i<n
  ·rw [if_pos h1] at h
   have e:i.toNat=j:=Option.some.inj h
   exact ⟨by rw [seqIndex_of h0 h1,e],by omega,by omega,h1⟩
  ·rw [if_neg h1] at h;cases h
 ·rw [if_neg h0] at h
  by_cases h1 : -(n:Int)≤i
  ·rw [if_pos h1] at h
   have e:(i+n).toNat=j:=Option.some.inj h
   exact ⟨by rw [seqIndex_neg (by omega) h1,e],by omega,h1,by omega⟩
  ·rw [if_neg h1] at h;cases h
theorem Ux {α:Type} {xs:List α} {i:Int} {v:α} (h:atI xs i=some v):∃ j,seqIndex? i xs.length=some j∧xs[j]?=some v∧j<xs.length ∧ -(xs.length:Int)≤i∧i<xs.length:=by
 unfold atI at h
 cases e:ixN xs.length i with
 | none=>rw [e] at h;cases h
 | some j =>
  rw [e] at h
  obtain ⟨h1,h2,h3,h4⟩:=YaS e
  exact ⟨j,h1,h,h2,h3,h4⟩
theorem XJ {α:Type} {xs:List α} {j:Nat} {v:α} (h:xs[j]?=some v):atI xs (j:Int)=some v:=by
 have hj:j<xs.length:=(List.getElem?_eq_some_iff.mp h).1
 have e:ixN xs.length (j:Int)=some j:=by
  unfold ixN
  rw [if_pos (by omega),if_pos (by omega)];simp
 unfold atI;rw [e];exact h
def Yd0 (b:Expr):Prop:=∀ o i,subscripted b false o i=operate [o,i] (getItem o i)
def IxR (X:Cx) (r:R2):Prop :=
 ∀ (value slice:Expr) (pins:List (Addr×Obj)) (s:Shared) (σ:St) (H:Hp) (x y:V) (v u:Value) (Q:VK),Inv X pins σ H s→Yv x v→Yv y u→r x y H Q →
  subscripted slice false v u=operate [v,u] (getItem v u)→wpAny (model X.prog X.w) X.A (subscriptTail value slice v u) (EP X pins σ Q) X.xe s
def MtR (X:Cx) (id:String) (r:V→List V→Hp→VK→Prop):Prop :=
 ∀ (pins:List (Addr×Obj)) (s:Shared) (σ:St) (H:Hp) (x:V) (xs:List V) (v:Value) (us:List Value) (Q:VK),Inv X pins σ H s→Yv x v→Yl xs us→r x xs H Q →
  wpAny (model X.prog X.w) X.A (call (.builtin id) (v::us)) (EP X pins σ Q) X.xe s
section
variable {X:Cx} {a b:Expr} {ta tb:TE} {pos:Pos}
theorem YC {r:R2} (hr:IxR X r) (ha:PE X a ta) (hb:PE X b tb) (hs:Yd0 b):PE X (.Subscript a b pos) (tOp r ta tb):=by
 intro pins s σ H Q I h
 exact Subscript_ (binT ha hb I h fun v u s2 x y H2 I2 rx ry q=>hr a b pins s2 σ H2 x y v u Q I2 rx ry q (hs _ _))
def Yby (K:PySem.W.Frag):R2:=fun x y H Q=>∃ p xs i v,x = .ref p∧y = .int i∧SqL K H p xs∧atI xs i=some v∧Q v H
def Ybz (K:PySem.W.Frag):R2:=fun x y H Q=>∃ p xs i v,x = .ref p∧y = .int i∧SqT K H p xs∧atI xs i=some v∧Q v H
def rIxS:R2:=fun x y H Q=>∃ z i c,x = .str z∧y = .int i∧z.length≤sizeLine∧atI z.cps.toList i=some c∧Q (.str ⟨#[c]⟩) H
theorem Xd:IxR X (Yby X.K):=by
 intro value slice pins s σ H x y v u Q I rx ry h hs
 obtain ⟨p,xs,i,z,rfl,rfl,hq,he,q⟩:=h
 cases rx
 obtain ⟨t,rfl⟩:=ry
 obtain ⟨its,r,pl,hz⟩:=I.list hq
 obtain ⟨j,h1,h2,h3,h4,h5⟩:=Ux he
 obtain ⟨w,ew,rw'⟩:=r.get h2
 have hl:=r.length
 have hn:=WP
 have fin:EP X pins σ Q w s:=⟨z,H,I,rw',q⟩
 by_cases h0:0≤i
 ·have hj:i.toNat=j:=by
   rw [seqIndex_of h0 h5] at h1
   exact Option.some.inj h1
  exact item_listR pl.isList h0 (by omega) (by rw [hj];simpa using ew) fin hs
 ·have hj:(i+(its.toArray.size:Int)).toNat=j:=by
   rw [seqIndex_neg (by omega) h4] at h1
   rw [List.size_toArray,← hl]
   exact Option.some.inj h1
  exact subscriptTail_builtinR (x:=w) pl.isList.typeIs slot_list_getitem.lookup
   (wpAny_getItem_list_neg (Q:=fun r s'=>r=w∧EP X pins σ Q r s') pl.isList (by omega) (by rw [List.size_toArray]<;>omega) (by omega) (by rw [hj];simpa using ew) ⟨rfl,fin⟩) hs
theorem YO:IxR X (Ybz X.K):=by
 intro value slice pins s σ H x y v u Q I rx ry h hs
 obtain ⟨p,xs,i,z,rfl,rfl,hq,he,q⟩:=h
 cases rx
 obtain ⟨t,rfl⟩:=ry
 obtain ⟨its,r,pl,hz⟩:=I.tuple hq
 obtain ⟨j,h1,h2,h3,h4,h5⟩:=Ux he
 obtain ⟨w,ew,rw'⟩:=r.get h2
 have hl:=r.length
 have hn:=WP
 have fin:EP X pins σ Q w s:=⟨z,H,I,rw',q⟩
 exact subscriptTail_builtinR (x:=w) pl.typeIs slot_tuple_getitem.lookup
  (getItem_tuple (j:=j) (Q:=fun r s'=>r=w∧EP X pins σ Q r s') pl (by omega) (by omega) (by rw [List.size_toArray,← hl];exact h1) (by simpa using ew) ⟨rfl,fin⟩) hs
theorem YeF:IxR X rIxS:=by
 intro value slice pins s σ H x y v u Q I rx ry h hs
 obtain ⟨z,i,c,rfl,rfl,hz,he,q⟩:=h
 obtain ⟨t,rfl⟩:=rx
 obtain ⟨t',rfl⟩:=ry
 obtain ⟨j,h1,h2,h3,h4,h5⟩:=Ux he
 have hl:z.cps.toList.length=z.length:=by simp [Str.length]
 rw [hl] at h1 h4 h5
 have hn:=WP
 exact tail_any (typeIs_str s z t) slot_str_getitem.lookup (getItem_str (c:=c) (by
  have e1:decide (i < -(2^63:Int))=false:=decide_eq_false (by omega)
  have e2:decide (i≥2^63)=false:=decide_eq_false (by omega)
  rw [e1,e2,Bool.or_false]) (by rw [h1];simpa using h2) ⟨.str ⟨#[c]⟩,H,I.tok _,⟨_,rfl⟩,q⟩) hs
theorem YbA (its:List Value) (n j:Nat) (u:Value):Obj.mapSeq (·.setIfInBounds j u) { cls := .type "list",data := .seq its.toArray n }={ cls := .type "list",data := .seq (its.set j u).toArray n }:=by
 simp [Obj.mapSeq]
theorem Inv.lst {pins:List (Addr×Obj)} {σ:St} {H:Hp} {s:Shared} {p:Addr} {xs:List V} (I:Inv X pins σ H s) (h:H p=some (.lst xs)) :
  ∃ (its:List Value) (n:Nat),Yl xs its∧s.heap.get? p=some { cls := .type "list",data := .seq its.toArray n }∧xs.length≤sizeLine:=by
 obtain ⟨z,its,n,r,e⟩:=I.hok p _ h
 exact ⟨its,n,r,e,z⟩
theorem Inv.lstUpd {pins:List (Addr×Obj)} {σ:St} {H:Hp} {s:Shared} {p:Addr} {xs ys:List V} {its its':List Value} {n n':Nat} {f:Obj→Obj} (I:Inv X pins σ H s) (h:H p=some (.lst xs))
  (ho:s.heap.get? p=some { cls := .type "list",data := .seq its.toArray n }) (hf:f { cls := .type "list",data := .seq its.toArray n }={ cls := .type "list",data := .seq its'.toArray n' }) (r:Yl ys its') (hz:ys.length≤sizeLine) (t:Nat) :
  Inv X pins σ (upd H p (.lst ys)) { s with heap:=s.heap.update p f,toks:=t }:=by
 have e:(s.heap.update p f).get? p=some { cls := .type "list",data := .seq its'.toArray n' }:=by
  rw [Heap.get?_update_self f ho (by rw [hf]<;>rfl),hf]
 refine I.write (x:=p) (e:=p) (by rw [h];trivial) (.inl rfl) (fun b u hb q=>(Heap.get?_update_other _ _ (Ne.symm hb)).trans q) ⟨_,e⟩ ?_
 exact ⟨hz,its',n',r,e⟩
def YdG:V→V→V→Hp→(Hp→Prop)→Prop:=fun o i v H Q=>∃ p xs k j,o = .ref p∧i = .int k∧H p=some (.lst xs)∧ixN xs.length k=some j∧Q (upd H p (.lst (xs.set j v)))
theorem YcY:PSet X YdG:=by
 intro pins s σ H o i v ov iv u Q I ro ri rv h
 obtain ⟨p,xs,k,j,rfl,rfl,hp,hj,q⟩:=h
 cases ro
 obtain ⟨t,rfl⟩:=ri
 obtain ⟨its,n,r,ho,hz⟩:=I.lst hp
 obtain ⟨h1,h2,h3,h4⟩:=YaS hj
 have hl:=r.length
 have hn:=WP
 have I':Inv X pins σ (upd H p (.lst (xs.set j v))) { s with heap:=s.heap.update p (Obj.mapSeq (·.setIfInBounds j u)) } :=
  I.lstUpd hp ho (YbA its n j u) (r.set rv j) (by rw [List.length_set];exact hz) s.toks
 by_cases h0:0≤k
 ·have hk:k.toNat=j:=by
   rw [seqIndex_of h0 h4] at h1
   exact Option.some.inj h1
  exact PySem.W.ki_setAt ho h0 (by omega) (by rw [List.size_toArray,← hl];exact h4) (by rw [hk];exact ⟨_,I',q⟩)
 ·have hk:(k+(its.toArray.size:Int)).toNat=j:=by
   rw [seqIndex_neg (by omega) h3] at h1
   rw [List.size_toArray,← hl]
   exact Option.some.inj h1
  exact PySem.W.ki_setBack ho (by omega) (by rw [List.size_toArray,← hl];exact h3) (by omega) (by rw [hk];exact ⟨_,I',q⟩)
theorem QJ (lo hi:Option Int) (n:Nat):(sliceBounds lo hi none n).1=((HT.sIx n 0 lo:Nat):Int)∧(sliceBounds lo hi none n).2.1=((HT.sIx n n hi:Nat):Int)∧(sliceBounds lo hi none n).2.2=1:=by
 refine ⟨?_,?_,rfl⟩
 ·cases lo with
  | none=>simp [sliceBounds,HT.sIx]
  | some i =>
   simp only [sliceBounds,HT.sIx,Option.getD_none,show (1:Int)>0 by decide,if_true]
   by_cases h:i<0
   ·simp only [h,if_true]<;>omega
   ·simp only [h,if_false]<;>omega
 ·cases hi with
  | none=>simp [sliceBounds,HT.sIx]
  | some i =>
   simp only [sliceBounds,HT.sIx,Option.getD_none,show (1:Int)>0 by decide,if_true]
   by_cases h:i<0
   ·simp only [h,if_true]<;>omega
   ·simp only [h,if_false]<;>omega
theorem Qg (its:List Value) (lo hi:Option Int):slicePick its.toArray lo hi none=((its.drop (HT.sIx its.length 0 lo)).take (HT.sIx its.length its.length hi - HT.sIx its.length 0 lo)).toArray:=by
 obtain ⟨h1,h2,h3⟩:=QJ lo hi its.toArray.size
 unfold slicePick
 rw [h1,h2,h3]
 simp only [sliceRange_one,pick_run,List.size_toArray]<;>rfl
def rSlL (K:PySem.W.Frag):V→Option Int→Option Int→Hp→VK→Prop:=fun x lo hi H Q=>∃ a xs,x = .ref a∧SqL K H a xs∧∀ p,H p=none→Q (.ref p) (upd H p (.lst (Uw xs lo hi)))
theorem Yd1:SlR X (rSlL X.K):=by
 intro pins s σ H x v vl vu lo hi sl Q I rx hs pl pu h
 obtain ⟨a,xs,rfl,hx,q⟩:=h
 cases rx
 obtain ⟨its,r,ht,hz⟩:=I.list hx
 have hlen:=r.length
 refine ⟨"list",_,slot_list_getitem.lookup,ht.isList.typeIs,?_⟩
 refine wpAny_getItem_list_slice ht.isList hs pl pu .none (by simp) ?_ (by rw [List.size_toArray]<;>omega)
 rw [Qg,← hlen]
 refine ⟨.ref s.heap.objs.size,_,I.laid (t':=s.toks) (o := .lst (Uw xs lo hi)) (fun b ob q=>Heap.get?_push_of_some _ q) (Nat.le_refl _) ?_,rfl,q _ (I.hok.fresh (Nat.le_refl _))⟩
 exact ⟨Nat.le_trans (Yay xs lo hi) hz,_,0,(r.drop (HT.sIx xs.length 0 lo)).take (HT.sIx xs.length xs.length hi - HT.sIx xs.length 0 lo),Heap.get?_push_size _ rfl⟩
def YdH:V→Bool
 | .non=>true
 | .bl _=>true
 | .int _=>true
 | .str _=>true
 | _=>false
def eqV:V→V→Bool
 | .non,.non=>true
 | .bl a,.bl b=>a==b
 | .bl a,.int b=>(if a then 1 else 0)==b
 | .int a,.bl b=>a==(if b then 1 else 0)
 | .int a,.int b=>a==b
 | .str a,.str b=>a==b
 | _,_=>false
def inV (x:V) (xs:List V):Bool:=xs.any fun y=>eqV y x
def rIn (K:PySem.W.Frag) (neg:Bool):R2:=fun x y H Q=>∃ p xs,y = .ref p∧(SqL K H p xs∨SqT K H p xs)∧YdH x=true∧xs.all YdH=true∧Q (.bl (if neg then !inV x xs else inV x xs)) H
theorem Y5:Xm X (.builtin "len") (fun xs H Q=>∃ p ys,xs=[.ref p]∧(SqL X.K H p ys∨SqT X.K H p ys)∧Q (.int ys.length) H):=by
 intro pins s σ H xs us Q I r h
 obtain ⟨p,ys,rfl,hq,q⟩:=h
 obtain ⟨u,rfl,rx⟩:=Ws r
 cases rx
 have hn:=WP
 rcases hq with hq | hq
 ·obtain ⟨its,r',pl,hz⟩:=I.list hq
  have hlen:=r'.length
  exact Calls.call_len_list pl.isList (by simp only [List.size_toArray]<;>omega) ⟨.int ys.length,H,I.tok _,⟨s.toks+1,by rw [List.size_toArray,hlen]⟩,q⟩
 ·obtain ⟨its,r',pl,hz⟩:=I.tuple hq
  have hlen:=r'.length
  exact len_tuple pl (by simp only [List.size_toArray]<;>omega) ⟨.int ys.length,H,I.tok _,⟨s.toks+1,by rw [List.size_toArray,hlen]⟩,q⟩
theorem QK:Xm X (.builtin "len") (fun xs H Q=>∃ z,xs=[.str z]∧z.length≤sizeLine∧Q (.int z.length) H):=by
 intro pins s σ H xs us Q I r h
 obtain ⟨z,rfl,hz,q⟩:=h
 obtain ⟨u,rfl,t,rfl⟩:=Ws r
 have hn:=WP
 exact len_str (by omega) ⟨.int z.length,H,I.tok _,⟨_,rfl⟩,q⟩
theorem QL:Xm X (.type "list") (fun xs H Q=>∃ p ys,xs=[.ref p]∧(SqL X.K H p ys∨SqT X.K H p ys)∧∀ l,H l=none→Q (.ref l) (upd H l (.lst ys))):=by
 intro pins s σ H xs us Q I r h
 obtain ⟨p,ys,rfl,hq,q⟩:=h
 obtain ⟨u,rfl,rx⟩:=Ws r
 cases rx
 have fin:∀ (its:List Value),Yl ys its→ys.length≤sizeLine→∀ (h':Heap) (c':Nat),(∀ b o',s.heap.get? b=some o'→h'.get? b=some o') →
   h'.get? s.heap.objs.size=some { cls := .type "list",dict:=none,data := .seq its.toArray c',slots:=#[] }→EP X pins σ Q (.ref s.heap.objs.size) { s with heap:=h' }:=fun its r' hz h' c' kp e =>
  ⟨.ref s.heap.objs.size,_,I.laid (t':=s.toks) kp (Nat.le_refl _) (show YK X.prog X.w _ h' _ (.lst ys) from ⟨hz,its,c',r',e⟩),rfl,q _ (I.hok.fresh (Nat.le_refl _))⟩
 rcases hq with hq | hq
 ·obtain ⟨its,r',pl,hz⟩:=I.list hq
  have hlen:=r'.length
  obtain ⟨o,ho,hc,n,hd⟩:=pl.isList
  exact call_list_seq p (.inl rfl) ho hc hd (fun h' c' kp e=>fin its r' hz h' c' kp e) (by simp only [List.size_toArray]<;>omega)
 ·obtain ⟨its,r',pl,hz⟩:=I.tuple hq
  have hlen:=r'.length
  obtain ⟨o,ho,hc,n,hd⟩:=pl
  exact call_list_seq p (.inr rfl) ho hc hd (fun h' c' kp e=>fin its r' hz h' c' kp e) (by simp only [List.size_toArray]<;>omega)
theorem XT:Xm X (.type "tuple") (fun xs H Q=>∃ p ys,xs=[.ref p]∧((SqL X.K H p ys∧∀ l,H l=none→Q (.ref l) (upd H l (.tup ys)))∨(SqT X.K H p ys∧Q (.ref p) H))):=by
 intro pins s σ H xs us Q I r h
 obtain ⟨p,ys,rfl,h⟩:=h
 obtain ⟨u,rfl,rx⟩:=Ws r
 cases rx
 rcases h with ⟨hq,q⟩ | ⟨hq,q⟩
 ·obtain ⟨its,r',pl,hz⟩:=I.list hq
  have hlen:=r'.length
  refine call_tuple_list pl.isList (fun h' kp=>?_) (by simp only [List.size_toArray]<;>omega)
  have I1:Inv X pins σ H { s with heap:=h' }:=I.kept (t':=s.toks) kp
  have I2:Inv X pins σ (upd H h'.objs.size (.tup ys)) { s with heap:=h'.push { cls := .type "tuple",data := .seq its.toArray } } :=
   I1.laid (t':=s.toks) (fun b o e=>Heap.get?_push_of_some _ e) (Nat.le_refl _) (show YK X.prog X.w _ _ _ (.tup ys) from ⟨hz,its,r',IsTup.new _ _⟩)
  exact ⟨.ref h'.objs.size,_,I2,rfl,q _ (I1.hok.fresh (Nat.le_refl _))⟩
 ·obtain ⟨its,r',pl,hz⟩:=I.tuple hq
  exact call_tuple_same pl ⟨.ref p,H,I,rfl,q⟩
def tyV (K:PySem.W.Frag) (T:String) (x:V) (H:Hp):Prop:=match x with
 | .str _=>T="str"
 | .int _=>T="int"
 | .ref p=>(T="list"∧∃ xs,SqL K H p xs)∨(T="tuple"∧∃ o,K.lookup p=some o∧o.cls = .type "tuple"∧o.dict=none) ∨
   (T="dict"∧((∃ kvs,H p=some (.dK kvs))∨∃ kvs,H p=some (.dT kvs)))∨(T="set"∧∃ S n,H p=some (.set S n))
 | _=>False
theorem YeG {pins:List (Addr×Obj)} {σ:St} {H:Hp} {s:Shared} {T:String} {x:V} {v:Value} (I:Inv X pins σ H s) (r:Yv x v) (ty:tyV X.K T x H) :
  s.TypeIs v T∧∀ a,v = .ref a→∃ ob,s.heap.get? a=some ob∧ob.dict=none:=by
 cases x with
 | str z =>
  obtain ⟨t,rfl⟩:=r
  cases (show T="str" from ty)
  exact ⟨typeIs_str s z t,fun _ e=>nomatch e⟩
 | int i =>
  obtain ⟨t,rfl⟩:=r
  cases (show T="int" from ty)
  exact ⟨typeIs_int s i t,fun _ e=>nomatch e⟩
 | ref p =>
  cases r
  rcases ty with ⟨rfl,xs,hq⟩ | ⟨rfl,o,hk,hc,hd⟩ | ⟨rfl,hk⟩ | ⟨rfl,S,n,hk⟩
  ·obtain ⟨its,_,pl,_⟩:=I.list hq
   refine ⟨pl.isList.typeIs,fun a e=>?_⟩
   cases e
   obtain ⟨o,n,e,c,hd,_⟩:=pl
   exact ⟨o,e,hd⟩
  ·refine ⟨⟨o,I.kIn p o hk,hc⟩,fun a e=>?_⟩
   cases e
   exact ⟨o,I.kIn _ o hk,hd⟩
  ·have z:∃ o,s.heap.get? p=some o∧o.ExactDict:=by
    rcases hk with ⟨kvs,hk⟩ | ⟨kvs,hk⟩
    ·obtain ⟨_,_,_,_,o,_,_,e,ex,_⟩:=I.hok p _ hk
     exact ⟨o,e,ex⟩
    ·obtain ⟨_,_,_,_,o,_,_,e,ex,_⟩:=I.hok p _ hk
     exact ⟨o,e,ex⟩
   obtain ⟨o,e,ex⟩:=z
   refine ⟨⟨o,e,ex.1⟩,fun a e2=>?_⟩
   cases e2
   exact ⟨o,e,ex.2.1⟩
  ·obtain ⟨o,_,_,_,e,ex,_⟩:=I.hok p _ hk
   refine ⟨⟨o,e,ex.1⟩,fun a e2=>?_⟩
   cases e2
   exact ⟨o,e,ex.2.1⟩
 | _=>exact False.elim ty
def tBM0 (K:PySem.W.Frag) (T:String) (r:V→List V→Hp→VK→Prop) (to:TE):TE:=fun σ H Q=>to σ H fun x H1=>tyV K T x H1∧r x [] H1 Q
def tBM (K:PySem.W.Frag) (T:String) (r:V→List V→Hp→VK→Prop) (to:TE) (t:TA):TE:=fun σ H Q=>to σ H fun x H1=>tyV K T x H1∧t σ H1 fun xs H2=>r x xs H2 Q
variable {o e:Expr} {es:List Expr} {to:TE} {t:TA} {name:Str} {apos cpos:Pos} {T id:String} {r:V→List V→Hp→VK→Prop}
theorem YdI (pa:PlainAttrs T) (slot:Slot T name id) (hty:typeOf (.builtin id)=pure (.type "method_descriptor")) (hm:MtR X id r) (ho:PE X o to) (ha:PA X (e::es) t)
  (hbase:attributeBase o name X.env (eval o X.env)=eval o X.env)
  (hfew:((backTo cpos (starEach (e::es) X.env)).all (fun x => !x.1)&&(backToKw cpos (keywordEach [] X.env)).all (fun x=>x.1.isSome)
   && decide ((e::es).length+([]:List Keyword).length+(if ([]:List Keyword).isEmpty then 0 else 1)<30))=true)
  (hline:(apos.endLine==cpos.line)=true) (hs:starEach (e::es) X.env=(false,eval e X.env)::starEach es X.env) (hplain:(backTo cpos (starEach es X.env)).any (·.1)=false) :
  PE X (.Call (.Attribute o name apos) (e::es) [] cpos) (tBM X.K T r to t):=by
 intro pins s σ H Q I h
 refine wpAny_Call_method_late hbase hfew hline rfl (thn (ho pins s σ H _ I h) fun v s1 ⟨x,H1,I1,r1,ty,q1⟩=>?_)
 obtain ⟨h1,h2⟩:=YeG I1 r1 ty
 refine ⟨T,id,pa,slot,hty,h1,h2,?_⟩
 have hA:=ha cpos pins s1 σ H1 _ I1 q1
 rw [hs] at hA ⊢
 refine Calls.callWith_builtin (by show (false||(backTo cpos (starEach es X.env)).any (·.1))=false;rw [hplain]<;>rfl) (Calls.evalArgs_plain ?_)
 exact thn hA fun us s2 ⟨vs,H2,I2,r2,q2⟩=>hm pins s2 σ H2 x vs v us Q I2 r1 r2 q2
/- xs.append(e),list.index on a module's tuple .. are MtR facts of 06m -/
end
end L2
namespace L2
open PySem PySem.Spec PyProof.Rows
def MtM (X:Cx) (id:String) (r:V→List V→Hp→VK→Prop):Prop :=
 ∀ (pins:List (Addr×Obj)) (s:Shared) (σ:St) (H:Hp) (x:V) (xs:List V) (v:Value) (us:List Value) (Q:VK),Inv X pins σ H s→Yv x v→Yl xs us→r x xs H Q →
  wpAny (model X.prog X.w) X.A (call (.builtin id) (v::us)) (EP X pins σ Q) X.xe s
theorem Yl.one:∀ {x:V} {us:List Value},Yl [x] us→∃ u,us=[u]∧Yv x u
 | _,_,.cons r .nil=>⟨_,rfl,r⟩
theorem Yl.two:∀ {x y:V} {us:List Value},Yl [x,y] us→∃ u v,us=[u,v]∧Yv x u∧Yv y v
 | _,_,_,.cons r (.cons q .nil)=>⟨_,_,rfl,r,q⟩
theorem Yl.zero:∀ {us:List Value},Yl [] us→us=[]
 | _,.nil=>rfl
theorem Yl.eraseIdx:∀ {xs:List V} {us:List Value} (i:Nat),Yl xs us→Yl (xs.eraseIdx i) (us.eraseIdx i)
 | _,_,_,.nil => .nil
 | _,_,0,.cons _ t=>t
 | _,_,i+1,.cons r t => .cons r (Yl.eraseIdx i t)
theorem Yl.reverse {xs:List V} {us:List Value} (h:Yl xs us):Yl xs.reverse us.reverse:=by
 induction h with
 | nil=>exact .nil
 | cons r t ih=>rw [List.reverse_cons,List.reverse_cons];exact Yl.append ih (.cons r .nil)
theorem UW {α:Type}:∀ (l:List α) (i:Nat),(l.eraseIdx i).length≤l.length
 | [],_=>Nat.le_refl _
 | _::_,0=>Nat.le_succ _
 | _::r,i+1=>Nat.succ_le_succ (UW r i)
section
variable {X:Cx} {pins:List (Addr×Obj)} {σ:St} {H:Hp} {s:Shared} {l b:Addr} {xs ys zs:List V}
theorem Inv.lset {its its':List Value} {n:Nat} {f:Array Value→Array Value} {t':Nat} (I:Inv X pins σ H s) (hH:H l=some (.lst xs))
  (e:s.heap.get? l=some { cls := .type "list",data := .seq its.toArray n }) (hf:f its.toArray=its'.toArray) (hv:Yl ys its') (hz:ys.length≤sizeLine) :
  Inv X pins σ (upd H l (.lst ys)) { s with heap:=s.heap.update l (Obj.mapSeq f),toks:=t' }:=by
 have q:=PySem.IsL.update e f
 rw [hf] at q
 refine I.write (x:=l) (e:=l) (by rw [hH];exact trivial) (.inl rfl) (fun b' u hb hu=>(Heap.get?_update_other s.heap (Obj.mapSeq f) (Ne.symm hb)).trans hu) ⟨_,q⟩ ?_
 exact ⟨hz,its',_,hv,q⟩
theorem Inv.lnew {its:List Value} {t':Nat} (I:Inv X pins σ H s) (hv:Yl ys its) (hz:ys.length≤sizeLine) :
  Inv X pins σ (upd H s.heap.objs.size (.lst ys)) { s with heap:=s.heap.push { cls := .type "list",data := .seq its.toArray },toks:=t' } :=
 I.laid (fun _ _ q=>Heap.get?_push_of_some _ q) (Nat.le_refl _) ⟨hz,its,0,hv,Heap.get?_push_size _ rfl⟩
theorem Inv.fresh (I:Inv X pins σ H s):H s.heap.objs.size=none:=I.hok.fresh (Nat.le_refl _)
theorem Inv.lstM (I:Inv X pins σ H s) (hH:H l=some (.lst xs)):xs.length≤sizeLine∧∃ (its:List Value) (n:Nat),Yl xs its∧xs.length=its.length∧s.heap.get? l=some { cls := .type "list",data := .seq its.toArray n }:=by
 obtain ⟨z,its,n,r,e⟩:=I.hok l _ hH
 exact ⟨z,its,n,r,r.length,e⟩
end
section
variable {X:Cx}
def YaT:V→List V→Hp→VK→Prop:=fun x vs H Q=>∃ l xs y,x = .ref l∧vs=[y]∧H l=some (.lst xs)∧xs.length<sizeLine∧Q .non (upd H l (.lst (xs++[y])))
theorem UX:MtM X "list.append" YaT:=by
 intro pins s σ H x vs v us Q I rx rv h
 obtain ⟨l,xs,y,rfl,rfl,hH,hz,q⟩:=h
 cases rx
 obtain ⟨u,rfl,ru⟩:=rv.one
 obtain ⟨z,its,n,r,hl,e⟩:=I.lstM hH
 refine call_meets F.slot_list_append ⟨_,e,rfl⟩ F.entry_list_append (F.args_list_append_2 _ _) (PySem.list_append l its.toArray n u (by rw [List.size_toArray];omega)) ⟨e,?_⟩
 refine ⟨.non,_,I.lset (its':=its++[u]) hH e (by simp) (r.append (.cons ru .nil)) ?_,rfl,q⟩
 rw [List.length_append,List.length_singleton]
 omega
def YeH:V→List V→Hp→VK→Prop:=fun x vs H Q=>∃ l xs i k y,x = .ref l∧vs=[.int i]∧H l=some (.lst xs) ∧ -(2^63)≤i∧i<2^63∧seqIndex? i xs.length=some k∧xs[k]?=some y∧Q y (upd H l (.lst (xs.eraseIdx k)))
theorem YcZ:MtM X "list.pop" YeH:=by
 intro pins s σ H x vs v us Q I rx rv h
 obtain ⟨l,xs,i,k,y,rfl,rfl,hH,h1,h2,hk,hy,q⟩:=h
 cases rx
 obtain ⟨u,rfl,ru⟩:=rv.one
 obtain ⟨t,rfl⟩:=ru
 obtain ⟨z,its,n,r,hl,e⟩:=I.lstM hH
 obtain ⟨w,hw,rw'⟩:=r.get hy
 refine call_meets F.slot_list_pop ⟨_,e,rfl⟩ F.entry_list_pop (F.args_list_pop_2 _ _)
  (MeetsSeq.list_pop_at l its.toArray n i t k w (fitsIndex_both h1 h2) (by rw [List.size_toArray,← hl];exact hk) (by rw [← Array.getElem?_toList];exact hw) (by rw [List.size_toArray];omega)) ⟨e,?_⟩
 refine ⟨y,_,I.lset (its':=its.eraseIdx k) hH e ?_ (r.eraseIdx k) ?_,rw',q⟩
 ·show its.toArray.eraseIdxIfInBounds k=(its.eraseIdx k).toArray
  rw [List.eraseIdxIfInBounds_toArray]
 ·have:=UW xs k
  omega
def Yc0:V→List V→Hp→VK→Prop:=fun x vs H Q=>∃ l xs,x = .ref l∧vs=[]∧H l=some (.lst xs)∧Q .non (upd H l (.lst xs.reverse))
def rCat:R2:=fun x y H Q=>∃ l b xs zs,x = .ref l∧y = .ref b∧H l=some (.lst xs)∧H b=some (.lst zs)∧xs.length+zs.length≤sizeLine∧∀ p,H p=none→Q (.ref p) (upd H p (.lst (xs++zs)))
theorem YeI:OpR X (binaryOp .Add) rCat:=by
 intro pins s σ H x y v u Q I rx ry h
 obtain ⟨l,b,xs,zs,rfl,rfl,hH,hB,hz,q⟩:=h
 cases rx
 cases ry
 obtain ⟨z,its,n,r,hl,e⟩:=I.lstM hH
 obtain ⟨z2,its2,n2,r2,hl2,e2⟩:=I.lstM hB
 refine PySem.P.add_list e e2 ?_ (by rw [List.size_toArray,List.size_toArray];omega)
 have ea:its.toArray++its2.toArray=(its++its2).toArray:=by simp
 rw [ea]
 exact ⟨.ref _,_,I.lnew (t':=s.toks) (r.append r2) (by rw [List.length_append];omega),rfl,q _ I.fresh⟩
end
section
variable {prog:Program} {w:World} {A:Around} {E:Value→Shared→Prop} {s:Shared}
end
section
variable {X:Cx}
end
end L2
namespace Att
open PySem PySem.W PySem.Calls PyProof.Rows
theorem V9 {P:Params} {h:Heap}:∀ (ns:List Int) (vs:List Value),WellAll P h vs (ns.map WData.int)→IntsAre vs ns:=by
 intro ns
 induction ns with
 | nil =>
  intro vs w
  rw [List.map_nil] at w
  cases w
  exact .nil
 | cons n ns ih =>
  intro vs w
  rw [List.map_cons] at w
  cases w with
  | cons a b =>
   cases a
   exact .cons _ _ (ih _ b)
theorem Yce {l:OpenLaw} {n:Nat} (hn:l.most=some n) {P:Params} {h:Heap} {args:List WData} {vals:List Value}
  (hpre:l.row.toRowW.claim.pre args=true) (hwl:WellAll P h vals args) :
  ∃ a vs ns,vals=[Value.ref a]∧args=[WData.list (ns.map WData.int)]∧h.get? a=some { cls := .type "list",data := .seq vs.toArray }∧IntsAre vs ns∧ns.length≤n:=by
 have hsh:WShape.hasAll [] args [.list .int]=true:=(pre_splitW hpre).1
 have hc:l.pre.holds [] { args:=args }=true:=(pre_splitW hpre).2
 obtain ⟨d,r,rfl,h1,h2⟩:=hasAllW_cons hsh
 obtain rfl:=hasAllW_nil h2
 obtain ⟨xs,rfl,h3⟩:=hasW_list h1
 obtain ⟨ns,rfl⟩:=items_int h3
 have hlen:ns.length≤n:=by
  unfold OpenLaw.pre at hc
  have h4:(WTm.not (.lt (.lit (.int (n:Int))) (.len (.arg 0)))).holds [] { args:=[.list (ns.map .int)] }=true:=by
   have h4:=(holds_andW hc).1
   rw [hn] at h4
   exact h4
  have h5:=condW_of h4 (w_not (w_lt w_lit (w_len_list (w_arg rfl))))
  rw [List.length_map] at h5
  refine Nat.le_of_not_lt fun q=>?_
  have q':(n:Int)<((ns.length:Nat):Int):=by omega
  first
   | (rw [decide_eq_true q'] at h5;exact absurd h5 (by decide))
   | (simp at h5;omega)
 cases hwl with
 | cons w1 w2 =>
  cases w2
  cases w1 with
  | list ho hall=>exact ⟨_,_,ns,rfl,rfl,ho,V9 ns _ hall,hlen⟩
theorem Ycf (l:OpenLaw) (args:List WData):l.row.toRowW.claim.post args (.bool true) args=true :=
 postW_of (r:=l.row.toRowW) (X:=(true==true))
  (show WShape.has [] (.bool true) .bool=true by first | rfl | decide | simp [WShape.has,WShape.arms,WShape.armsAll])
  (show (WTm.eq .res (.lit (.bool true))).value [] { args:=args,res:=some (.bool true),after:=args }=some (.bool (true==true)) from w_eq_bool (w_res rfl) w_lit) rfl
theorem attach_call {l:OpenLaw} {n:Nat} {q:Program} {loose:List Str} {XP:(Str→Option Value)→Heap→Prop} {YP:World→Heap→Prop} {d:DefRec}
  (hn:l.most=some n) (hdf:d.params.defaults=[])
  (call:∀ (w:World) (s₀ s₁:Shared) (mg mb:Str→Option Value) (fa:Addr) (o:Obj) (pm cd doc:Value) (a:Addr) (vs:List Value) (ns:List Int),
   Ground q loose [] XP w s₀ mg mb s₁.heap→YP w s₁.heap →
   s₁.heap.get? fa=some o→o.data = .func (docDef d.name d.params d.body d.scope pm cd doc)→s₁.heap.CodeRec cd d.name→mg d.name=some (.ref fa) →
   s₁.heap.get? a=some { cls := .type "list",data := .seq vs.toArray }→IntsAre vs ns→ns.length≤n→s₁.gens=#[] →
   codeAny (model l.prog w) callerA (.call (.ref fa) ⟨[.ref a],[]⟩) (fun r s'=>r = .ok (.ret (.bool true))∧OldK s₁.heap s'.heap∧s'.os=s₁.os∧AllBare s'.gens) s₁) :
  WalkO q loose XP YP l.row.toRowW d [] (fun f vs=>PySem.call f vs):=by
 intro w s₀ s₁ mg mb G Y fa o pm cd doc dV kV ho hd hcd hD hmg hg args vals as hpre hlay hrd hwl hlo
 obtain rfl:dV = .none:=Dflts.none hD hdf
 obtain rfl:kV = .none:=Dflts.noKw hD
 obtain ⟨a,vs,ns,rfl,rfl,hobj,hints,hlen⟩:=Yce hn hpre hwl
 refine enter_call (codeAny_mono (call w s₀ s₁ mg mb fa o pm cd doc a vs ns G Y ho (fd_plain hd) hcd hmg hobj hints hlen hg) fun r s' hq=>?_)
 obtain ⟨rfl,h2,h3,h4⟩:=hq
 exact ⟨.inl ⟨.bool true,.bool true,[],rfl,fun _=>rfl,.bool true,Ycf l _,fun _=>⟨List.Pairwise.nil,fun _ hm=>(nomatch hm)⟩⟩,h2,h3,h4⟩
section
variable {prog:Program} {w:World} {A:Around} {E:Value→Shared→Prop} {s:Shared} {K:Frag}
def ledger (h:Heap) (L d:Addr):List (Addr×Obj):=(List.range h.objs.size).filterMap fun a=>if a=L∨a=d then none else (h.get? a).map fun o=>(a,o)
end
end Att
namespace L2
open PySem PySem.Spec PyProof.Rows
theorem UY:∀ {vs:List Value} {ns:List Int},IntsAre vs ns→Yl (ns.map V.int) vs
 | _,_,.nil => .nil
 | _,_,.cons n t h => .cons ⟨t,rfl⟩ (UY h)
end L2
namespace L2
open PySem PySem.Spec PyProof.Rows
end L2
namespace L2
open PySem PySem.Spec PyProof.Rows
def Yd2 (s:Stmt) (j:Nat):Stmt:=match s with
 | .ClassDef _ _ _ body _ _ _ _ _ _ _=>body.getD j (.Pass ⟨0,0,0,0⟩)
 | _ => .Pass ⟨0,0,0,0⟩
def Xk (s:Stmt):Arguments:=match s with
 | .FunctionDef _ a _ _ _ _ _ _ _ _=>a
 | _=>{ posonlyargs:=[],args:=[],vararg:=none,kwonlyargs:=[],kw_defaults:=[],kwarg:=none,defaults:=[] }
def YT (s:Stmt):List Stmt:=match s with
 | .FunctionDef _ _ b _ _ _ _ _ _ _=>b
 | _=>[]
def Yi (s:Stmt):Scope:=match s with
 | .FunctionDef _ _ _ _ _ _ sc _ _ _=>sc
 | _=>{ kind := .function,names:=[],isGenerator:=false,isCoroutine:=false }
abbrev CX0:CXT:=fun _ _ _ _ _ _=>False
abbrev E0:XK:=fun _ _ _=>False
theorem Qr {X:Cx}:WQ CX0 X E0:=fun _ _ _ _ _ _ _ h=>h.elim
structure Fun (K:PySem.W.Frag) (x qual:Str) (st:Stmt) (f:Addr) (fd:FuncData):Prop where
 ex:∃ (oc:Value) (od:Option Addr) (kV doc pm:Value) (an:Option Addr) (cdv ct:Value) (osl:Array (Option Value)),
  fd=PySem.W.fnOf x qual (Xk st) (YT st) (Yi st) .none kV doc pm an cdv ct∧K.lookup f=some ⟨oc,od,.func fd,osl⟩∧PySem.W.codeIn K cdv qual=true
 kp:PySem.W.keepIn K (.ref f)=true
section
variable {P:Program} {w:World} {K:PySem.W.Frag} {mg:Str→Option Value} {base:Heap}
theorem Fun.ok {x qual:Str} {st:Stmt} {f:Addr} {fd:FuncData} {N ps:List Str} {k:Nat} {sp:Sp} (F:Fun K x qual st f fd) (S:FnScope N ps (Yi st)) (len:∀ vs H Q E,sp vs H Q E→vs.length=ps.length)
  (hbody:∀ (cdv:Value) (A:Around) (outer:List Env) (s:Shared) (H:Hp) (vs:List V) (Q:VK) (E:XK),Room k (A.deeper (envOfC qual (Yi st) s.heap.objs.size f cdv))→sp vs H Q E →
   ∃ t,PSs (Wa CX0 P w K mg base N qual (Yi st) f cdv A outer s H E).nox (YT st) t∧t { nx:=fun _ H'=>Q .non H',rt:=Q } (start N vs) H):FnOk P w K mg base CX0 (k+1) f fd ps sp:=by
 obtain ⟨oc,od,kV,doc,pm,an,cdv,ct,osl,rfl,lk,hcd⟩:=F.ex
 refine Ybx lk hcd S len fun A outer s H vs Q E hr hsp=>?_
 obtain ⟨t,h,q⟩:=hbody cdv A outer s H vs Q E hr hsp
 exact ⟨t,h.nox,q⟩
theorem Fun.binds {x qual:Str} {st:Stmt} {f:Addr} {fd:FuncData} {ps:List Str} (F:Fun K x qual st f fd)
  (h:∀ (kV doc pm:Value) (an:Option Addr) (cdv ct:Value) (us:List Value),us.length=ps.length→bindArgs (PySem.W.fnOf x qual (Xk st) (YT st) (Yi st) .none kV doc pm an cdv ct) ⟨us,[]⟩=pure (ps.zip us)):Xr K fd ps []:=by
 obtain ⟨oc,od,kV,doc,pm,an,cdv,ct,osl,rfl,lk,hcd⟩:=F.ex
 exact .all (h kV doc pm an cdv ct)
theorem Ua {x qual:Str} {st:Stmt} {f:Addr} {oc:Value} {od an:Option Addr} {osl:Array (Option Value)} {kV doc pm cdv ct:Value} (l:K.lookup f=some ⟨oc,od,.func (PySem.W.fnOf x qual (Xk st) (YT st) (Yi st) .none kV doc pm an cdv ct),osl⟩)
  (c:PySem.W.codeIn K cdv qual=true) (k:PySem.W.keepIn K (.ref f)=true):Fun K x qual st f (PySem.W.fnOf x qual (Xk st) (YT st) (Yi st) .none kV doc pm an cdv ct):=⟨⟨oc,od,kV,doc,pm,an,cdv,ct,osl,rfl,l,c⟩,k⟩
end
section
variable {X:Cx}
theorem pv (i:Nat) {x:Str} {pos:Pos} (hN:X.N[i]?=some x:=by rfl) (hv:Vis X.env.scope x:=by first | exact .inl rfl | exact .inr (.inl rfl) | exact .inr (.inr rfl)) (hd:(x==("__debug__":Str))=false:=by decide)
  (hcd:(x==("__classdict__":Str))=false:=by decide):PE X (.Name x pos) (Xs i):=QB hN hv hd hcd
end
theorem Wq {A B:Prop} (h:B):if false=true then A else B:=by
 rw [if_neg Bool.false_ne_true]
 exact h
theorem VN {A B:Prop} (h:A):if true=true then A else B:=by
 rw [if_pos rfl]
 exact h
theorem YV {c A B:Prop} [Decidable c] (h1:c→A) (h2:¬ c→B):if c then A else B:=by
 by_cases h:c
 ·rw [if_pos h]
  exact h1 h
 ·rw [if_neg h]
  exact h2 h
def Yd (H H':Hp):Prop:=∀ b o,H b=some o→H' b=some o
theorem Yd.refl (H:Hp):Yd H H:=fun _ _ h=>h
theorem Yd.trans {H H1 H2:Hp} (a:Yd H H1) (b:Yd H1 H2):Yd H H2:=fun c o h=>b c o (a c o h)
theorem Yd.free {H H':Hp} (e:Yd H H') {l:Addr} (h:H' l=Option.none):H l=Option.none:=by
 cases q:H l with
 | none=>rfl
 | some o =>
  rw [e l o q] at h
  cases h
theorem Yd.seq {K:PySem.W.Frag} {H H':Hp} {a:Addr} {xs:List V} (e:Yd H H') (h:SqL K H a xs):SqL K H' a xs:=by
 rcases h with (h | ⟨o,h⟩) | h
 ·exact .inl (.inl (e _ _ h))
 ·exact .inl (.inr ⟨o,e _ _ h⟩)
 ·exact .inr h
end L2
namespace L2
open PySem PySem.Spec PyProof.Rows
section
variable {κ:Type} [DecidableEq κ]
theorem KV.any {kvs:List (κ×V)} {vs:List (κ×Value)} (r:KV kvs vs) (k:κ):(kvs.any fun kv=>decide (kv.1=k))=vs.any fun kv=>decide (kv.1=k):=by
 unfold KV at r
 induction r with
 | nil=>rfl
 | cons h t ih=>rw [List.any_cons,List.any_cons,ih,h.1]
theorem KV.keys {kvs:List (κ×V)} {vs:List (κ×Value)} (r:KV kvs vs):kvs.map (·.1)=vs.map (·.1):=by
 unfold KV at r
 induction r with
 | nil=>rfl
 | cons h t ih=>rw [List.map_cons,List.map_cons,ih,h.1]
theorem KV.length {kvs:List (κ×V)} {vs:List (κ×Value)} (r:KV kvs vs):kvs.length=vs.length:=Paired.length r
end
theorem YdJ {P:Program} {w:World} {k:Key} {u:Value} (r:Yv (kV k) u):(XI P w).is k u=true:=by
 cases k with
 | inl i=>obtain ⟨t,e⟩:=(show ∃ t,u=Value.int i t from r);subst e;exact Yaw P w i t
 | inr x=>obtain ⟨t,e⟩:=(show ∃ t,u=Value.str x t from r);subst e;exact Yax P w x t
abbrev KT (H:Hp):List (List Key×V)→List (List Key×Addr×Value)→Prop:=Paired fun p q=>p.1=q.1∧H q.2.1=some (.tup (p.1.map kV))∧Yv p.2 q.2.2
theorem KT.keeps {H H':Hp} {kvs:List (List Key×V)} {xs:List (List Key×Addr×Value)} (r:KT H kvs xs) (ht:∀ b ys,H b=some (.tup ys)→H' b=some (.tup ys)):KT H' kvs xs :=
 Paired.mapP r fun _ _ z=>⟨z.1,ht _ _ z.2.1,z.2.2⟩
section
variable {P:Program} {w:World} {H:Hp} {h:Heap} {a:Addr}
end
section
variable {X:Cx} {pins:List (Addr×Obj)} {σ:St} {H:Hp} {s:Shared} {a:Addr} {y v:V} {u r:Value} {o:Option V} {A:Around} {E:Value→Shared→Prop}
end
section
variable {X:Cx} {pins:List (Addr×Obj)} {σ:St} {H:Hp} {s:Shared} {a:Addr} {kvs:List (Key×V)} {k:Key} {u:Value} {A:Around} {E:Value→Shared→Prop}
end
section
variable {X:Cx} {o i e value:Expr} {pos pos' tpos:Pos} {td ty tv:TE}
end
section
variable {X:Cx} {pos:Pos}
end
section
variable {X:Cx} {pins:List (Addr×Obj)} {σ:St} {H:Hp} {s:Shared} {a:Addr} {y d:V} {u r:Value} {o:Option V} {A:Around} {E:Value→Shared→Prop}
end
section
variable {X:Cx} {o e f:Expr} {apos cpos:Pos} {td ty tx:TE}
end
section
variable {X:Cx} {pins:List (Addr×Obj)} {σ:St} {H:Hp} {s:Shared} {a:Addr} {kvs:List (Key×V)} {A:Around} {E:Value→Shared→Prop}
end
section
variable {X:Cx} {pins:List (Addr×Obj)} {σ:St} {H:Hp} {s:Shared} {a:Addr} {y:V} {u:Value} {A:Around} {E:Value→Shared→Prop}
end
end L2
namespace L2
open PySem PySem.Spec PyProof.Rows
theorem WF (env:Env):∀ (names:List (Str×NameKind)) (cs:List (Str×Addr)),(∀ x,(x,NameKind.free)∈names→∃ c,env.cells.lookup x=some c) →
  ∃ cl,(forIn names cs fun (p:Str×NameKind) (cs:List (Str×Addr))=>(if (p.2==NameKind.free)=true then (do let c ← cellOf env p.1;pure (ForInStep.yield ((p.1,c)::cs))) else pure (ForInStep.yield cs):Sem (ForInStep (List (Str×Addr)))))=pure cl ∧
   (∀ x c,cl.lookup x=some c→env.cells.lookup x=some c∨cs.lookup x=some c)∧(∀ x,(x,NameKind.free)∈names→∃ c,cl.lookup x=some c)∧(∀ x c,cs.lookup x=some c→∃ d,cl.lookup x=some d)
 | [],cs,_=>⟨cs,by simp,fun _ _ h => .inr h,(fun _ h=>nomatch h),fun x c h=>⟨c,h⟩⟩
 | (n,k)::r,cs,h=>by
  by_cases hk:k=NameKind.free
  ·subst hk
   obtain ⟨c,hc⟩:=h n (List.mem_cons_self ..)
   obtain ⟨cl,e,a,b,d⟩:=WF env r ((n,c)::cs) (fun x hx=>h x (List.mem_cons_of_mem _ hx))
   have hcell:cellOf env n=pure c:=by unfold cellOf;rw [hc]
   refine ⟨cl,?_,fun x c' hx=>?_,fun x hx=>?_,fun x c' hx=>?_⟩
   ·rw [List.forIn_cons]
    simp only [beq_self_eq_true,if_true,hcell,pure_bind]
    exact e
   ·rcases a x c' hx with q | q
    ·exact .inl q
    ·rw [List.lookup_cons] at q
     by_cases hxn:(x==n)=true
     ·rw [hxn] at q
      have hx':x=n:=by simpa using hxn
      subst hx'
      have:c=c':=by simpa using q
      subst this
      exact .inl hc
     ·rw [Bool.eq_false_iff.mpr hxn] at q
      exact .inr q
   ·rcases List.mem_cons.mp hx with q | q
    ·have hx':x=n:=congrArg Prod.fst q
     subst hx'
     exact d x c (by rw [List.lookup_cons];simp)
    ·exact b x q
   ·have:∃ d',((n,c)::cs).lookup x=some d':=by
     rw [List.lookup_cons]
     by_cases hxn:(x==n)=true
     ·rw [hxn];exact ⟨c,rfl⟩
     ·rw [Bool.eq_false_iff.mpr hxn];exact ⟨c',hx⟩
    obtain ⟨d',hd'⟩:=this
    exact d x d' hd'
  ·obtain ⟨cl,e,a,b,d⟩:=WF env r cs (fun x hx=>h x (List.mem_cons_of_mem _ hx))
   have hkf:(k==NameKind.free)=false:=by simpa using hk
   refine ⟨cl,?_,a,fun x hx=>?_,d⟩
   ·rw [List.forIn_cons]
    simp only [hkf,Bool.false_eq_true,if_false,pure_bind]
    exact e
   ·rcases List.mem_cons.mp hx with q | q
    ·exact absurd (congrArg Prod.snd q).symm hk
    ·exact b x q
theorem Ub (env:Env) (scope:Scope) (h:∀ x,(x,NameKind.free)∈scope.names→∃ c,env.cells.lookup x=some c) :
  ∃ cl,closureFor scope env=pure cl∧(∀ x c,cl.lookup x=some c→env.cells.lookup x=some c)∧(∀ x,(x,NameKind.free)∈scope.names→∃ c,cl.lookup x=some c):=by
 obtain ⟨cl,e,a,b,_⟩:=WF env scope.names [] h
 refine ⟨cl,?_,fun x c hx=>(a x c hx).elim id (fun z=>by simp at z),b⟩
 unfold closureFor
 simp only [bind_pure]
 exact e
def cxC (X:Cx) (scope:Scope) (N':List Str) (cl:List (Str×Addr)) (C:Addr) (s₀:Shared) (H₀:Hp) (fp:List Addr) (pn:List (Addr×Obj)):Cx :=
 { X with N:=N',s₀:=s₀,H₀:=H₀,env:=compEnvC scope cl C X.env,outer:=X.stack,ex:=fp,fn:=fun _=>false,pn:=pn,xe:=fun _ _=>False }
inductive Cap (X:Cx) (scope:Scope):List (Option Nat)→List Str→Prop
 | nil:Cap X scope [] []
 | own {x src N'}:Cap X scope src N'→Cap X scope (none::src) (x::N')
 | cap {x i src N'}:X.N[i]?=some x→scope.names.lookup x=some NameKind.free→(X.env.scope.names.lookup x=some NameKind.cell∨X.env.scope.names.lookup x=some NameKind.free)→Cap X scope src N'→Cap X scope (some i::src) (x::N')
def YI (src:List (Option Nat)) (σ:St):St:=src.map fun o=>match o with | none=>none | some i=>σ.getD i none
theorem Cap.length {X:Cx} {scope:Scope}:∀ {src:List (Option Nat)} {N':List Str},Cap X scope src N'→src.length=N'.length
 | _,_,.nil=>rfl
 | _,_,.own h=>congrArg (·+1) h.length
 | _,_,.cap _ _ _ h=>congrArg (·+1) h.length
theorem Cap.get {X:Cx} {scope:Scope} {σ:St}:∀ {src:List (Option Nat)} {N':List Str},Cap X scope src N'→∀ (j:Nat) (x:Str) (v:V),N'[j]?=some x→(YI src σ)[j]?=some (some v) →
  ∃ i:Nat,X.N[i]?=some x∧σ[i]?=some (some v)∧scope.names.lookup x=some NameKind.free∧(X.env.scope.names.lookup x=some NameKind.cell∨X.env.scope.names.lookup x=some NameKind.free)
 | _,_,.nil,j,x,v,h,_=>by simp at h
 | _,_,.own h,0,x,v,_,e=>by simp [YI] at e
 | _,_,.own h,j+1,x,v,e1,e2=>h.get j x v (by simpa using e1) (by simpa [YI] using e2)
 | _,_,.cap (x:=y) (i:=i) hN hf hk h,0,x,v,e1,e2=>by
  have ex:y=x:=by simpa using e1
  subst ex
  refine ⟨i,hN,?_,hf,hk⟩
  simp only [YI,List.map_cons,List.getElem?_cons_zero,Option.some.injEq] at e2
  rw [List.getD_eq_getElem?_getD] at e2
  cases q:σ[i]? with
  | none=>rw [q] at e2;simp at e2
  | some o=>rw [q] at e2;simp at e2;rw [e2]
 | _,_,.cap hN hf hk h,j+1,x,v,e1,e2=>h.get j x v (by simpa using e1) (by simpa [YI] using e2)
theorem WR (env:Env) (x:Str):∀ {names:List (Str×NameKind)},
  (names.map fun (n,k)=>if (k==NameKind.free&&env.scope.kind == .function&&env.kindOf n==some .cell) then (n,NameKind.cell) else (n,k)).lookup x =
   (names.lookup x).map fun k=>if (k==NameKind.free&&env.scope.kind == .function&&env.kindOf x==some .cell) then NameKind.cell else k
 | []=>rfl
 | (n,k)::r=>by
  have ih:=@WR env x r
  rw [List.map_cons]
  dsimp only
  by_cases hx:(x==n)=true
  ·have e:x=n:=by simpa using hx
   subst e
   by_cases hc:(k==NameKind.free&&env.scope.kind == .function&&env.kindOf x==some .cell)=true
   ·rw [if_pos hc,List.lookup_cons,List.lookup_cons,hx]
    simp only [Option.map_some]
    rw [if_pos hc]
   ·rw [if_neg hc,List.lookup_cons,List.lookup_cons,hx]
    simp only [Option.map_some]
    rw [if_neg hc]
  ·have hx':=Bool.eq_false_iff.mpr hx
   by_cases hc:(k==NameKind.free&&env.scope.kind == .function&&env.kindOf n==some .cell)=true
   ·rw [if_pos hc];simp only [List.lookup_cons,hx'];exact ih
   ·rw [if_neg hc];simp only [List.lookup_cons,hx'];exact ih
theorem WJ {names:List (Str×NameKind)} {x:Str} (h:names.lookup x=some NameKind.free):(x,NameKind.free)∈names:=PySem.mem_of_lookup h
section
variable {X:Cx}
theorem QM {scope:Scope} {N':List Str} {src:List (Option Nat)} {cl:List (Str×Addr)} {pins:List (Addr×Obj)} {σ:St} {H:Hp} {s s':Shared} {h':Heap} {tk:Nat} {fp:List Addr} {m:Str→Option Value}
  (hk:scope.kind = .function) (hcell:∀ y∈scope.names,y.2 ≠ .cell) (hcap:Cap X scope src N')
  (a:∀ x c,cl.lookup x=some c→X.env.cells.lookup x=some c) (b:∀ x,(x,NameKind.free)∈scope.names→∃ c,cl.lookup x=some c)
  (I:Inv X pins σ H s) (hf:∀ b∈fp,XV X pins H b) (hfl:∀ b∈fp,b<s.heap.objs.size) (es':s'={ s with heap:=h',toks:=tk })
  (keep:∀ b o,s.heap.get? b=some o→h'.get? b=some o) (hn:h'.Ns s.heap.objs.size m) :
  Inv (cxC X scope N' cl s.heap.objs.size s H fp (X.pn++pins)) [] (YI src σ) H s':=by
 subst es'
 have kindOf:∀ x,(compEnvC scope cl s.heap.objs.size X.env).kindOf x=(scope.names.lookup x).map fun k=>if (k==NameKind.free&&X.env.scope.kind == .function&&X.env.kindOf x==some .cell) then NameKind.cell else k:=fun x=>WR X.env x
 have freeOf:∀ x,((compEnvC scope cl s.heap.objs.size X.env).kindOf x=some .cell∨(compEnvC scope cl s.heap.objs.size X.env).kindOf x=some .free)→scope.names.lookup x=some .free:=fun x h=>by
  rw [kindOf] at h
  cases q:scope.names.lookup x with
  | none=>rw [q] at h;simp at h
  | some k =>
   rw [q] at h
   by_cases hkf:k=NameKind.free
   ·rw [hkf]
   ·have hkf':(k==NameKind.free)=false:=by simpa using hkf
    simp only [Option.map_some,hkf',Bool.false_and,Bool.false_eq_true,if_false] at h
    rcases h with h | h
    ·exact absurd (Option.some.inj h) (hcell _ (PySem.mem_of_lookup q))
    ·exact absurd (Option.some.inj h) hkf
 refine ⟨⟨I.ok.mod,hk,I.ok.glob,I.ok.blt,Nat.le_refl _,fun x y c h1 h2=>I.ok.inj x y c (a x c h1) (a y c h2),fun x hx=>b x (WJ (freeOf x hx)),(fun x c z _=>nomatch z),I.ok.hd,I.ok.frames,.inl rfl,fun b' hb=>?_,I.bs,Nat.le_trans I.ok.bsz I.sz,fun b' o e hb=>?_,fun b' hb z=>?_,I.stack,I.stkFree⟩,
  rfl,I.bare,Un.kept keep,⟨m,hn,fun j x v h1 h2 h3=>?_⟩,fun x c h=>?_,I.hok.fresh (Nat.le_refl _),fun x c h=>I.freeC x c (a x c h),fun p hp=>?_,I.hok.kept keep,?_⟩
 ·obtain ⟨f0,f1,f2,f3,f4,f5⟩:=hf b' hb
  exact ⟨Nat.ne_of_lt (hfl b' hb),fun x c h=>f4 x c (a x c h)⟩
 ·obtain ⟨f0,f1,f2,f3,f4,f5⟩:=hf b' hb
  rcases f3 with z | z
  ·exact I.ok.noex b' o e z
  ·exact absurd (Nat.lt_of_lt_of_le (Heap.lt_size e) (Nat.le_trans I.ok.bsz z)) (Nat.lt_irrefl _)
 ·obtain ⟨f0,f1,f2,f3,f4,f5⟩:=hf b' hb
  rcases List.mem_cons.mp (I.stkSub b' z) with e | e
  ·exact f1 e
  ·exact f2 e
 ·obtain ⟨i,e1,e2,e3,e4⟩:=hcap.get j x v h1 h2
  obtain ⟨m0,hn0,hl⟩:=I.loc
  obtain ⟨u,r,l⟩:=hl i x v e1 e2 (by rcases e4 with e4 | e4;exact .inr (.inl e4);exact .inr (.inr e4))
  refine ⟨u,r,?_⟩
  rcases l with ⟨l,_⟩ | ⟨k,c,e,z⟩
  ·have l':X.env.scope.names.lookup x=some NameKind.local:=l
   rcases e4 with e4 | e4<;>(rw [e4] at l';cases l')
  ·refine .inr ⟨?_,?_⟩
   ·show (compEnvC scope cl s.heap.objs.size X.env).kindOf x=some .cell∨(compEnvC scope cl s.heap.objs.size X.env).kindOf x=some .free
    rw [kindOf,e3]
    simp only [Option.map_some]
    split
    ·exact .inl rfl
    ·exact .inr rfl
   ·obtain ⟨c',hc'⟩:=b x (WJ e3)
    have:=a x c' hc'
    rw [e] at this
    cases this
    obtain ⟨o,ho,hd⟩:=z
    exact ⟨c,hc',o,keep _ _ ho,hd⟩
 ·obtain ⟨v,o,ho,hd⟩:=I.cell x c (a x c h)
  exact ⟨v,o,keep _ _ ho,hd⟩
 ·have hp':p∈X.pn++pins:=by simpa [cxC] using hp
  obtain ⟨e,n,ne,nf,d⟩:=I.pin p hp'
  refine ⟨keep _ _ e,n,Nat.ne_of_lt (Heap.lt_size e),fun z=>?_,d⟩
  rcases List.mem_cons.mp (I.stkSub p.1 z) with q | q
  ·exact ne q
  ·exact nf q
 ·show (YI src σ).length=N'.length
  rw [← hcap.length]
  simp [YI]
end
end L2
namespace L2
open PySem PySem.Spec PyProof.Rows
section
variable {prog:Program} {w:World} {A:Around} {R:Result→Shared→Prop} {s:Shared}
theorem UZ {elt tg iter:Expr} {ifs:List Expr} {scope:Scope} {pos:Pos} {it acc:Value} {env:Env} (J:Nat→Shared→Prop)
  (turn:∀ n s,J n s→wpAny (model prog w) A (pyNext it) (fun r s₁=>match r with
    | none=>R (.ok .next) s₁
    | some v=>wpAny (model prog w) A (letOwnedTupleGo tg it v) (fun _ z₁=>wpAny (model prog w) A (assign tg env v) (fun _ s₂ =>
      wpAny (model prog w) A (forIn ifs true fun c r=>if r=true then do let ok ← isTrue c env (eval c env);pure (ForInStep.yield ok) else pure (ForInStep.yield r))
       (fun ok s₃=>if ok=true then wpAny (model prog w) A (eval elt env) (fun x s₄=>wpAny (model prog w) A (call (.builtin "list.append") [acc,x]) (fun _ s₅=>∃ m,m<n∧J m s₅) (fun _ _=>False) s₄) (fun _ _=>False) s₃
        else ∃ m,m<n∧J m s₃) (fun _ _=>False) s₂) (fun _ _=>False) z₁) (fun _ _=>False) s₁) (fun _ _=>False) s)
  (n:Nat) (h:J n s):codeAny (model prog w) A (.compLoop (.ListComp elt [⟨tg,iter,ifs,0⟩] scope pos) 0 it acc env) R s:=by
 refine codeAny_loop rfl J (fun n s hJ=>?_) n h
 show wpAny _ A (Sem.onRaise (compTurn (.ListComp elt [⟨tg,iter,ifs,0⟩] scope pos) 0 it acc env) (fun x=>do noteFrame x env;theTreesLotGoes x)) _ _ s
 refine wpAny_noted ?_
 rw [compTurn_list]
 have no:∀ {E:Value→Shared→Prop},∀ (e:Value) (s':Shared),False→E e s':=fun _ _ f=>f.elim
 refine wpAny_bind (wpAny_standAt (wpAny_bind (wpAny_mono (turn n s hJ) (fun r s₁ h₁=>?_) no)))
 cases r with
 | none=>exact wpAny_pure h₁
 | some v =>
  refine wpAny_bind (wpAny_mono h₁ (fun _ z₁ hz=>?_) no)
  refine wpAny_bind (wpAny_mono hz (fun _ s₂ h₂=>wpAny_bind (wpAny_mono h₂ (fun ok s₃ h₃=>?_) no)) no)
  cases ok with
  | false=>exact wpAny_pure ⟨rfl,h₃⟩
  | true =>
   exact wpAny_bind (wpAny_bind (wpAny_mono h₃ (fun x s₄ h₄=>wpAny_bind (wpAny_mono h₄ (fun _ s₅ h₅=>wpAny_pure (wpAny_pure ⟨rfl,h₅⟩)) no)) no))
end
def PTs (X:Cx) (ifs:List Expr) (t:TT):Prop :=
 ∀ (pins:List (Addr×Obj)) (s:Shared) (σ:St) (H:Hp) (Q:Bool→Hp→Prop),Inv X pins σ H s→t σ H Q →
  wpAny (model X.prog X.w) X.A (forIn ifs true fun c r=>if r=true then do let ok ← isTrue c X.env (eval c X.env);pure (ForInStep.yield ok) else pure (ForInStep.yield r)) (TP X pins σ Q) X.xe s
def XE:TT:=fun _ H Q=>Q true H
theorem XL {X:Cx}:PTs X [] XE:=fun _ _ _ H _ I h=>wpAny_tests_nil ⟨H,I,h⟩
def LC (src:List (Option Nat)) (J:It) (g:TG) (tt:TT) (te:TE) (σ:St) (H1:Hp) (Q:VK) (D:Addr):Prop:=∃ W:Nat→Nat→List V→St→Hp→Prop,(∃ m,W 0 m [] (YI src σ) (upd H1 D (.lst []))) ∧
 ∀ i m ys σ' H2,W i m ys σ' H2→H2 D=some (.lst ys)∧((J.stop i H2∧Q (.ref D) H2)∨(J.go i H2∧∃ N:List V→St→Hp→Prop,(∀ ys' σ3 H3,N ys' σ3 H3→∃ m',m'<m∧W (i+1) m' ys' σ3 H3)∧∀ x H3,J.yld i H2 x H3→g x σ' H3 fun σ2 H4=>tt σ2 H4 fun b H5 =>
  if b=true then te σ2 H5 fun y H6=>H6 D=some (.lst ys)∧ys.length<sizeLine∧N (ys++[y]) σ2 (upd H6 D (.lst (ys++[y])))
  else N ys σ2 H5))
def tLC (src:List (Option Nat)) (wi:TI) (g:TG) (tt:TT) (te:TE):TE:=fun σ H Q=>wi σ H fun J H1=>∀ D,H1 D=none→LC src J g tt te σ H1 Q D
section
variable {X:Cx}
theorem W6 {elt tg iter:Expr} {ifs:List Expr} {scope:Scope} {pos:Pos} {src:List (Option Nat)} {N':List Str} {wi:TI} {g:TG} {tt:TT} {te:TE} (hcap:Cap X scope src N') (hc:X.calm=true) (hi:PI X tg iter wi)
  (hg:∀ cl C s₀ H₀ fp pn,PG (cxC X scope N' cl C s₀ H₀ fp pn) tg g) (ht:∀ cl C s₀ H₀ fp pn,PTs (cxC X scope N' cl C s₀ H₀ fp pn) ifs tt) (he:∀ cl C s₀ H₀ fp pn,PE (cxC X scope N' cl C s₀ H₀ fp pn) elt te)
  (hfree:∀ x,(x,NameKind.free)∈scope.names→X.env.scope.names.lookup x=some NameKind.cell∨X.env.scope.names.lookup x=some NameKind.free)
  (hk:scope.kind = .function) (hcell:∀ y∈scope.names,y.2 ≠ .cell) (hnames:∀ y∈scope.names,y.2 = .local→scope.names.lookup y.1=some .local)
  (hs:∀ x,foldedSetIterable iter X.env x=pure x):PE X (.ListComp elt [⟨tg,iter,ifs,0⟩] scope pos) (tLC src wi g tt te):=by
 intro pins s σ H Q I h
 have no:∀ {E:Value→Shared→Prop},∀ (e:Value) (s':Shared),False→E e s':=fun _ _ f=>f.elim
 obtain ⟨cl,hcl,a,b⟩:=Ub X.env scope fun x hx=>I.ok.has x (hfree x hx)
 rw [eval_ListComp]
 refine wpAny_comprehension_free (use:=none) rfl hs hcl hk hnames (thn (hi pins s σ H _ I h) fun v s1 h1=>thn h1 fun itv s2 h2=>?_)
 obtain ⟨it,fp,tn,J,H2,e,I2,T,st2,f2,q⟩:=h2
 subst e
 have hD:H2 s2.heap.objs.size=none:=I2.hok.fresh (Nat.le_refl _)
 obtain ⟨W,⟨m0,w0⟩,turn⟩:=q s2.heap.objs.size hD
 have I3:=I2.lnew (t':=s2.toks) (ys:=[]) (its:=[]) .nil (Nat.zero_le _)
 have fl2:∀ b∈fp,b<s2.heap.objs.size:=fun b hb=>by
  obtain ⟨o,e,_⟩:=T.obj _ _ st2 b hb
  exact Heap.lt_size e
 refine wpAny_newObj_type ?_
 generalize es3:({ s2 with heap:=s2.heap.push { cls := .type "list",dict:=none,data := .seq ([]:List Value).toArray } }:Shared)=s3
 have I3':Inv X pins σ (upd H2 s2.heap.objs.size (.lst [])) s3:=es3▸I3
 have keep3:∀ b o,s2.heap.get? b=some o→s3.heap.get? b=some o:=fun b o e=>by rw [← es3];exact Heap.get?_push_of_some _ e
 have st3:tn 0 s3.heap:=T.keep _ _ _ st2 fun b _ o e=>keep3 b o e
 have fl3:∀ b∈fp,b<s3.heap.objs.size:=fun b hb=>by
  obtain ⟨o,e,_⟩:=T.obj _ _ st3 b hb
  exact Heap.lt_size e
 have f3:∀ b∈fp,XV X pins (upd H2 s2.heap.objs.size (.lst [])) b:=fun b hb=>⟨by rw [Yh (Nat.ne_of_lt (fl2 b hb))];exact (f2 b hb).1,(f2 b hb).2⟩
 generalize eD:s2.heap.objs.size=D at *
 generalize eH3:upd H2 D (.lst [])=H3 at *
 refine wpAny_newFunctionEnv hcell (by intro y hy;simp at hy) (fun h₁ hns₁ hsb₁=>?_) hk
 have keep4:∀ b o,s3.heap.get? b=some o→h₁.get? b=some o:=fun b o e=>hsb₁.extBut b o (Nat.ne_of_lt (Heap.lt_size e)) (Heap.get?_push_of_some _ e)
 have I4:=QM (N':=N') (src:=src) (tk:=s3.toks+([]:List (Str×Value)).length) hk hcell hcap a b I3' f3 fl3 rfl keep4 hns₁
 -- the iterator's objects,through the block
 have stat:∀ {H':Hp},(∀ b∈fp,H' b=none)→∀ b∈fp,XV (cxC X scope N' cl s3.heap.objs.size s3 H3 fp (X.pn++pins)) [] H' b:=fun hn b' hb=>by
  obtain ⟨f0,f1,fs,fe,f4,f5⟩:=f3 b' hb
  refine ⟨hn b' hb,Nat.ne_of_lt (fl3 b' hb),fun z=>?_,.inl hb,fun x c h=>f4 x c (a x c h),fun p hp=>f5 p (by simpa [cxC] using hp)⟩
  rcases List.mem_cons.mp (I3'.stkSub b' z) with e | e
  ·exact f1 e
  ·exact fs e
 -- behind the block
 have fin:∀ {H':Hp} {s':Shared} {σ':St} {pins':List (Addr×Obj)},Inv (cxC X scope N' cl s3.heap.objs.size s3 H3 fp (X.pn++pins)) pins' σ' H' s'→∀ h',Heap.SameBut s3.heap.objs.size s'.heap h'→Inv X pins σ H' { s' with heap:=h' }:=fun {H' s' σ' pins'} J' h' sb=>by
  have same:∀ b o,b≠s3.heap.objs.size→s'.heap.get? b=some o→h'.get? b=some o:=fun b o hb e=>sb.extBut b o hb e
  have u:Un (frs X.stack) fp H3 H' s3.heap s'.heap:=J'.base
  refine I3'.call' (s':={ s' with heap:=h' }) (ch:=fp) J'.os ⟨fun b o e n hb hx=>?_,fun b o e n hb hx=>?_,u.free,fun b o e hx=>?_,u.tups,u.frzs,u.tbls⟩ (fun b o e=>?_) J'.bare fun b hb=>?_
  ·exact same b o (Nat.ne_of_lt (Heap.lt_size e)) (u.keep b o e n hb hx)
  ·obtain ⟨sl,z⟩:=u.slot b o e n hb hx
   exact ⟨sl,same b _ (Nat.ne_of_lt (Heap.lt_size e)) z⟩
  ·obtain ⟨o',z⟩:=u.there b o e hx
   exact ⟨o',same b o' (Nat.ne_of_lt (Heap.lt_size e)) z⟩
  ·have nC:∀ c v,H' c=some v→c≠s3.heap.objs.size:=fun c v z q=>by
    have:=J'.free
    rw [show (cxC X scope N' cl s3.heap.objs.size s3 H3 fp (X.pn++pins)).env.locals=s3.heap.objs.size from rfl,← q,z] at this
    cases this
   refine (J'.hok b o e).stay (fun c v hc q=>same c v ?_ q) (fun _ q=>q) fun _ _ q=>q
   rcases hc with z | z
   ·rw [z];exact nC b o e
   ·exact nC c _ z
  ·obtain ⟨f0,f1,fs,fe,f4,f5⟩:=f3 b hb
   exact ⟨fe,f1,f4,f5⟩
 have loop:codeAny (model X.prog X.w) X.A (.compLoop (.ListComp elt [⟨tg,iter,ifs,0⟩] scope pos) 0 (.ref it) (.ref D) (compEnvC scope cl s3.heap.objs.size X.env))
   (compPost (model X.prog X.w) X.A X.xe none (EP X pins σ Q) (.ref D) s3.heap.objs.size) { s3 with heap:=h₁,toks:=s3.toks+([]:List (Str×Value)).length }:=by
  refine UZ (fun n s'=>∃ i ys σ' H',Inv (cxC X scope N' cl s3.heap.objs.size s3 H3 fp (X.pn++pins)) [] σ' H' s'∧tn i s'.heap∧(∀ b∈fp,H' b=none)∧W i n ys σ' H') ?_ m0 ⟨0,[],YI src σ,H3,I4,T.keep _ _ _ st3 fun b _ o e=>keep4 b o e,fun b hb=>(f3 b hb).1,w0⟩
  rintro n s5 ⟨i,ys,σ5,H5,I5,st5,fr5,w5⟩
  obtain ⟨hDs,stop | go⟩:=turn i n ys σ5 H5 w5
  ·obtain ⟨stop,qn⟩:=stop
   refine thn (T.done (cxC X scope N' cl s3.heap.objs.size s3 H3 fp (X.pn++pins)) rfl rfl rfl hc i [] s5 σ5 H5 _ I5 (stat fr5) st5 stop) fun r s6 ⟨hr,I6⟩=>?_
   subst hr
   obtain ⟨m,hn,_⟩:=id I6.loc
   exact ⟨m,hn,fun h' sb=>⟨.ref D,H5,fin I6 h' sb,rfl,qn⟩⟩
  ·obtain ⟨go,N,hN,step⟩:=go
   refine thn (T.item (cxC X scope N' cl s3.heap.objs.size s3 H3 fp (X.pn++pins)) rfl rfl rfl hc i [] s5 σ5 H5 _ I5 (stat fr5) st5 go) fun r s6 ⟨u,hr,h6⟩=>?_
   subst hr
   refine thn h6 fun _ s7 ⟨x,H7,I7,r7,y7,st7,fr7⟩=>?_
   have I7':=I7.pinned (stat fr7) (T.obj _ _ st7)
   have again:∀ {s8:Shared} {σ8:St} {H8:Hp} {ys':List V},Inv (cxC X scope N' cl s3.heap.objs.size s3 H3 fp (X.pn++pins)) ([]++WO fp s7.heap) σ8 H8 s8→(∃ m',m'<n∧W (i+1) m' ys' σ8 H8) →
     ∃ m,m<n∧∃ i ys σ' H',Inv (cxC X scope N' cl s3.heap.objs.size s3 H3 fp (X.pn++pins)) [] σ' H' s8∧tn i s8.heap∧(∀ b∈fp,H' b=none)∧W i m ys σ' H':=fun {s8 σ8 H8 ys'} I8 ⟨m',hm,w8⟩=>by
    refine ⟨m',hm,i+1,ys',σ8,H8,I8.unpinned,T.keep _ _ _ st7 fun b hb o e=>(I8.pin (b,o) (List.mem_append_right _ (List.mem_append_right _ (Xx hb e)))).1,fun b hb=>?_,w8⟩
    obtain ⟨o,e,d⟩:=T.obj _ _ st7 b hb
    exact (I8.pin (b,o) (List.mem_append_right _ (List.mem_append_right _ (Xx hb e)))).2.1
   refine thn (hg cl _ s3 H3 fp _ _ s7 σ5 H7 x u _ I7' r7 (step x H7 y7)) fun _ s8 ⟨σ8,H8,I8,q8⟩=>?_
   refine thn (ht cl _ s3 H3 fp _ _ s8 σ8 H8 _ I8 q8) fun ok s9 ⟨H9,I9,q9⟩=>?_
   cases ok with
   | false=>exact again I9 (hN _ _ _ q9)
   | true =>
    rw [if_pos rfl]
    refine thn (he cl _ s3 H3 fp _ _ s9 σ8 H9 _ I9 q9) fun y s10 ⟨yv,H10,I10,r10,q10⟩=>?_
    obtain ⟨hDy,hlen,w10⟩:=q10
    refine thn (UX (X:=cxC X scope N' cl s3.heap.objs.size s3 H3 fp (X.pn++pins)) _ s10 σ8 H10 (.ref D) [yv] (.ref D) [y] (fun _ H'=>H'=upd H10 D (.lst (ys++[yv]))) I10 rfl (.cons r10 .nil) ⟨D,ys,yv,rfl,rfl,hDy,hlen,rfl⟩) fun _ s11 ⟨_,H11,I11,_,e11⟩=>?_
    subst e11
    exact again I11 (hN _ _ _ w10)
 exact codeAny_compStart_list loop (T.self _ 0 _ _ _ (T.keep _ _ _ st3 fun b _ o e=>keep4 b o e) loop)
end
end L2
namespace L2
open PySem PySem.Spec PyProof.Rows
section
variable {X:Cx}
end
end L2
namespace L2
open PySem PySem.Spec PyProof.Rows
section
variable {X:Cx} {tg:Expr}
def Wk (J:It) (P:Hp→Prop) (xs:List V):Prop:=∀ H,P H→∀ i,(∀ x,xs[i]?=some x→J.go i H∧∀ y H',J.yld i H y H'→H'=H∧y=x)∧(xs.length≤i→J.stop i H)
theorem U0 {K:PySem.W.Frag} {a:Addr} {xs:List V}:Wk (Itt K a) (fun H=>SqT K H a xs) xs:=fun H hq i=>by
 refine ⟨fun x hx=>⟨⟨xs,x,hq,hx⟩,fun y H' ⟨e1,e2⟩=>⟨e1,?_⟩⟩,fun hi=>⟨xs,hq,hi⟩⟩
 have:=e2 xs hq
 rw [hx] at this
 exact (Option.some.inj this).symm
theorem Uc {K:PySem.W.Frag} {a:Addr} {xs:List V}:Wk (Itl K a) (fun H=>SqL K H a xs) xs:=fun H hq i=>by
 refine ⟨fun x hx=>⟨⟨xs,x,hq,hx⟩,fun y H' ⟨e1,e2⟩=>⟨e1,?_⟩⟩,fun hi=>⟨xs,hq,hi⟩⟩
 have:=e2 xs hq
 rw [hx] at this
 exact (Option.some.inj this).symm
theorem VG {lo:Int} {n:Nat} {P:Hp→Prop}:Wk (Itr lo n) P ((List.range n).map fun (i:Nat)=>V.int (lo+i)):=fun H hq i=>by
 refine ⟨fun x hx=>?_,fun hi=>by show n≤i;simpa using hi⟩
 have hi:i<n:=by
  have:=(List.getElem?_eq_some_iff.mp hx).1
  simpa using this
 refine ⟨hi,fun y H' ⟨e1,e2⟩=>⟨e1,?_⟩⟩
 rw [List.getElem?_map,List.getElem?_range hi] at hx
 rw [e2]
 simpa using hx
theorem Wk.imp {J:It} {P P':Hp→Prop} {xs:List V} (h:Wk J P xs) (hp:∀ H,P' H→P H):Wk J P' xs:=fun H q=>h H (hp H q)
theorem lc_by {J:It} {P:Hp→Prop} {xs:List V} (hJ:Wk J P xs) {src:List (Option Nat)} {g:TG} {tt:TT} {te:TE} {σ:St} {H1:Hp} {Q:VK} {D:Addr} (Pv:Nat→List V→St→Hp→Prop)
  (h0:Pv 0 [] (YI src σ) (upd H1 D (.lst []))) (hP:∀ i ys σ' H',Pv i ys σ' H'→P H'∧H' D=some (.lst ys))
  (step:∀ i ys σ' H' x,xs[i]?=some x→Pv i ys σ' H'→g x σ' H' fun σ2 H4=>tt σ2 H4 fun b H5=>if b=true then te σ2 H5 fun y H6=>H6 D=some (.lst ys)∧ys.length<sizeLine∧Pv (i+1) (ys++[y]) σ2 (upd H6 D (.lst (ys++[y]))) else Pv (i+1) ys σ2 H5)
  (fin:∀ ys σ' H',Pv xs.length ys σ' H'→Q (.ref D) H') :
  LC src J g tt te σ H1 Q D:=by
 refine ⟨fun i m ys σ' H'=>m=xs.length - i∧i≤xs.length∧Pv i ys σ' H',⟨xs.length,by simp,Nat.zero_le _,h0⟩,?_⟩
 rintro i m ys σ' H2 ⟨rfl,hi,p⟩
 obtain ⟨hp,hD⟩:=hP i ys σ' H2 p
 refine ⟨hD,?_⟩
 by_cases hlt:i<xs.length
 ·obtain ⟨go,yl⟩:=(hJ H2 hp i).1 xs[i] (by simp [hlt])
  refine .inr ⟨go,fun ys' σ3 H3=>Pv (i+1) ys' σ3 H3,fun ys' σ3 H3 p'=>⟨xs.length - (i+1),by omega,rfl,hlt,p'⟩,fun x H3 y=>?_⟩
  obtain ⟨e1,e2⟩:=yl x H3 y
  subst e1 e2
  exact step i ys σ' _ _ (by simp [hlt]) p
 ·have e:i=xs.length:=by omega
  subst e
  exact .inl ⟨(hJ H2 hp _).2 (Nat.le_refl _),fin ys σ' H2 p⟩
theorem Yd.upd_new {H:Hp} {p:Addr} (h:H p=none) (o:HO):Yd H (upd H p o):=fun b u q=>by rw [Yh (Yu q h)];exact q
theorem Yd.upd_over {H H':Hp} {p:Addr} (h:H p=none) (e:Yd H H') (o:HO):Yd H (upd H' p o):=fun b u q=>by rw [Yh (Yu q h)];exact e b u q
theorem Yd.tup {K:PySem.W.Frag} {H H':Hp} {a:Addr} {xs:List V} (e:Yd H H') (h:SqT K H a xs):SqT K H' a xs:=by
 rcases h with (h | ⟨o,h⟩) | h
 ·exact .inl (.inl (e _ _ h))
 ·exact .inl (.inr ⟨o,e _ _ h⟩)
 ·exact .inr h
end
section
variable {X:Cx}
theorem QN:∀ {bs:List Bool} {us:List Value},Yl (bs.map V.bl) us→LSm.BoolsAre us bs
 | [],_,h=>by rw [Yl.zero h];exact .nil
 | b::bs,us,h=>by
  have h':Yl (V.bl b::bs.map V.bl) us:=h
  cases h' with
  | cons r t=>cases (show _=Value.bool b from r);exact .cons b (QN t)
theorem WS (hc:X.calm=true):Xm X (.builtin "all") (fun xs H Q=>∃ (p:Addr) (bs:List Bool),xs=[.ref p]∧SqL X.K H p (bs.map V.bl)∧Q (.bl (bs.all id)) H):=by
 intro pins s σ H xs us Q I r h
 obtain ⟨p,bs,rfl,hq,q⟩:=h
 obtain ⟨u,rfl,rx⟩:=Ws r
 cases rx
 obtain ⟨its,r',pl,hz⟩:=I.list hq
 have hb:=QN r'
 have hl:=pl.isList
 have hlt:p<s.heap.objs.size:=by obtain ⟨_,e,_⟩:=hl;exact Heap.lt_size e
 refine call_all_walk (wpAny_pyIter_list hl ?_)
 refine ⟨s.heap.objs.size,[s.heap.objs.size,p],[s.heap.objs.size],its.toArray.size,_,_,fun i=>(bs[i]?).getD true,rfl,Walks.list (A:=X.A.in1) (I.ok.hd hc) _ p (Nat.ne_of_lt hlt) its.toArray,
  ⟨⟨_,Heap.get?_push_size _ rfl,rfl,rfl⟩,hl.push _⟩,fun i v s' Q' E' hP hQ=>?_,fun h' tk hk=>?_⟩
 ·obtain ⟨b,e,rfl⟩:=hb.get i v (by simpa using hP)
  simp only [e,Option.getD_some] at hQ
  exact wpAny_truthy_bool hQ
 ·have e:((List.range its.toArray.size).all fun i=>(bs[i]?).getD true)=bs.all id:=by
   rw [List.size_toArray,hb.length];exact LSm.range_all bs
  rw [e]
  exact ⟨.bl _,H,I.kept (t':=tk) (LSm.kept_iter hk),rfl,q⟩
theorem YaU:∀ {ys:List Str} {us:List Value},Yl (ys.map V.str) us→StrsAre us ys
 | [],_,h=>by rw [Yl.zero h];exact .nil
 | y::ys,us,h=>by
  have h':Yl (V.str y::ys.map V.str) us:=h
  cases h' with
  | cons r t=>obtain ⟨t',rfl⟩:=r;exact .cons y t' (YaU t)
def rJoin (K:PySem.W.Frag):V→List V→Hp→VK→Prop:=fun x vs H Q=>∃ (z:Str) (p:Addr) (ys:List Str),x = .str z∧vs=[.ref p]∧SqL K H p (ys.map V.str)∧(ys.map (·.length)).sum+ys.length*z.length≤16777216∧Q (.str (Txt.join z ys)) H
theorem Yd3:MtR X "str.join" (rJoin X.K):=by
 intro pins s σ H x vs v us Q I rx rv h
 obtain ⟨z,p,ys,rfl,rfl,hq,hl,q⟩:=h
 obtain ⟨t,rfl⟩:=rx
 obtain ⟨u,rfl,ru⟩:=rv.one
 cases ru
 obtain ⟨its,r,pl,hz⟩:=I.list hq
 exact join_list pl.isList (by simpa using YaU r) hl fun t' k=>⟨.str _,H,I.tok k,⟨t',rfl⟩,q⟩
def YbB:V→Option Value
 | .ty n=>some (.type n)
 | .ref a=>some (.ref a)
 | _=>none
theorem Yt:Xm X (.builtin "isinstance") (fun xs H Q=>∃ x c cv t b,xs=[x,c]∧YbB c=some cv∧TyOf X.K H x t∧PySem.W.kitOne X.K t cv=some b∧Q (.bl b) H):=by
 intro pins s σ H xs us Q I r h
 obtain ⟨x,c,cv,t,b,rfl,ec,ty,e,q⟩:=h
 obtain ⟨u,w',rfl,ru,rw'⟩:=YdE r
 have ew:w'=cv:=by
  cases c with
  | ty n=>cases (show w'=Value.type n from rw');simpa [YbB] using ec
  | ref a=>cases (show w'=Value.ref a from rw');simpa [YbB] using ec
  | _=>simp [YbB] at ec
 subst ew
 exact Ycc I ru ty e fun tk=>⟨.bl b,H,I.tok tk,rfl,q⟩
end
end L2
namespace L2
open PySem PySem.Spec PyProof.Rows
structure Sub (P:Program) (w:World) (i:Addr) (St:Nat→Heap→Prop) (Ready:Heap→(Nat→Option Value)→Prop):Prop where
 obj:∀ k h,St k h→∃ o,h.get? i=some o∧∀ v,o.data ≠ .cell v
 keep:∀ k h h',St k h→(∀ o,h.get? i=some o→h'.get? i=some o)→St k h'
 item:∀ (A:Around) (k:Nat) (s:Shared) (get:Nat→Option Value) (x:Value) (Q:Value→Shared→Prop) (E:Value→Shared→Prop),St k s.heap→Ready s.heap get→get k=some x →
  (∀ h' tk,St (k+1) h'→Heap.SameBut i s.heap h'→Q x { s with heap:=h',toks:=tk })→wpAny (model P w) A (Builtin.SmallTypes.nextOf (.ref i)) Q E s
 fin:∀ (A:Around) (k:Nat) (s:Shared) (get:Nat→Option Value) (Q:Value→Shared→Prop) (E:Value→Shared→Prop),A.handled=none→St k s.heap→Ready s.heap get→get k=none →
  (∀ h' e,Heap.ExtBut i s.heap h'→(∃ o,h'.get? e=some o∧o.cls = .type "StopIteration")→E (.ref e) { s with heap:=h' })→wpAny (model P w) A (Builtin.SmallTypes.nextOf (.ref i)) Q E s
section
variable {prog:Program} {w:World} {A:Around} {E:Value→Shared→Prop} {s:Shared}
theorem VE {it t:Addr} {i:Nat} {items:Array Value} {x:Value} {Q:Value→Shared→Prop} (hit:s.heap.IsTupleIter it t i) (ht:s.heap.IsTuple t items) (hx:items[i]?=some x)
  (hQ:∀ h',h'.IsTupleIter it t (i+1)→Heap.SameBut it s.heap h'→Q x { s with heap:=h' }):wpAny (model prog w) A (Builtin.SmallTypes.nextOf (.ref it)) Q E s:=by
 obtain ⟨o,ho,hc,hd⟩:=id hit
 obtain ⟨ol,hol,_,nl,hdl⟩:=ht
 unfold Builtin.SmallTypes.nextOf
 refine wpAny_bind (wpAny_callSpecial?_slot (name:=Str.ofString "__next__") hit.typeIs F.slot_tuple_iterator_next (wpAny_call_entry F.slot_tuple_iterator_next hit.typeIs F.entry_tuple_iterator_next ?_ (F.args_tuple_iterator_next_1 _)))
 show wpAny _ _ (field (.ref it) 0 >>= _) _ _ s
 refine wpAny_bind (wpAny_field ho hd (x := .ref t) rfl ?_)
 show wpAny _ _ (if (Value.ref t==Value.none)=true then _ else _) _ _ s
 rw [if_neg (show ¬ ((Value.ref t==Value.none)=true) from Bool.false_ne_true)]
 show wpAny _ _ (field (.ref it) 1 >>= _) _ _ s
 refine wpAny_bind (wpAny_field ho hd (x := .int i 0) rfl ?_)
 show wpAny _ _ (seqItems? (.ref t) >>= _) _ _ s
 refine wpAny_bind (wpAny_seqItems hol hdl ?_)
 simp only [Int.toNat_natCast,hx]
 refine wpAny_bind (wpAny_setField ho hd (by simp) (wpAny_pure ⟨x,rfl,wpAny_pure (hQ _ ?_ (Heap.SameBut.update ..))⟩))
 exact ⟨_,Heap.get?_update_self _ ho (Obj.isFreed_of_fields (Obj.data_mapFields hd _)),(Obj.cls_mapFields ..).trans hc,by rw [Obj.data_mapFields hd];simp [rawInt]⟩
theorem VO {it t:Addr} {i:Nat} {items:Array Value} {Q:Value→Shared→Prop} (hh:A.handled=none) (hit:s.heap.IsTupleIter it t i) (ht:s.heap.IsTuple t items) (hx:items[i]?=none)
  (hE:∀ h' e,Heap.ExtBut it s.heap h'→(∃ o,h'.get? e=some o∧o.cls = .type "StopIteration")→E (.ref e) { s with heap:=h' }):wpAny (model prog w) A (Builtin.SmallTypes.nextOf (.ref it)) Q E s:=by
 obtain ⟨o,ho,hc,hd⟩:=id hit
 obtain ⟨ol,hol,_,nl,hdl⟩:=ht
 unfold Builtin.SmallTypes.nextOf
 refine wpAny_bind (wpAny_callSpecial?_slot (name:=Str.ofString "__next__") hit.typeIs F.slot_tuple_iterator_next (wpAny_call_entry F.slot_tuple_iterator_next hit.typeIs F.entry_tuple_iterator_next ?_ (F.args_tuple_iterator_next_1 _)))
 show wpAny _ _ (field (.ref it) 0 >>= _) _ _ s
 refine wpAny_bind (wpAny_field ho hd (x := .ref t) rfl ?_)
 show wpAny _ _ (if (Value.ref t==Value.none)=true then _ else _) _ _ s
 rw [if_neg (show ¬ ((Value.ref t==Value.none)=true) from Bool.false_ne_true)]
 show wpAny _ _ (field (.ref it) 1 >>= _) _ _ s
 refine wpAny_bind (wpAny_field ho hd (x := .int i 0) rfl ?_)
 show wpAny _ _ (seqItems? (.ref t) >>= _) _ _ s
 refine wpAny_bind (wpAny_seqItems hol hdl ?_)
 simp only [Int.toNat_natCast,hx]
 refine wpAny_bind (wpAny_rule (wpAny_bind (wpAny_setField ho hd (by simp) ?_)))
 show wpAny _ _ (newExc (.type "StopIteration") [] >>= _) _ _ _
 refine wpAny_bind ?_
 simp only [newExc,newTuple]
 refine wpAny_bind (wpAny_newObj_type ?_ (by size_fits))
 refine wpAny_bind (m:=firstArgMember _ _) (wpAny_of_eq (a:=Value.none) (by first | rfl | (simp only [firstArgMember];rfl)) ?_)
 refine wpAny_newObj_type ?_ (by size_fits)
 simp only [raiseNew]
 refine wpAny_bind (wpAny_handled ?_)
 first | rw [show A.in1.handled=none from hh] | rw [hh]
 refine wpAny_bind (wpAny_pure (wpAny_throw ?_))
 exact hE _ _ (((Heap.SameBut.update ..).extBut.push _).push _) ⟨_,Heap.get?_push_size _ rfl,rfl⟩
end
theorem Ycg {P:Program} {w:World} (i t:Addr):Sub P w i (fun k h=>h.IsTupleIter i t k) (fun h get=>∃ items:Array Value,h.IsTuple t items∧∀ k,get k=items[k]?) where
 obj:=fun k h ⟨o,e,c,d⟩=>⟨o,e,fun v z=>by rw [d] at z;cases z⟩
 keep:=fun k h h' st q=>st.at q
 item:=fun A k s get x Q E st ⟨items,ht,hg⟩ hx hQ=>VE st ht ((hg k).symm.trans hx) fun h' st' sb=>hQ h' s.toks st' sb
 fin:=fun A k s get Q E hh st ⟨items,ht,hg⟩ hx hE=>VO hh st ht ((hg k).symm.trans hx) hE
theorem Yc1 {P:Program} {w:World} (i t:Addr):Sub P w i (fun k h=>h.IsListIter i t k) (fun h get=>∃ items:Array Value,h.IsList t items∧∀ k,get k=items[k]?) where
 obj:=fun k h ⟨o,e,c,d⟩=>⟨o,e,fun v z=>by rw [d] at z;cases z⟩
 keep:=fun k h h' st q=>st.at q
 item:=fun A k s get x Q E st ⟨items,ht,hg⟩ hx hQ=>wpAny_nextOf_list_item st ht ((hg k).symm.trans hx) fun h' st' sb=>hQ h' s.toks st' sb
 fin:=fun A k s get Q E hh st ⟨items,ht,hg⟩ hx hE=>wpAny_nextOf_list_end hh st ht ((hg k).symm.trans hx) hE
structure ZApart (z TI TO i1 i2:Addr):Prop where
 a:TI≠z
 b:TO≠z
 c:i1≠z
 d:i2≠z
 e:TI≠TO
 f:TI≠i1
 g:TI≠i2
 h:TO≠i1
 i:TO≠i2
 j:i1≠i2
section
variable {prog:Program} {w:World} {A:Around} {E:Value→Shared→Prop} {s:Shared} {z TI TO i1 i2:Addr} {S1 S2:Nat→Heap→Prop} {R1 R2:Heap→(Nat→Option Value)→Prop} {g1 g2:Nat→Option Value} {k:Nat} {a b:Value}
theorem Yc2 {x y:Value} {Q:Option Value→Shared→Prop} (D:ZApart z TI TO i1 i2) (U1:Sub prog w i1 S1 R1) (U2:Sub prog w i2 S2 R2)
  (k1:∀ h h' g,R1 h g→(∀ c o,c≠z→c≠TO→c≠i1→c≠i2→h.get? c=some o→h'.get? c=some o)→R1 h' g) (k2:∀ h h' g,R2 h g→(∀ c o,c≠z→c≠TO→c≠i1→c≠i2→h.get? c=some o→h'.get? c=some o)→R2 h' g)
  (hz:IsZip s.heap z TI TO .none) (hTI:IsPair s.heap TI (.ref i1) (.ref i2)) (hTO:IsPair s.heap TO a b) (h1:S1 k s.heap) (h2:S2 k s.heap) (r1:R1 s.heap g1) (r2:R2 s.heap g2) (hx:g1 k=some x) (hy:g2 k=some y)
  (hQ:∀ h' tk,IsZip h' z TI TO (rawInt s.heap.objs.size)→IsPair h' TO x y→S1 (k+1) h'→S2 (k+1) h'→IsPair h' s.heap.objs.size x y→h'.objs.size=s.heap.objs.size+1 →
   (∀ c o,c≠z→c≠TO→c≠i1→c≠i2→s.heap.get? c=some o→h'.get? c=some o)→Q (some (.ref s.heap.objs.size)) { s with heap:=h',toks:=tk }) :
  wpAny (model prog w) A (pyNext (.ref z)) Q E s:=by
 have hT:s.TypeIs (.ref z) "zip":=⟨_,hz,rfl⟩
 unfold pyNext
 refine wpAny_bind (wpAny_attempt (wpAny_callSpecial?_slot (name:=Str.ofString "__next__") hT F.slot_zip_next (wpAny_call_entry F.slot_zip_next hT F.entry_zip_next ?_ (F.args_zip_next_1 _))))
 show wpAny _ _ (field (.ref z) 2 >>= _) _ _ _
 refine wpAny_bind (wpAny_field hz rfl (x := .bool false) rfl ?_)
 show wpAny _ _ (field (.ref z) 3 >>= _) _ _ _
 refine wpAny_bind (wpAny_field hz rfl (x := .ref TI) rfl ?_)
 refine wpAny_bind (wpAny_seqItems hTI rfl ?_)
 show wpAny _ _ (Builtin.SmallTypes.ownedTupleIsFree (.ref z) >>= _) _ _ _
 refine wpAny_bind ?_
 unfold Builtin.SmallTypes.ownedTupleIsFree
 refine wpAny_bind (wpAny_field hz rfl (x := .none) rfl (wpAny_pure ?_))
 simp only [if_true]
 refine wpAny_bind (wpAny_rule ?_)
 refine wpAny_bind (wpAny_field hz rfl (x := .ref TO) rfl ?_)
 refine wpAny_bind (wpAny_setField_rec hz (by simp) fun h₁ hz₁ hs₁=>?_)
 replace hz₁:IsZip h₁ z TI TO .ellipsis:=hz₁
 refine wpAny_bind ?_
 simp only [List.zipIdx_cons,List.zipIdx_nil,List.forIn_cons,List.forIn_nil]
 refine wpAny_bind (wpAny_bind (wpAny_onRaise ?_))
 show wpAny _ _ (Builtin.SmallTypes.nextOf (.ref i1) >>= _) _ _ _
 have S1₁:S1 k h₁:=U1.keep _ _ _ h1 fun o e=>hs₁.extBut _ _ D.c e
 have R1₁:R1 h₁ g1:=k1 _ _ _ r1 fun c o c1 _ _ _ e=>hs₁.extBut _ _ c1 e
 refine wpAny_bind (U1.item _ k { s with heap:=h₁ } g1 x _ _ S1₁ R1₁ hx fun h₂ tk₂ S1₂ hs₂=>wpAny_pure ?_)
 have hTO₂:IsPair h₂ TO a b:=hs₂.extBut _ _ D.h (hs₁.extBut _ _ D.b hTO)
 refine wpAny_bind (wpAny_seqItems hTO₂ rfl ?_)
 refine wpAny_bind (wpAny_updateSeq_pair hTO₂ fun h₃ hTO₃ hs₃=>?_)
 replace hTO₃:IsPair h₃ TO x b:=hTO₃
 refine wpAny_bind (wpAny_letGo (wpAny_pure ?_))
 refine wpAny_bind (wpAny_bind (wpAny_onRaise ?_))
 show wpAny _ _ (Builtin.SmallTypes.nextOf (.ref i2) >>= _) _ _ _
 have kk₃:∀ c o,c≠z→c≠TO→c≠i1→c≠i2→s.heap.get? c=some o→h₃.get? c=some o:=fun c o c1 c2 c3 c4 e=>hs₃.extBut _ _ c2 (hs₂.extBut _ _ c3 (hs₁.extBut _ _ c1 e))
 have S2₃:S2 k h₃:=U2.keep _ _ _ h2 fun o e=>hs₃.extBut _ _ D.i.symm (hs₂.extBut _ _ D.j.symm (hs₁.extBut _ _ D.d e))
 refine wpAny_bind (U2.item _ k { s with heap:=h₃,toks:=tk₂ } g2 y _ _ S2₃ (k2 _ _ _ r2 kk₃) hy fun h₄ tk₄ S2₄ hs₄=>wpAny_pure ?_)
 have hTO₄:IsPair h₄ TO x b:=hs₄.extBut _ _ D.i hTO₃
 refine wpAny_bind (wpAny_seqItems hTO₄ rfl ?_)
 refine wpAny_bind (wpAny_updateSeq_pair hTO₄ fun h₅ hTO₅ hs₅=>?_)
 replace hTO₅:IsPair h₅ TO x y:=hTO₅
 refine wpAny_bind (wpAny_letGo (wpAny_pure (wpAny_pure ?_)))
 refine wpAny_bind (wpAny_seqItems hTO₅ rfl ?_)
 refine wpAny_bind (wpAny_newTuple ?_)
 have hsz:h₅.objs.size=s.heap.objs.size:=by rw [hs₅.1,hs₄.1,hs₃.1,hs₂.1,hs₁.1]
 have hz₅:IsZip h₅ z TI TO .ellipsis:=hs₅.extBut _ _ D.b.symm (hs₄.extBut _ _ D.d.symm (hs₃.extBut _ _ D.b.symm (hs₂.extBut _ _ D.c.symm hz₁)))
 have hk₅:∀ c o,c≠z→c≠TO→c≠i1→c≠i2→s.heap.get? c=some o→h₅.get? c=some o:=fun c o c1 c2 c3 c4 e=>hs₅.extBut _ _ c2 (hs₄.extBut _ _ c4 (kk₃ c o c1 c2 c3 c4 e))
 have S1₅:S1 (k+1) h₅:=U1.keep _ _ _ S1₂ fun o e=>hs₅.extBut _ _ D.h.symm (hs₄.extBut _ _ D.j (hs₃.extBut _ _ D.h.symm e))
 have S2₅:S2 (k+1) h₅:=U2.keep _ _ _ S2₄ fun o e=>hs₅.extBut _ _ D.i.symm e
 have hzlt:z<h₅.objs.size:=Heap.lt_size hz₅
 show wpAny _ _ (Builtin.SmallTypes.ownedTupleHandOut (.ref z) (.ref h₅.objs.size) >>= _) _ _ _
 refine wpAny_bind ?_
 unfold Builtin.SmallTypes.ownedTupleHandOut
 have hz₆:IsZip (h₅.push { cls := .type "tuple",data := .seq #[x,y] }) z TI TO .ellipsis:=Heap.get?_push_of_some _ hz₅
 refine wpAny_bind (wpAny_setField_rec hz₆ (by simp) fun h₇ hz₇ hs₇=>?_)
 replace hz₇:IsZip h₇ z TI TO (rawInt h₅.objs.size):=hz₇
 refine wpAny_setField_rec hz₇ (by simp) fun h₈ hz₈ hs₈=>?_
 replace hz₈:IsZip h₈ z TI TO (rawInt h₅.objs.size):=hz₈
 have up:∀ c o,c≠z→h₅.get? c=some o→h₈.get? c=some o:=fun c o c1 e=>hs₈.extBut _ _ c1 (hs₇.extBut _ _ c1 (Heap.get?_push_of_some _ e))
 have hT₈:IsPair h₈ h₅.objs.size x y:=hs₈.extBut _ _ (Nat.ne_of_gt hzlt) (hs₇.extBut _ _ (Nat.ne_of_gt hzlt) (Heap.get?_push_size _ rfl))
 have hz8:h₈.objs.size=h₅.objs.size+1:=by rw [hs₈.1,hs₇.1,Heap.size_push]
 rw [hsz] at hz₈ hT₈ hz8
 refine wpAny_pure ⟨_,rfl,wpAny_pure ?_⟩
 show Q (some (.ref h₅.objs.size)) _
 rw [hsz]
 exact hQ h₈ tk₄ hz₈ (up _ _ D.b hTO₅) (U1.keep _ _ _ S1₅ fun o e=>up _ o D.c e) (U2.keep _ _ _ S2₅ fun o e=>up _ o D.d e) hT₈ hz8 fun c o c1 c2 c3 c4 e=>up c o c1 (hk₅ c o c1 c2 c3 c4 e)
theorem Yd4 {Q:Option Value→Shared→Prop} (hh:A.handled=none) (D:ZApart z TI TO i1 i2) (U1:Sub prog w i1 S1 R1) (U2:Sub prog w i2 S2 R2)
  (k1:∀ h h' g,R1 h g→(∀ c o,c≠z→c≠TO→c≠i1→c≠i2→h.get? c=some o→h'.get? c=some o)→R1 h' g) (k2:∀ h h' g,R2 h g→(∀ c o,c≠z→c≠TO→c≠i1→c≠i2→h.get? c=some o→h'.get? c=some o)→R2 h' g)
  (hz:IsZip s.heap z TI TO .none) (hTI:IsPair s.heap TI (.ref i1) (.ref i2)) (hTO:IsPair s.heap TO a b) (h1:S1 k s.heap) (h2:S2 k s.heap) (r1:R1 s.heap g1) (r2:R2 s.heap g2) (hend:g1 k=none∨g2 k=none)
  (hQ:∀ h' tk,(∀ c o,c≠z→c≠TO→c≠i1→c≠i2→s.heap.get? c=some o→h'.get? c=some o)→Q none { s with heap:=h',toks:=tk }):wpAny (model prog w) A (pyNext (.ref z)) Q E s:=by
 have hT:s.TypeIs (.ref z) "zip":=⟨_,hz,rfl⟩
 unfold pyNext
 refine wpAny_bind (wpAny_attempt (wpAny_callSpecial?_slot (name:=Str.ofString "__next__") hT F.slot_zip_next (wpAny_call_entry F.slot_zip_next hT F.entry_zip_next ?_ (F.args_zip_next_1 _))))
 show wpAny _ _ (field (.ref z) 2 >>= _) _ _ _
 refine wpAny_bind (wpAny_field hz rfl (x := .bool false) rfl ?_)
 show wpAny _ _ (field (.ref z) 3 >>= _) _ _ _
 refine wpAny_bind (wpAny_field hz rfl (x := .ref TI) rfl ?_)
 refine wpAny_bind (wpAny_seqItems hTI rfl ?_)
 show wpAny _ _ (Builtin.SmallTypes.ownedTupleIsFree (.ref z) >>= _) _ _ _
 refine wpAny_bind ?_
 unfold Builtin.SmallTypes.ownedTupleIsFree
 refine wpAny_bind (wpAny_field hz rfl (x := .none) rfl (wpAny_pure ?_))
 simp only [if_true]
 refine wpAny_bind (wpAny_rule ?_)
 refine wpAny_bind (wpAny_field hz rfl (x := .ref TO) rfl ?_)
 refine wpAny_bind (wpAny_setField_rec hz (by simp) fun h₁ hz₁ hs₁=>?_)
 replace hz₁:IsZip h₁ z TI TO .ellipsis:=hz₁
 refine wpAny_bind ?_
 simp only [List.zipIdx_cons,List.zipIdx_nil,List.forIn_cons,List.forIn_nil]
 refine wpAny_bind (wpAny_bind (wpAny_onRaise ?_))
 show wpAny _ _ (Builtin.SmallTypes.nextOf (.ref i1) >>= _) _ _ _
 have S1₁:S1 k h₁:=U1.keep _ _ _ h1 fun o e=>hs₁.extBut _ _ D.c e
 have R1₁:R1 h₁ g1:=k1 _ _ _ r1 fun c o c1 _ _ _ e=>hs₁.extBut _ _ c1 e
 cases hx:g1 k with
 | none =>
  refine wpAny_bind (U1.fin _ k { s with heap:=h₁ } g1 _ _ hh S1₁ R1₁ hx fun h₂ e hs₂ he=>?_)
  obtain ⟨oe,hoe,hce⟩:=he
  have hz₂:IsZip h₂ z TI TO .ellipsis:=hs₂ _ _ D.c.symm hz₁
  have hez:e≠z:=fun x=>by subst x;rw [hz₂] at hoe;cases hoe;simp at hce
  refine wpAny_setField_rec hz₂ (by simp) fun h₃ _ hs₃=>?_
  refine wpAny_bind (wpAny_isInstance (T:="StopIteration") (b:=true) ⟨oe,hs₃.extBut _ _ hez hoe,hce⟩ isSubtype_stop ?_)
  exact wpAny_pure (hQ h₃ s.toks fun c o c1 _ c3 _ x=>hs₃.extBut _ _ c1 (hs₂ _ _ c3 (hs₁.extBut _ _ c1 x)))
 | some x =>
  have hy:g2 k=none:=by rcases hend with h | h;rw [hx] at h;cases h;exact h
  refine wpAny_bind (U1.item _ k { s with heap:=h₁ } g1 x _ _ S1₁ R1₁ hx fun h₂ tk₂ S1₂ hs₂=>wpAny_pure ?_)
  have hTO₂:IsPair h₂ TO a b:=hs₂.extBut _ _ D.h (hs₁.extBut _ _ D.b hTO)
  refine wpAny_bind (wpAny_seqItems hTO₂ rfl ?_)
  refine wpAny_bind (wpAny_updateSeq_pair hTO₂ fun h₃ hTO₃ hs₃=>?_)
  refine wpAny_bind (wpAny_letGo (wpAny_pure ?_))
  refine wpAny_bind (wpAny_bind (wpAny_onRaise ?_))
  show wpAny _ _ (Builtin.SmallTypes.nextOf (.ref i2) >>= _) _ _ _
  have kk₃:∀ c o,c≠z→c≠TO→c≠i1→c≠i2→s.heap.get? c=some o→h₃.get? c=some o:=fun c o c1 c2 c3 c4 e=>hs₃.extBut _ _ c2 (hs₂.extBut _ _ c3 (hs₁.extBut _ _ c1 e))
  have S2₃:S2 k h₃:=U2.keep _ _ _ h2 fun o e=>hs₃.extBut _ _ D.i.symm (hs₂.extBut _ _ D.j.symm (hs₁.extBut _ _ D.d e))
  refine wpAny_bind (U2.fin _ k { s with heap:=h₃,toks:=tk₂ } g2 _ _ hh S2₃ (k2 _ _ _ r2 kk₃) hy fun h₄ e hs₄ he=>?_)
  obtain ⟨oe,hoe,hce⟩:=he
  have hz₄:IsZip h₄ z TI TO .ellipsis:=hs₄ _ _ D.d.symm (hs₃.extBut _ _ D.b.symm (hs₂.extBut _ _ D.c.symm hz₁))
  have hez:e≠z:=fun x=>by subst x;rw [hz₄] at hoe;cases hoe;simp at hce
  refine wpAny_setField_rec hz₄ (by simp) fun h₅ _ hs₅=>?_
  refine wpAny_bind (wpAny_isInstance (T:="StopIteration") (b:=true) ⟨oe,hs₅.extBut _ _ hez hoe,hce⟩ isSubtype_stop ?_)
  exact wpAny_pure (hQ h₅ tk₂ fun c o c1 c2 c3 c4 x=>hs₅.extBut _ _ c1 (hs₄ _ _ c4 (kk₃ c o c1 c2 c3 c4 x)))
end
end L2
namespace L2
open PySem PySem.Spec PyProof.Rows
abbrev zpH (h:Heap) (o1 o2:Obj):Heap:=((h.push o1).push o2)
abbrev zpT (h:Heap) (o1 o2:Obj):Heap:=(zpH h o1 o2).push { cls := .type "tuple",data := .seq #[.ref h.objs.size,.ref (h.push o1).objs.size] }
abbrev zpO (h:Heap) (o1 o2:Obj):Heap:=(zpT h o1 o2).push { cls := .type "tuple",data := .seq #[.none,.none] }
abbrev zpZ (h:Heap) (o1 o2:Obj):Heap:=(zpO h o1 o2).push { cls := .type "zip",data := .fields #[.none,.bool false,.bool false,.ref (zpH h o1 o2).objs.size,.ref (zpT h o1 o2).objs.size] }
def XX (h:Heap) (v:Value) (o:Obj):Prop:=∀ (prog:Program) (w:World) (A:Around) (E:Value→Shared→Prop) (s:Shared) (Q:Value→Shared→Prop),(∀ b ob,h.get? b=some ob→s.heap.get? b=some ob) →
 Q (.ref s.heap.objs.size) { s with heap:=s.heap.push o }→wpAny (model prog w) A (pyIter v) Q E s
theorem Vf {h:Heap} {t:Addr} {items:Array Value} (ht:h.IsTuple t items):XX h (.ref t) { cls := .type "tuple_iterator",data := .fields #[.ref t,.int 0 0] }:=fun prog w A E s Q k q=>by
 obtain ⟨o,e,r⟩:=ht
 exact wpAny_pyIter_tuple (items:=items) ⟨o,k _ _ e,r⟩ q
theorem Vl {h:Heap} {t:Addr} {items:Array Value} (ht:h.IsList t items):XX h (.ref t) { cls := .type "list_iterator",data := .fields #[.ref t,.int 0 0] }:=fun prog w A E s Q k q=>by
 obtain ⟨o,e,r⟩:=ht
 exact wpAny_pyIter_list (items:=items) ⟨o,k _ _ e,r⟩ q
theorem YbC (v1 v2:Value) (o1 o2:Obj) :
  Meets (Builtin.«zip.__new__» ⟨[.type "zip",v1,v2],[]⟩) (fun _ R s=>XX s.heap v1 o1∧XX s.heap v2 o2∧R (.ok (.ret (.ref (zpO s.heap o1 o2).objs.size))) { s with heap:=zpZ s.heap o1 o2 }) :=
 .of_wp fun prog w A R s h=>by
  obtain ⟨hp,g,d,tk,os⟩:=s
  obtain ⟨h1,h2,h⟩:=h
  have hsub:=sub_zip
  have p1:∀ {A':Around} {E:Value→Shared→Prop} {Q:Value→Shared→Prop},Q (.ref hp.objs.size) ⟨hp.push o1,g,d,tk,os⟩→wpAny (model prog w) A' (pyIter v1) Q E ⟨hp,g,d,tk,os⟩:=fun q=>h1 prog w _ _ ⟨hp,g,d,tk,os⟩ _ (fun _ _ e=>e) q
  have p2:∀ {A':Around} {E:Value→Shared→Prop} {Q:Value→Shared→Prop},Q (.ref (hp.push o1).objs.size) ⟨(hp.push o1).push o2,g,d,tk,os⟩→wpAny (model prog w) A' (pyIter v2) Q E ⟨hp.push o1,g,d,tk,os⟩:=fun q=>h2 prog w _ _ ⟨hp.push o1,g,d,tk,os⟩ _ (fun _ _ e=>Heap.get?_push_of_some _ e) q
  wp_walk using p1,p2
  exact ⟨_,rfl,h⟩
section
variable {prog:Program} {w:World} {A:Around} {E:Value→Shared→Prop} {s:Shared}
theorem Ych {v1 v2:Value} {o1 o2:Obj} {Q:Value→Shared→Prop} (p1:XX s.heap v1 o1) (p2:XX s.heap v2 o2) (f1:o1.isFreed=false) (f2:o2.isFreed=false)
  (h:∀ h',IsZip h' (s.heap.objs.size+4) (s.heap.objs.size+2) (s.heap.objs.size+3) .none→IsPair h' (s.heap.objs.size+2) (.ref s.heap.objs.size) (.ref (s.heap.objs.size+1))→IsPair h' (s.heap.objs.size+3) .none .none →
   h'.get? s.heap.objs.size=some o1→h'.get? (s.heap.objs.size+1)=some o2→h'.objs.size=s.heap.objs.size+5→(∀ c o,s.heap.get? c=some o→h'.get? c=some o)→Q (.ref (s.heap.objs.size+4)) { s with heap:=h' }) :
  wpAny (model prog w) A (call (.type "zip") [v1,v2]) Q E s:=by
 refine callType_new F.called_zip (by decide) (F.typeCall_zip_2 _ _) (F.newCall_zip_2 _ _) (fun obj=>F.args_object_init_3 obj _ _) F.entry_zip_new (YbC v1 v2 o1 o2) ⟨p1,p2,?_⟩
 have z1:(s.heap.push o1).objs.size=s.heap.objs.size+1:=Heap.size_push ..
 have z2:(zpH s.heap o1 o2).objs.size=s.heap.objs.size+2:=by rw [Heap.size_push,z1]
 have z3:(zpT s.heap o1 o2).objs.size=s.heap.objs.size+3:=by rw [Heap.size_push,z2]
 have z4:(zpO s.heap o1 o2).objs.size=s.heap.objs.size+4:=by rw [Heap.size_push,z3]
 have z5:(zpZ s.heap o1 o2).objs.size=s.heap.objs.size+5:=by rw [Heap.size_push,z4]
 have g5:(zpZ s.heap o1 o2).get? (zpO s.heap o1 o2).objs.size=some _:=Heap.get?_push_size _ rfl
 have g4:(zpZ s.heap o1 o2).get? (zpT s.heap o1 o2).objs.size=some _:=Heap.get?_push_of_some _ (Heap.get?_push_size _ rfl)
 have g3:(zpZ s.heap o1 o2).get? (zpH s.heap o1 o2).objs.size=some _:=Heap.get?_push_of_some _ (Heap.get?_push_of_some _ (Heap.get?_push_size _ rfl))
 have g2:(zpZ s.heap o1 o2).get? (s.heap.push o1).objs.size=some o2:=Heap.get?_push_of_some _ (Heap.get?_push_of_some _ (Heap.get?_push_of_some _ (Heap.get?_push_size _ f2)))
 have g1:(zpZ s.heap o1 o2).get? s.heap.objs.size=some o1:=Heap.get?_push_of_some _ (Heap.get?_push_of_some _ (Heap.get?_push_of_some _ (Heap.get?_push_of_some _ (Heap.get?_push_size _ f1))))
 show _∧_
 rw [z2,z3,z4] at g5
 rw [z1,z2] at g3
 rw [z3] at g4
 rw [z1] at g2
 rw [z4]
 exact ⟨⟨_,g5,rfl⟩,h _ g5 g3 g4 g1 g2 z5 fun c o x=>Heap.get?_push_of_some _ (Heap.get?_push_of_some _ (Heap.get?_push_of_some _ (Heap.get?_push_of_some _ (Heap.get?_push_of_some _ x))))⟩
end
section
variable {X:Cx} {pins:List (Addr×Obj)} {σ:St} {H:Hp} {s:Shared} {h':Heap}
theorem Inv.turnedL {t':Nat} {ch:List Addr} (I:Inv X pins σ H s) (k:∀ b o,b∉ch→s.heap.get? b=some o→h'.get? b=some o) (hf:∀ b∈ch,XV X pins H b):Inv X pins σ H { s with heap:=h',toks:=t' }:=by
 have nit:∀ b u,H b=some u→b∉ch:=fun b u e z=>by rw [(hf b z).1] at e;cases e
 refine I.step (g':=s.gens) (d':=s.drawn) (ch:=ch) (fun b hb=>?_) (fun b o _ _ hc e _=>k b o hc e) (fun b o _ _ hc e _=>⟨o.slots,k b o hc e⟩) (fun _ _ _ _ n=>n)
  (fun b o hc e=>⟨o,k b o hc e⟩) (fun _ _ e=>e) (fun _ _ _ e=>e) (fun b ps e=>⟨#[],by rw [e];simp⟩) (fun m hm=>?_) (fun b u e=>?_) I.bare
 ·obtain ⟨f0,f1,f2,f3,f4,f5⟩:=hf b hb
  exact ⟨f3,f1,f4,f5⟩
 ·obtain ⟨o,es,ep,ho,r⟩:=hm
  exact ⟨o,es,ep,k _ o (fun z=>(hf _ z).2.1 rfl) ho,r⟩
 ·refine (I.hok b u e).stay (fun c v hc q=>k c v ?_ q) (fun _ q=>q) fun _ _ q=>q
  rcases hc with z | z
  ·rw [z];exact nit b u e
  ·exact nit c _ z
theorem Inv.turnedT {t':Nat} {ch:List Addr} {T:Addr} {vs:List V} (I:Inv X pins σ H s) (k:∀ b o,b∉ch→s.heap.get? b=some o→h'.get? b=some o) (hf:∀ b∈ch,XV X pins H b) (hT:s.heap.objs.size≤T)
  (new:YK X.prog X.w (upd H T (.tup vs)) h' T (.tup vs)):Inv X pins σ (upd H T (.tup vs)) { s with heap:=h',toks:=t' }:=by
 have hn:H T=none:=I.hok.fresh hT
 have nit:∀ b u,H b=some u→b∉ch:=fun b u e z=>by rw [(hf b z).1] at e;cases e
 have nT:∀ b o,s.heap.get? b=some o→b≠T:=fun b o e z=>absurd (Heap.lt_size e) (by rw [z];exact Nat.not_lt.mpr hT)
 have up:∀ b u,H b=some u→upd H T (.tup vs) b=some u:=fun b u e=>by rw [Yh (Yu e hn)];exact e
 refine I.step (g':=s.gens) (d':=s.drawn) (ch:=ch) (fun b hb=>?_) (fun b o _ _ hc e _=>k b o hc e) (fun b o _ _ hc e _=>⟨o.slots,k b o hc e⟩) (fun b o _ e n=>by rw [Yh (nT b o e)];exact n)
  (fun b o hc e=>⟨o,k b o hc e⟩) (fun b xs e=>up b _ e) (fun b o u e=>up b _ e) (fun b ps e=>⟨#[],by rw [up b _ e];simp⟩) (fun m hm=>?_) (fun b u e=>?_) I.bare
 ·obtain ⟨f0,f1,f2,f3,f4,f5⟩:=hf b hb
  exact ⟨f3,f1,f4,f5⟩
 ·obtain ⟨o,es,ep,ho,r⟩:=hm
  exact ⟨o,es,ep,k _ o (fun z=>(hf _ z).2.1 rfl) ho,r⟩
 ·by_cases hb:b=T
  ·subst hb;rw [Yc] at e;cases e;exact new
  ·rw [Yh hb] at e
   refine (I.hok b u e).stay (fun c v hc q=>k c v ?_ q) (fun c q=>up c _ q) fun c xs q=>up c _ q
   rcases hc with z | z
   ·rw [z];exact nit b u e
   ·exact nit c _ z
end
def Itz (G1 G2:Hp→List V→Prop):It :=
 ⟨fun i H=>∃ xs ys x y,G1 H xs∧G2 H ys∧xs[i]?=some x∧ys[i]?=some y,fun i H v H'=>∃ T,v = .ref T∧H T=none∧∀ xs ys x y,G1 H xs→G2 H ys→xs[i]?=some x→ys[i]?=some y→H'=upd H T (.tup [x,y]),
  fun i H=>∃ xs ys,G1 H xs∧G2 H ys∧(xs.length≤i∨ys.length≤i)⟩
structure Part (K:PySem.W.Frag) (G:Hp→List V→Prop) (Si:Addr→Nat→Heap→Prop) (R:Heap→(Nat→Option Value)→Prop) (own:Addr):Prop where
 sub:∀ (P:Program) (w:World) (i:Addr),Sub P w i (Si i) R
 ready:∀ (X:Cx),X.K=K→∀ (pins:List (Addr×Obj)) (σ:St) (H:Hp) (s:Shared) (xs:List V),Inv X pins σ H s→G H xs→∃ us:List Value,Yl xs us∧R s.heap (fun k=>us[k]?)
 inj:∀ (X:Cx),X.K=K→∀ (pins:List (Addr×Obj)) (σ:St) (H:Hp) (s:Shared) (xs ys:List V),Inv X pins σ H s→G H xs→G H ys→xs=ys
 keep:∀ h h' g,R h g→(∀ o,h.get? own=some o→h'.get? own=some o)→R h' g
theorem Ud {K:PySem.W.Frag} (a:Addr):Part K (fun H xs=>SqT K H a xs) (fun i k h=>h.IsTupleIter i a k) (fun h get=>∃ items:Array Value,h.IsTuple a items∧∀ k,get k=items[k]?) a where
 sub:=fun P w i=>Ycg i a
 ready:=fun X hK pins σ H s xs I hq=>by
  subst hK
  obtain ⟨its,r,ht,_⟩:=I.tuple hq
  exact ⟨its,r,its.toArray,ht,fun k=>by simp⟩
 inj:=fun X hK pins σ H s xs ys I h1 h2=>by subst hK;exact I.tuple_inj h1 h2
 keep:=fun h h' g ⟨items,⟨o,e,r⟩,q⟩ k=>⟨items,⟨o,k o e,r⟩,q⟩
theorem U3 {K:PySem.W.Frag} (a:Addr):Part K (fun H xs=>SqL K H a xs) (fun i k h=>h.IsListIter i a k) (fun h get=>∃ items:Array Value,h.IsList a items∧∀ k,get k=items[k]?) a where
 sub:=fun P w i=>Yc1 i a
 ready:=fun X hK pins σ H s xs I hq=>by
  subst hK
  obtain ⟨its,r,ht,_⟩:=I.list hq
  exact ⟨its,r,its.toArray,ht.isList,fun k=>by simp⟩
 inj:=fun X hK pins σ H s xs ys I h1 h2=>by subst hK;exact I.list_inj h1 h2
 keep:=fun h h' g ⟨items,⟨o,e,r⟩,q⟩ k=>⟨items,⟨o,k o e,r⟩,q⟩
theorem Yc3 {P:Program} {w:World} {K:PySem.W.Frag} {elts:List Expr} {kk:Nat} {pos:Pos} {G1 G2:Hp→List V→Prop} {S1 S2:Addr→Nat→Heap→Prop} {R1 R2:Heap→(Nat→Option Value)→Prop} {a1 a2:Addr}
  (p1:Part K G1 S1 R1 a1) (p2:Part K G2 S2 R2 a2) {z TI TO i1 i2:Addr} (D:ZApart z TI TO i1 i2) (n1:a1∉[z,TO,i1,i2]) (n2:a2∉[z,TO,i1,i2]) :
  Turn P w K (.Tuple elts kk pos) (Itz G1 G2) [z,TI,TO,i1,i2] z (fun i h=>IsZip h z TI TO .none∧IsPair h TI (.ref i1) (.ref i2)∧(∃ a b,IsPair h TO a b)∧S1 i1 i h∧S2 i2 i h) where
 mem:=by simp
 obj:=fun i h ⟨hz,hTI,⟨a,b,hTO⟩,h1,h2⟩ c hc=>by
  simp only [List.mem_cons,List.not_mem_nil,or_false] at hc
  rcases hc with rfl | rfl | rfl | rfl | rfl
  ·exact ⟨_,hz,fun v e=>by cases e⟩
  ·exact ⟨_,hTI,fun v e=>by cases e⟩
  ·exact ⟨_,hTO,fun v e=>by cases e⟩
  ·exact (p1.sub P w _).obj _ _ h1
  ·exact (p2.sub P w _).obj _ _ h2
 keep:=fun i h h' ⟨hz,hTI,⟨a,b,hTO⟩,h1,h2⟩ q =>
  ⟨q z (by simp) _ hz,q TI (by simp) _ hTI,⟨a,b,q TO (by simp) _ hTO⟩,(p1.sub P w i1).keep _ _ _ h1 (q i1 (by simp)),(p2.sub P w i2).keep _ _ _ h2 (q i2 (by simp))⟩
 item:=by
  intro X hP hw hK hc i pins s σ H E I hf ⟨hz,hTI,⟨a,b,hTO⟩,h1,h2⟩ hg
  subst hP hw
  obtain ⟨xs,ys,x,y,g1,g2,hx,hy⟩:=hg
  obtain ⟨us1,r1,rd1⟩:=p1.ready X hK pins σ H s xs I g1
  obtain ⟨us2,r2,rd2⟩:=p2.ready X hK pins σ H s ys I g2
  obtain ⟨u,hu,ru⟩:=r1.get hx
  obtain ⟨v,hv,rv⟩:=r2.get hy
  have out:∀ c,c≠z→c≠TO→c≠i1→c≠i2→c∉[z,TO,i1,i2]:=fun c c1 c2 c3 c4 hm=>by
   simp only [List.mem_cons,List.not_mem_nil,or_false] at hm
   rcases hm with e | e | e | e<;>contradiction
  have sep:∀ {c:Addr},c∉[z,TO,i1,i2]→c≠z∧c≠TO∧c≠i1∧c≠i2:=fun hm=>⟨fun e=>hm (by simp [e]),fun e=>hm (by simp [e]),fun e=>hm (by simp [e]),fun e=>hm (by simp [e])⟩
  obtain ⟨m1,m2,m3,m4⟩:=sep n1
  obtain ⟨m5,m6,m7,m8⟩:=sep n2
  refine Yc2 (k:=i) D (p1.sub _ _ i1) (p2.sub _ _ i2) (fun h h' g r q=>p1.keep _ _ _ r fun o e=>q a1 o m1 m2 m3 m4 e) (fun h h' g r q=>p2.keep _ _ _ r fun o e=>q a2 o m5 m6 m7 m8 e) hz hTI hTO h1 h2 rd1 rd2 hu hv fun h' tk hz' hTO' h1' h2' hT' hsz keep=>?_
  refine ⟨_,rfl,?_⟩
  refine wpAny_letOwnedTupleGo_zip (s:={ s with heap:=h',toks:=tk }) hz' fun h'' hz'' sb=>?_
  have zlt:z<s.heap.objs.size:=Heap.lt_size hz
  have kp:∀ c o,c∉[z,TO,i1,i2]→s.heap.get? c=some o→h''.get? c=some o:=fun c o hm e=>by
   obtain ⟨c1,c2,c3,c4⟩:=sep hm
   exact sb.extBut c o c1 (keep c o c1 c2 c3 c4 e)
  have hT'':IsPair h'' s.heap.objs.size u v:=sb.extBut _ _ (Nat.ne_of_gt zlt) hT'
  have fp4:∀ c∈[z,TO,i1,i2],XV X pins H c:=fun c hm=>hf c (by
   simp only [List.mem_cons,List.not_mem_nil,or_false] at hm ⊢
   rcases hm with e | e | e | e<;>simp [e])
  have I':=I.turnedT (t':=tk) (h':=h'') (T:=s.heap.objs.size) (vs:=[x,y]) kp fp4 (Nat.le_refl _) (show YK X.prog X.w _ h'' _ (.tup [x,y]) from ⟨by show 2≤sizeLine;decide,[u,v],.cons ru (.cons rv .nil),_,hT'',rfl,_,rfl⟩)
  have fresh:H s.heap.objs.size=none:=I.hok.fresh (Nat.le_refl _)
  refine ⟨.ref s.heap.objs.size,_,I',rfl,⟨_,rfl,fresh,fun xs' ys' x' y' g1' g2' hx' hy'=>?_⟩,⟨hz'',sb.extBut _ _ D.a (keep _ _ D.a D.e D.f D.g hTI),⟨_,_,sb.extBut _ _ D.b hTO'⟩,(p1.sub X.prog X.w i1).keep _ _ _ h1' fun o e=>sb.extBut _ _ D.c e,(p2.sub X.prog X.w i2).keep _ _ _ h2' fun o e=>sb.extBut _ _ D.d e⟩,fun c hm=>?_⟩
  ·rw [p1.inj X hK pins σ H s _ _ I g1' g1,hx] at hx'
   rw [p2.inj X hK pins σ H s _ _ I g2' g2,hy] at hy'
   cases hx'
   cases hy'
   rfl
  ·have h0:=(hf c hm).1
   have clt:c<s.heap.objs.size:=by
    simp only [List.mem_cons,List.not_mem_nil,or_false] at hm
    rcases hm with rfl | rfl | rfl | rfl | rfl
    ·exact zlt
    ·exact Heap.lt_size hTI
    ·exact Heap.lt_size hTO
    ·obtain ⟨o,e,_⟩:=(p1.sub X.prog X.w _).obj _ _ h1;exact Heap.lt_size e
    ·obtain ⟨o,e,_⟩:=(p2.sub X.prog X.w _).obj _ _ h2;exact Heap.lt_size e
   rw [Yh (Nat.ne_of_lt clt)]
   exact h0
 done:=by
  intro X hP hw hK hc i pins s σ H E I hf ⟨hz,hTI,⟨a,b,hTO⟩,h1,h2⟩ hg
  subst hP hw
  obtain ⟨xs,ys,g1,g2,hend⟩:=hg
  obtain ⟨us1,r1,rd1⟩:=p1.ready X hK pins σ H s xs I g1
  obtain ⟨us2,r2,rd2⟩:=p2.ready X hK pins σ H s ys I g2
  have sep:∀ {c:Addr},c∉[z,TO,i1,i2]→c≠z∧c≠TO∧c≠i1∧c≠i2:=fun hm=>⟨fun e=>hm (by simp [e]),fun e=>hm (by simp [e]),fun e=>hm (by simp [e]),fun e=>hm (by simp [e])⟩
  obtain ⟨m1,m2,m3,m4⟩:=sep n1
  obtain ⟨m5,m6,m7,m8⟩:=sep n2
  have l1:=r1.length
  have l2:=r2.length
  refine Yd4 (k:=i) (I.ok.hd hc) D (p1.sub _ _ i1) (p2.sub _ _ i2) (fun h h' g r q=>p1.keep _ _ _ r fun o e=>q a1 o m1 m2 m3 m4 e) (fun h h' g r q=>p2.keep _ _ _ r fun o e=>q a2 o m5 m6 m7 m8 e) hz hTI hTO h1 h2 rd1 rd2 ?_ fun h' tk keep=>?_
  ·rcases hend with e | e
   ·exact .inl (by simp;omega)
   ·exact .inr (by simp;omega)
  ·refine ⟨rfl,I.turnedL (ch:=[z,TO,i1,i2]) (fun c o hm e=>?_) fun c hm=>hf c (by
    simp only [List.mem_cons,List.not_mem_nil,or_false] at hm ⊢
    rcases hm with e | e | e | e<;>simp [e])⟩
   obtain ⟨c1,c2,c3,c4⟩:=sep hm
   exact keep c o c1 c2 c3 c4 e
 self:=fun A i s Q E ⟨hz,_⟩ q=>wpAny_pyIter_zip hz q
end L2
namespace L2
open PySem PySem.Spec PyProof.Rows
section
variable {X:Cx} {elts:List Expr} {kk:Nat} {tpos:Pos}
theorem YbD (n:Nat):ZApart (n+4) (n+2) (n+3) n (n+1):=by
 constructor<;>(intro e;have e':@Eq Nat _ _:=e;omega)
def Qs (K:PySem.W.Frag) (ta:TA):TI:=fun σ H R=>ta σ H fun vs H1=>∃ a b xs ys,vs=[.ref a,.ref b]∧SqT K H1 a xs∧SqT K H1 b ys∧R (Itz (fun H xs=>SqT K H a xs) (fun H ys=>SqT K H b ys)) H1
def Qt (K:PySem.W.Frag) (ta:TA):TI:=fun σ H R=>ta σ H fun vs H1=>∃ a b xs ys,vs=[.ref a,.ref b]∧SqL K H1 a xs∧SqL K H1 b ys∧R (Itz (fun H xs=>SqL K H a xs) (fun H ys=>SqL K H b ys)) H1
theorem YaV {pins:List (Addr×Obj)} {σ:St} {H:Hp} {s:Shared} {R:It→Hp→Prop} {E:Value→Shared→Prop} {G1 G2:Hp→List V→Prop} {S1 S2:Addr→Nat→Heap→Prop} {R1 R2:Heap→(Nat→Option Value)→Prop} {a b:Addr} {o1 o2:Obj}
  (I:Inv X pins σ H s) (p1:Part X.K G1 S1 R1 a) (p2:Part X.K G2 S2 R2 b) (t1:XX s.heap (.ref a) o1) (t2:XX s.heap (.ref b) o2) (f1:o1.isFreed=false) (f2:o2.isFreed=false) (la:a<s.heap.objs.size) (lb:b<s.heap.objs.size)
  (s1:∀ h i,h.get? i=some o1→S1 i 0 h) (s2:∀ h i,h.get? i=some o2→S2 i 0 h) (q:R (Itz G1 G2) H) :
  wpAny (model X.prog X.w) X.A (call (.type "zip") [.ref a,.ref b]) (fun v s1=>wpAny (model X.prog X.w) X.A (pyIter v) (PIE X pins σ (.Tuple elts kk tpos) R) E s1) E s:=by
 refine Ych t1 t2 f1 f2 fun h' hz hTI hTO g1 g2 hsz keep=>?_
 refine wpAny_pyIter_zip hz ?_
 have I1:Inv X pins σ H { s with heap:=h' }:=I.kept (t':=s.toks) keep
 refine ⟨_,[s.heap.objs.size+4,s.heap.objs.size+2,s.heap.objs.size+3,s.heap.objs.size,s.heap.objs.size+1],_,_,H,rfl,I1,Yc3 (K:=X.K) p1 p2 (YbD s.heap.objs.size) ?_ ?_,⟨hz,hTI,⟨_,_,hTO⟩,s1 _ _ g1,s2 _ _ g2⟩,fun c hc=>?_,q⟩
 ·intro hm
  simp only [List.mem_cons,List.not_mem_nil,or_false] at hm
  rcases hm with e | e | e | e<;>(have e':@Eq Nat _ _:=e;have la':@LT.lt Nat _ a s.heap.objs.size:=la;have lb':@LT.lt Nat _ b s.heap.objs.size:=lb;omega)
 ·intro hm
  simp only [List.mem_cons,List.not_mem_nil,or_false] at hm
  rcases hm with e | e | e | e<;>(have e':@Eq Nat _ _:=e;have la':@LT.lt Nat _ a s.heap.objs.size:=la;have lb':@LT.lt Nat _ b s.heap.objs.size:=lb;omega)
 ·have hle:s.heap.objs.size≤c:=by
   simp only [List.mem_cons,List.not_mem_nil,or_false] at hc
   rcases hc with e | e | e | e | e<;>(have e':@Eq Nat _ _:=e;show @LE.le Nat _ s.heap.objs.size c;omega)
  exact I.fpOk hle (I.hok.fresh hle)
theorem YaW {a b:Expr} {ta:TA} {p pos:Pos} (hg:Gl X "zip") (hm:X.mg "zip"=none) (ha:PA X [a,b] ta) (hs:starEach [a,b] X.env=[(false,eval a X.env),(false,eval b X.env)]) (hs2:starEach [b] X.env=[(false,eval b X.env)]) :
  PI X (.Tuple elts kk tpos) (.Call (.Name "zip" p) [a,b] [] pos) (Qs X.K ta):=by
 intro pins s σ H R I h
 refine Call_ (WN I hg hm boot_zip (PyProof.Rows.callWith_type1 (thn (ha pos pins s σ H _ I h) fun us s1 ⟨vs,H1,I1,r1,q1⟩=>?_) (by rw [hs,hs2]) (by rw [hs2];rfl)))
 obtain ⟨x,y,xs,ys,e,hx,hy,q⟩:=q1
 subst e
 obtain ⟨u,v,rfl,ru,rv⟩:=r1.two
 cases ru
 cases rv
 obtain ⟨i1,_,ht1,_⟩:=I1.tuple hx
 obtain ⟨i2,_,ht2,_⟩:=I1.tuple hy
 have l1:x<s1.heap.objs.size:=by obtain ⟨_,e,_⟩:=ht1;exact Heap.lt_size e
 have l2:y<s1.heap.objs.size:=by obtain ⟨_,e,_⟩:=ht2;exact Heap.lt_size e
 exact YaV I1 (Ud x) (Ud y) (Vf ht1) (Vf ht2) rfl rfl l1 l2 (fun h i e=>⟨_,e,rfl,rfl⟩) (fun h i e=>⟨_,e,rfl,rfl⟩) q
theorem YaX {a b:Expr} {ta:TA} {p pos:Pos} (hg:Gl X "zip") (hm:X.mg "zip"=none) (ha:PA X [a,b] ta) (hs:starEach [a,b] X.env=[(false,eval a X.env),(false,eval b X.env)]) (hs2:starEach [b] X.env=[(false,eval b X.env)]) :
  PI X (.Tuple elts kk tpos) (.Call (.Name "zip" p) [a,b] [] pos) (Qt X.K ta):=by
 intro pins s σ H R I h
 refine Call_ (WN I hg hm boot_zip (PyProof.Rows.callWith_type1 (thn (ha pos pins s σ H _ I h) fun us s1 ⟨vs,H1,I1,r1,q1⟩=>?_) (by rw [hs,hs2]) (by rw [hs2];rfl)))
 obtain ⟨x,y,xs,ys,e,hx,hy,q⟩:=q1
 subst e
 obtain ⟨u,v,rfl,ru,rv⟩:=r1.two
 cases ru
 cases rv
 obtain ⟨i1,_,ht1,_⟩:=I1.list hx
 obtain ⟨i2,_,ht2,_⟩:=I1.list hy
 have l1:x<s1.heap.objs.size:=by obtain ⟨_,e,_⟩:=ht1.isList;exact Heap.lt_size e
 have l2:y<s1.heap.objs.size:=by obtain ⟨_,e,_⟩:=ht2.isList;exact Heap.lt_size e
 exact YaV I1 (U3 x) (U3 y) (Vl ht1.isList) (Vl ht2.isList) rfl rfl l1 l2 (fun h i e=>⟨_,e,rfl,rfl⟩) (fun h i e=>⟨_,e,rfl,rfl⟩) q
theorem YeJ {J:It} {P:Hp→Prop} {n:Nat} (hgo:∀ i H,P H→i<n→J.go i H) (hstop:∀ H,P H→J.stop n H) {src:List (Option Nat)} {g:TG} {tt:TT} {te:TE} {σ:St} {H1:Hp} {Q:VK} {D:Addr} (Pv:Nat→List V→St→Hp→Prop)
  (h0:Pv 0 [] (YI src σ) (upd H1 D (.lst []))) (hP:∀ i ys σ' H',Pv i ys σ' H'→P H'∧H' D=some (.lst ys))
  (step:∀ i ys σ' H',i<n→Pv i ys σ' H'→∀ x H3,J.yld i H' x H3→g x σ' H3 fun σ2 H4=>tt σ2 H4 fun b H5=>if b=true then te σ2 H5 fun y H6=>H6 D=some (.lst ys)∧ys.length<sizeLine∧Pv (i+1) (ys++[y]) σ2 (upd H6 D (.lst (ys++[y]))) else Pv (i+1) ys σ2 H5)
  (fin:∀ ys σ' H',Pv n ys σ' H'→Q (.ref D) H') :
  LC src J g tt te σ H1 Q D:=by
 refine ⟨fun i m ys σ' H'=>m=n - i∧i≤n∧Pv i ys σ' H',⟨n,by simp,Nat.zero_le _,h0⟩,?_⟩
 rintro i m ys σ' H2 ⟨rfl,hi,p⟩
 obtain ⟨hp,hD⟩:=hP i ys σ' H2 p
 refine ⟨hD,?_⟩
 by_cases hlt:i<n
 ·refine .inr ⟨hgo i H2 hp hlt,fun ys' σ3 H3=>Pv (i+1) ys' σ3 H3,fun ys' σ3 H3 p'=>⟨n - (i+1),by omega,rfl,hlt,p'⟩,fun x H3 y=>step i ys σ' H2 hlt p x H3 y⟩
 ·have e:i=n:=by omega
  subst e
  exact .inl ⟨hstop H2 hp,fin ys σ' H2 p⟩
theorem YbE {J:It} {P:Hp→Prop} {xs:List V} (hJ:Wk J P xs) {src:List (Option Nat)} {g:TG} {te:TE} {σ:St} {H1:Hp} {Q:VK} {D:Addr} (Pv:Nat→List V→St→Hp→Prop)
  (h0:Pv 0 [] (YI src σ) (upd H1 D (.lst []))) (hP:∀ i ys σ' H',Pv i ys σ' H'→P H'∧H' D=some (.lst ys))
  (mono:∀ x σ H Q Q',(∀ σ' H',Q σ' H'→Q' σ' H')→g x σ H Q→g x σ H Q')
  (step:∀ i ys σ' H' x,xs[i]?=some x→Pv i ys σ' H'→g x σ' H' fun σ2 H4=>te σ2 H4 fun y H6=>H6 D=some (.lst ys)∧ys.length<sizeLine∧Pv (i+1) (ys++[y]) σ2 (upd H6 D (.lst (ys++[y]))))
  (fin:∀ ys σ' H',Pv xs.length ys σ' H'→Q (.ref D) H'):LC src J g XE te σ H1 Q D :=
 lc_by hJ Pv h0 hP (fun i ys σ' H' x hx p=>by
  refine mono _ _ _ _ _ ?_ (step i ys σ' H' x hx p)
  intro σ2 H4 q
  unfold XE
  dsimp only
  rw [if_pos rfl]
  exact q) fin
theorem W7 (i:Nat):∀ x σ H Q Q',(∀ σ' H',Q σ' H'→Q' σ' H')→YA i x σ H Q→YA i x σ H Q':=fun _ _ _ _ _ h q=>h _ _ q
theorem Yci {J:It} {P:Hp→Prop} {n:Nat} (hgo:∀ i H,P H→i<n→J.go i H) (hstop:∀ H,P H→J.stop n H) {src:List (Option Nat)} {g:TG} {te:TE} {σ:St} {H1:Hp} {Q:VK} {D:Addr} (Pv:Nat→List V→St→Hp→Prop)
  (h0:Pv 0 [] (YI src σ) (upd H1 D (.lst []))) (hP:∀ i ys σ' H',Pv i ys σ' H'→P H'∧H' D=some (.lst ys))
  (mono:∀ x σ H Q Q',(∀ σ' H',Q σ' H'→Q' σ' H')→g x σ H Q→g x σ H Q')
  (step:∀ i ys σ' H',i<n→Pv i ys σ' H'→∀ x H3,J.yld i H' x H3→g x σ' H3 fun σ2 H4=>te σ2 H4 fun y H6=>H6 D=some (.lst ys)∧ys.length<sizeLine∧Pv (i+1) (ys++[y]) σ2 (upd H6 D (.lst (ys++[y]))))
  (fin:∀ ys σ' H',Pv n ys σ' H'→Q (.ref D) H'):LC src J g XE te σ H1 Q D :=
 YeJ hgo hstop Pv h0 hP (fun i ys σ' H' hi p x H3 y=>by
  refine mono _ _ _ _ _ ?_ (step i ys σ' H' hi p x H3 y)
  intro σ2 H4 q
  unfold XE
  dsimp only
  rw [if_pos rfl]
  exact q) fin
end
end L2
namespace L2
open PySem PySem.Spec PyProof.Rows
structure Gx where
 P:Program
 w:World
 K:PySem.W.Frag
 mg:Str→Option Value
 base:Heap
def Cx.gx (X:Cx):Gx:=⟨X.prog,X.w,X.K,X.mg,X.base⟩
def Gx.Raw (g:Gx) (x qual:Str) (st:Stmt) (ps:List Str):Prop:=∃ f fd,Fun g.K x qual st f fd∧Xr g.K fd ps []∧g.mg x=some (.ref f)
def Gx.Fn (g:Gx) (k:Nat) (x:Str) (ps:List Str) (sp:Sp):Prop:=∃ f fd,FnOk g.P g.w g.K g.mg g.base CX0 k f fd ps sp∧Xr g.K fd ps []∧PySem.W.keepIn g.K (.ref f)=true∧g.mg x=some (.ref f)
def Gx.RawM (g:Gx) (C:Addr) (m qual:Str) (st:Stmt) (ps:List Str):Prop:=∃ f fd,Fun g.K m qual st f fd∧Xr g.K fd ps []∧Meth g.K C m f
def Gx.Me (g:Gx) (k:Nat) (C:Addr) (m:Str) (ps:List Str) (sp:Sp):Prop:=∃ f fd,FnOk g.P g.w g.K g.mg g.base CX0 k f fd ps sp∧Xr g.K fd ps []∧Meth g.K C m f
abbrev Gx.cx (g:Gx) (N:List Str) (qual:Str) (st:Stmt) (f:Addr) (cdv:Value) (A:Around) (outer:List Env) (s:Shared) (H:Hp) (E:XK):Cx:=(Wa CX0 g.P g.w g.K g.mg g.base N qual (Yi st) f cdv A outer s H E).nox
def QO (g:Gx) (k:Nat) (N:List Str) (qual:Str) (st:Stmt) (sp:Sp):Prop:=∀ (f:Addr) (cdv:Value) (A:Around) (outer:List Env) (s:Shared) (H:Hp) (vs:List V) (Q:VK) (E:XK),Room k (g.cx N qual st f cdv A outer s H E).A→sp vs H Q E →
 ∃ t,PSs (g.cx N qual st f cdv A outer s H E) (YT st) t∧t { nx:=fun _ H'=>Q .non H',rt:=Q } (start N vs) H
section
variable {g:Gx} {k:Nat} {x qual m:Str} {st:Stmt} {N ps:List Str} {sp:Sp} {C:Addr}
theorem Gx.Raw.fn (R:g.Raw x qual st ps) (S:FnScope N ps (Yi st)) (len:∀ vs H Q E,sp vs H Q E→vs.length=ps.length) (b:QO g k N qual st sp):g.Fn (k+1) x ps sp:=by
 obtain ⟨f,fd,F,bd,hm⟩:=R
 exact ⟨f,fd,F.ok S len fun cdv A outer s H vs Q E hr h=>b f cdv A outer s H vs Q E hr h,bd,F.kp,hm⟩
theorem Gx.Fn.mono {j:Nat} (F:g.Fn j x ps sp) (h:j≤k):g.Fn k x ps sp:=by
 obtain ⟨f,fd,F,r⟩:=F
 exact ⟨f,fd,F.mono h,r⟩
theorem Gx.Raw.none (R:g.Raw x qual st ps) (no:∀ vs H Q E,¬ sp vs H Q E):g.Fn k x ps sp:=by
 obtain ⟨f,fd,F,bd,hm⟩:=R
 exact ⟨f,fd,⟨fun vs H Q E h=>absurd h (no vs H Q E),fun A outer s H args us vs Q E _ _ _ _ h=>absurd h (no vs H Q E)⟩,bd,F.kp,hm⟩
theorem Gx.RawM.none (R:g.RawM C m qual st ps) (no:∀ vs H Q E,¬ sp vs H Q E):g.Me k C m ps sp:=by
 obtain ⟨f,fd,F,bd,hm⟩:=R
 exact ⟨f,fd,⟨fun vs H Q E h=>absurd h (no vs H Q E),fun A outer s H args us vs Q E _ _ _ _ h=>absurd h (no vs H Q E)⟩,bd,hm⟩
end
section
variable {g:Gx} {X:Cx} {k j:Nat} {x m:Str} {ps:List Str} {sp:Sp} {C:Addr} {e o:Expr} {es:List Expr} {t:TA} {ta:TE} {p pos apos:Pos}
theorem Yo (F:g.Fn j x ps sp) (hr:Room k X.A) (ha:PA X (e::es) t) (hj:j≤k) (hX:X.gx=g) (hg:Gl X x) (hdb:(x==("__debug__":Str))=false)
  (he:starEach (e::es) X.env=(false,eval e X.env)::starEach es X.env) (hpl:(backTo pos (starEach es X.env)).any (·.1)=false):PE X (.Call (.Name x p) (e::es) [] pos) (Qq sp [] E0 t):=by
 subst hX
 obtain ⟨f,fd,F,b,kp,hm⟩:=F
 exact YaQ F (hr.mono hj) hg hm kp b .nil Qr ha hdb he hpl
theorem YE {id:String} {r:List V→Hp→VK→Prop} (hm:g.mg x=none) (hc:Xm X (.builtin id) r) (ha:PA X (e::es) t) (hv:bootBuiltins x=some (.builtin id)) (hX:X.gx=g) (hg:Gl X x) (hn:x≠"__name__") (hdb:(x==("__debug__":Str))=false)
  (he:starEach (e::es) X.env=(false,eval e X.env)::starEach es X.env) (hpl:(backTo pos (starEach es X.env)).any (·.1)=false):PE X (.Call (.Name x p) (e::es) [] pos) (tCB r t):=by
 subst hX
 exact YcW hc hg hm hv ha hn hdb he hpl
theorem Vv {T:String} {r:List V→Hp→VK→Prop} (hm:g.mg x=none) (hc:Xm X (.type T) r) (ha:PA X (e::es) t) (hv:bootBuiltins x=some (.type T)) (hX:X.gx=g) (hg:Gl X x) (hn:x≠"__name__") (hdb:(x==("__debug__":Str))=false)
  (he:starEach (e::es) X.env=(false,eval e X.env)::starEach es X.env) (hpl:(backTo pos (starEach es X.env)).any (·.1)=false):PE X (.Call (.Name x p) (e::es) [] pos) (tCB r t):=by
 subst hX
 exact Ycd hc hg hm hv ha hn hdb he hpl
theorem YJ {T:String} (hm:g.mg x=none) (hv:bootBuiltins x=some (.type T)) (hX:X.gx=g) (hg:Gl X x) (hn:x≠"__name__") (hdb:(x==("__debug__":Str))=false):PE X (.Name x pos) (tC (.ty T)):=by
 subst hX
 exact YdW hg hm hv rfl hn hdb
end
theorem YeK {H:Hp} {p:Addr} {o:HO} (h:H p=some o):upd H p o=H:=by
 funext b
 unfold upd
 split
 ·rename_i e;rw [e,h]
 ·rfl
def S (l:List Nat):Str:=⟨l.toArray⟩
theorem YdK (a b:List Nat):S a++S b=S (a++b):=by
 show Str.append (S a) (S b)=S (a++b)
 simp [Str.append,S]
def Qu (s:List Nat):List (List Nat)→List Nat
 | []=>[]
 | [x]=>x
 | x::y::r=>x++s++Qu s (y::r)
theorem YeL (s:List Nat):∀ ys:List (List Nat),Txt.join (S s) (ys.map S)=S (Qu s ys):=fun ys=>by
 have e:Txt.join (S s) (ys.map S)=Str.join (S s) (ys.map S):=eq_of_beq (join_plain_closes _ _)
 rw [e]
 induction ys with
 | nil=>rfl
 | cons x r ih =>
  cases r with
  | nil=>rfl
  | cons y r =>
   have ih':=ih (eq_of_beq (join_plain_closes _ _))
   show S x++S s++Str.join (S s) ((y::r).map S)=_
   rw [ih',YdK,YdK]
   rfl
end L2
namespace L2
open PySem PySem.Spec PyProof.Rows
section
variable {K:PySem.W.Frag} {h:Heap} {mg:Str→Option Value} {P:Program} {w:World} {base:Heap} {f C:Addr} {x qual m:Str} {st:Stmt} {ps:List Str} {oc kV dc pm cd ct:Value} {od an:Option Addr} {sl:Array (Option Value)}
theorem YQ (X:K.In h) (G:h.Ns mainGlobals mg) (ps:List Str)
  (a:PySem.W.nsIn K mainGlobals x=some (some (.ref f))) (l:K.lookup f=some ⟨oc,od,.func (PySem.W.fnOf x x (Xk st) (YT st) (Yi st) .none kV dc pm an cd ct),sl⟩) (c:PySem.W.codeIn K cd x=true) (k:PySem.W.keepIn K (.ref f)=true)
  (b:∀ (kV doc pm:Value) (an:Option Addr) (cdv ct:Value) (us:List Value),us.length=ps.length→bindArgs (PySem.W.fnOf x x (Xk st) (YT st) (Yi st) .none kV doc pm an cdv ct) ⟨us,[]⟩=pure (ps.zip us)) :
  ∀ P w base,(Gx.mk P w K mg base).Raw x x st ps:=fun P w base =>
 have F:=Ua (st:=st) l c k
 ⟨f,_,F,F.binds b,PySem.W.mg_of X G a⟩
end
def Ycj (K:PySem.W.Frag) (mg:Str→Option Value) (st:Stmt) (x n:Str):Prop:=∃ f fd,Fun K n n st f fd∧(∀ (s:Shared) (u:Value),BindsTo s fd ⟨[u],[]⟩ [(x,u)])∧mg n=some (.ref f)
theorem Yck {K:PySem.W.Frag} {h:Heap} {mg:Str→Option Value} {f:Addr} {x n:Str} {st:Stmt} {oc kV dc pm cd ct:Value} {od an:Option Addr} {sl:Array (Option Value)} (X:K.In h) (G:h.Ns mainGlobals mg)
  (a:PySem.W.nsIn K mainGlobals n=some (some (.ref f))) (l:K.lookup f=some ⟨oc,od,.func (PySem.W.fnOf n n (Xk st) (YT st) (Yi st) .none kV dc pm an cd ct),sl⟩) (c:PySem.W.codeIn K cd n=true) (k:PySem.W.keepIn K (.ref f)=true)
  (b:∀ (kV doc pm:Value) (an:Option Addr) (cdv ct:Value) (s:Shared) (u:Value),BindsTo s (PySem.W.fnOf n n (Xk st) (YT st) (Yi st) .none kV doc pm an cdv ct) ⟨[u],[]⟩ [(x,u)]):Ycj K mg st x n :=
 ⟨f,_,Ua (st:=st) l c k,b kV dc pm an cd ct,PySem.W.mg_of X G a⟩
end L2
namespace L2
open PySem PySem.Spec PyProof.Rows
section
variable {X:Cx}
theorem YaY {a:Int} {m:Nat} (h:a.natAbs<2^m):Builtin.Int.intBits a≤m:=by
 unfold Builtin.Int.intBits
 split
 ·omega
 ·rename_i h0
  have h0:a.natAbs≠0:=by simpa using h0
  have:=(Nat.log2_lt h0).mpr h
  omega
def Qv (i j:Int):Prop:=∃ m n:Nat,i.natAbs<2^m∧j.natAbs<2^n∧m+n≤100000000
theorem Qv.ok {i j:Int} (h:Qv i j):IntMulOk i j:=by
 obtain ⟨m,n,h1,h2,h3⟩:=h
 exact IntMulOk.of_le (YaY h1) (YaY h2) (by omega)
def YdL (i j:Int):Prop:=0<j∧j.natAbs<2^9000
theorem Wb:OpR X (binaryOp .FloorDiv) (rI YdL fun i j => .int (i / j)):=opI fun i j _ _ _ _ _ hc q=>by
 have h1:(0:Int)<j:=hc.1
 have h2:=hc.2
 have h3:j.natAbs≠0:=by omega
 exact floordiv_int (by omega) (by rw [Int.fdiv_eq_ediv_of_nonneg i (by omega)];exact q) (.inl (PyProof.noPylong_of_log2 ((Nat.log2_lt h3).mpr h2)))
theorem XY {j:Int} (h:0<j) (h2:j<1073741824) {i:Int}:YdL i j:=⟨h,Nat.lt_of_lt_of_le (show j.natAbs<2^30 by omega) (Nat.pow_le_pow_right (by decide) (by decide))⟩
end
end L2
namespace L2
open PySem PySem.Spec PyProof.Rows
theorem YeM {CX:CXT} {P:Program} {w:World} {K:PySem.W.Frag} {mg:Str→Option Value} {base:Heap} {N:List Str} {qual:Str} {scope:Scope} {f:Addr} {cd:Value} {A:Around} {outer:List Env} {s:Shared} {H:Hp} {E:XK} :
  (Wa CX P w K mg base N qual scope f cd A outer s H E).K=K:=rfl
theorem nox_K {X:Cx}:X.nox.K=X.K:=rfl
section
variable {g:TG} {tb:TS} {D:Ends} {σ:St} {H:Hp}
theorem Yaz {ta:TA} {n:Nat} (Pv:Nat→St→Hp→Prop) (ha:∀ R:List V→Hp→Prop,R [.int n] H→ta σ H R) (hn:n<2^62) (h0:Pv 0 σ H)
  (hs:∀ i σ H,i<n→Pv i σ H→g (.int i) σ H fun σ2 H2=>tb { D with nx:=Pv (i+1),ct:=Pv (i+1),bk:=D.nx } σ2 H2) (hd:∀ σ H,Pv n σ H→D.nx σ H):X9 (Qo ta) g tb D σ H:=by
 refine ha _ ⟨n,rfl,by omega,by omega,?_⟩
 refine Yb6 (lo:=0) (n:=n) Pv h0 (fun i σ H hi p=>?_) hd
 have e:(0:Int)+i=i:=by omega
 rw [e];exact hs i σ H hi p
end
end L2
namespace L2
open PySem PySem.Spec PyProof.Rows
section
variable {X:Cx}
theorem Qh (hc:X.calm=true:=by rfl):Xm X (.builtin "sum") (fun xs H Q=>∃ (p:Addr) (ns:List Int),xs=[.ref p]∧SqL X.K H p (ns.map V.int)∧Q (.int ns.sum) H):=by
 intro pins s σ H xs us Q I r h
 obtain ⟨p,ns,rfl,hq,q⟩:=h
 obtain ⟨u,rfl,rx⟩:=Ws r
 cases rx
 obtain ⟨its,r',pl,hz⟩:=I.list hq
 have hi:=V8 r'
 have hl:=pl.isList
 obtain ⟨xs,ex⟩:=hi.allInts.items
 rw [ex] at hl
 have e:preSum (numAt xs) xs.size=ns.sum:=by
  have h1:=nums_intItems (xs:=xs)
  rw [← ex] at h1
  have h2:=hi.numsOf
  rw [preSum_eq,List.take_of_length_le (by simp)]
  rw [← h1]
  exact congrArg List.sum h2
 refine sum_intListG (I.ok.hd hc) hl fun h' tk t' hk=>?_
 rw [e]
 exact ⟨.int _,H,I.kept (t':=tk) hk,⟨t',rfl⟩,q⟩
end
section
variable {X:Cx} {elts:List Expr} {kk:Nat} {tpos:Pos}
end
end L2
namespace L2
open PySem PySem.Spec PyProof.Rows
mutual
inductive Den (K:PySem.W.Frag) (H:Hp):V→PyData→Prop
 | non:Den K H .non .none
 | bl (b:Bool):Den K H (.bl b) (.bool b)
 | int (i:Int):Den K H (.int i) (.int i)
 | str (x:Str) (h:PyData.strOk x=true):Den K H (.str x) (.str x)
 | lst {a:Addr} {vs:List V} {ds:List PyData}:SqL K H a vs→Dens K H vs ds→Den K H (.ref a) (.list ds)
 | tup {a:Addr} {vs:List V} {ds:List PyData}:SqT K H a vs→Dens K H vs ds→Den K H (.ref a) (.tuple ds)
inductive Dens (K:PySem.W.Frag) (H:Hp):List V→List PyData→Prop
 | nil:Dens K H [] []
 | cons {v:V} {d:PyData} {vs:List V} {ds:List PyData}:Den K H v d→Dens K H vs ds→Dens K H (v::vs) (d::ds)
end
mutual
theorem Den.keep {K:PySem.W.Frag} {H H':Hp} (e:Yd H H'):∀ {v:V} {d:PyData},Den K H v d→Den K H' v d
 | _,_,.non => .non
 | _,_,.bl b => .bl b
 | _,_,.int i => .int i
 | _,_,.str x h => .str x h
 | _,_,.lst h hs => .lst (e.seq h) (hs.keep e)
 | _,_,.tup h hs => .tup (e.tup h) (hs.keep e)
theorem Dens.keep {K:PySem.W.Frag} {H H':Hp} (e:Yd H H'):∀ {vs:List V} {ds:List PyData},Dens K H vs ds→Dens K H' vs ds
 | _,_,.nil => .nil
 | _,_,.cons h hs => .cons (h.keep e) (hs.keep e)
end
mutual
theorem Den.lay {K:PySem.W.Frag} {H:Hp}:∀ {v:V} {d:PyData},Den K H v d→d.canLay0=true
 | _,_,.non=>rfl
 | _,_,.bl b=>rfl
 | _,_,.int i=>rfl
 | _,_,.str x h=>by simpa [PyData.canLay0] using h
 | _,_,.lst _ hs=>by rw [PyData.canLay0];exact hs.lay
 | _,_,.tup _ hs=>by rw [PyData.canLay0];exact hs.lay
theorem Dens.lay {K:PySem.W.Frag} {H:Hp}:∀ {vs:List V} {ds:List PyData},Dens K H vs ds→PyData.canLayAll0 ds=true
 | _,_,.nil=>rfl
 | _,_,.cons h hs=>by rw [PyData.canLayAll0,h.lay,hs.lay];rfl
end
theorem Dens.length {K:PySem.W.Frag} {H:Hp}:∀ {vs:List V} {ds:List PyData},Dens K H vs ds→vs.length=ds.length
 | _,_,.nil=>rfl
 | _,_,.cons _ hs=>congrArg (·+1) hs.length
theorem Dens.ints {K:PySem.W.Frag} {H:Hp}:∀ ns:List Int,Dens K H (ns.map V.int) (ns.map PyData.int)
 | [] => .nil
 | n::ns => .cons (.int n) (.ints ns)
theorem Dens.append {K:PySem.W.Frag} {H:Hp} {vs':List V} {ds':List PyData}:∀ {vs:List V} {ds:List PyData},Dens K H vs ds→Dens K H vs' ds'→Dens K H (vs++vs') (ds++ds')
 | _,_,.nil,h=>h
 | _,_,.cons a b,h => .cons a (b.append h)
section
variable {X:Cx}
mutual
theorem Den.reads {pins:List (Addr×Obj)} {σ:St} {H:Hp} {s:Shared} (I:Inv X pins σ H s):∀ {v:V} {d:PyData} {u:Value},Den X.K H v d→Yv v u→∃ as,Reads s.heap u d as
 | _,_,u,.non,r=>by cases (show u = .none from r);exact ⟨_,.none⟩
 | _,_,u,.bl b,r=>by cases (show u = .bool b from r);exact ⟨_,.bool b⟩
 | _,_,u,.int i,r=>by obtain ⟨t,rfl⟩:=r;exact ⟨_,.int i t⟩
 | _,_,u,.str x h,r=>by obtain ⟨t,rfl⟩:=r;exact ⟨_,.str x t⟩
 | _,_,u,.lst (a:=a) h hs,r=>by
  cases (show u = .ref a from r)
  obtain ⟨its,rv,pl,hz⟩:=I.list h
  obtain ⟨as,ra⟩:=hs.reads I rv
  obtain ⟨o,e1,e2,n,e3⟩:=pl.isList
  exact ⟨_,.list e1 e2 e3 (by simpa using ra)⟩
 | _,_,u,.tup (a:=a) h hs,r=>by
  cases (show u = .ref a from r)
  obtain ⟨its,rv,pl,hz⟩:=I.tuple h
  obtain ⟨as,ra⟩:=hs.reads I rv
  obtain ⟨o,e1,e2,n,e3⟩:=(show s.heap.IsTuple a its.toArray from pl)
  exact ⟨_,.tuple e1 e2 e3 (by simpa using ra)⟩
theorem Dens.reads {pins:List (Addr×Obj)} {σ:St} {H:Hp} {s:Shared} (I:Inv X pins σ H s):∀ {vs:List V} {ds:List PyData} {us:List Value},Dens X.K H vs ds→Yl vs us→∃ as,ReadsAll s.heap us ds as
 | _,_,us,.nil,r=>by cases r;exact ⟨_,.nil⟩
 | _,_,us,.cons h hs,r=>by
  cases r with
  | cons r rr =>
   obtain ⟨as,ra⟩:=h.reads I r
   obtain ⟨bs,rb⟩:=hs.reads I rr
   exact ⟨_,.cons ra rb⟩
end
theorem Vm (hu:X.A.units+64<cLine):OpR X (compareOp .Eq) (fun x y H Q=>∃ d e,Den X.K H x d∧Den X.K H y e∧d.depth≤64∧Q (.bl (PyData.eqv d e)) H):=by
 intro pins s σ H x y v u Q I rx ry h
 obtain ⟨d,e,hd,he,dp,q⟩:=h
 obtain ⟨as,ra⟩:=hd.reads I rx
 obtain ⟨bs,rb⟩:=he.reads I ry
 exact SeqAt.rcAt_reads ra rb hd.lay he.lay (by omega) _ _ _ _ ⟨.bl _,H,I,rfl,q⟩
end
theorem Ue:∀ ns:List Int,PyData.depthAll (ns.map PyData.int)≤1
 | []=>by simp [PyData.depthAll]
 | n::ns=>by
  have:=Ue ns
  rw [List.map_cons,PyData.depthAll,PyData.depth]
  omega
theorem XZ {α:Type} {l:List α} {i:Nat} {x:α} (h:l[i]?=some x):l.take (i+1)=l.take i++[x]:=by
 obtain ⟨hi,hc⟩:=List.getElem?_eq_some_iff.mp h
 rw [List.take_succ_eq_append_getElem hi,hc]
theorem QP {J:It} {P:Hp→Prop} {xs:List V} (hJ:Wk J P xs) {src:List (Option Nat)} {te:TE} {σ:St} {H1:Hp} {Q:VK} {D:Addr} (ys:List V) (hP:∀ H',Yd H1 H'→P H') (hD:H1 D=none) (hl:ys.length=xs.length) (hlen:xs.length≤100000)
  (step:∀ (i:Nat) x y H',xs[i]?=some x→ys[i]?=some y→Yd H1 H'→∀ R:VK,(∀ H'',Yd H' H''→R y H'')→te (some x::YI src σ) H' R)
  (fin:∀ H',Yd H1 H'→H' D=some (.lst ys)→Q (.ref D) H'):LC (none::src) J (YA 0) XE te σ H1 Q D:=by
 have h6:100000<sizeLine:=by decide
 refine YbE hJ (fun i zs σ' H'=>zs=ys.take i∧(∃ o,σ'=o::YI src σ)∧Yd H1 H'∧H' D=some (.lst zs)) ⟨by simp,⟨none,rfl⟩,.upd_new hD _,Yc⟩ (fun i zs σ' H' p=>⟨hP _ p.2.2.1,p.2.2.2⟩) (W7 0) ?_ ?_
 ·rintro i zs σ' H' x hx ⟨rfl,⟨o,rfl⟩,sm,hd⟩
  have hi:=(List.getElem?_eq_some_iff.mp hx).1
  have hy:ys[i]?=some (ys[i]'(by omega)):=List.getElem?_eq_getElem _
  show te (some x::YI src σ) H' _
  refine step i x _ H' hx hy sm _ fun H'' s2=>⟨s2 _ _ hd,?_,(XZ hy).symm,⟨_,rfl⟩,.upd_over hD (sm.trans s2) _,Yc⟩
  rw [List.length_take];omega
 ·rintro zs σ' H' ⟨rfl,_,sm,hd⟩
  rw [← hl,List.take_length] at hd
  exact fin H' sm hd
theorem YaA (K:PySem.W.Frag) (i j:Nat):∀ x σ H Q Q',(∀ σ' H',Q σ' H'→Q' σ' H')→WD K 2 (Xb (YA i) (Xb (YA j) WC)) x σ H Q→WD K 2 (Xb (YA i) (Xb (YA j) WC)) x σ H Q':=by
 rintro x σ H Q Q' h ⟨a,xs,e,sq,l,v,r,e1,v2,r2,e2,e3,q⟩
 exact ⟨a,xs,e,sq,l,v,r,e1,v2,r2,e2,e3,h _ _ q⟩
end L2
namespace L2
open PySem PySem.Spec PyProof.Rows
section
variable {a b c d e r:TS} {D:Ends} {σ:St} {H:Hp} (M:St→Hp→Prop) (h1:∀ σ H,M σ H→r D σ H)
include h1
theorem XQ (h2:∀ N:St→Hp→Prop,(∀ σ H,M σ H→N σ H)→a { D with nx:=N } σ H):XO a r D σ H:=h2 (r D) h1
theorem cut3 (h2:∀ N:St→Hp→Prop,(∀ σ H,M σ H→N σ H)→XO a (XO b c) { D with nx:=N } σ H):XO a (XO b (XO c r)) D σ H:=h2 (r D) h1
theorem cut4 (h2:∀ N:St→Hp→Prop,(∀ σ H,M σ H→N σ H)→XO a (XO b (XO c d)) { D with nx:=N } σ H):XO a (XO b (XO c (XO d r))) D σ H:=h2 (r D) h1
end
theorem Yd5 (i j:Int):QF (.int i) (.int j)=true:=rfl
theorem Yd6 (i j:Str):QF (.str i) (.str j)=true:=rfl
theorem Yc4 {α:Type} (xs:List α) (i j:Nat):(xs.drop (min i xs.length)).take (min j xs.length - min i xs.length)=(xs.drop i).take (j - i):=by
 by_cases hi:i≤xs.length
 ·rw [Nat.min_eq_left hi]
  by_cases hj:j≤xs.length
  ·rw [Nat.min_eq_left hj]
  ·rw [Nat.min_eq_right (by omega),List.take_of_length_le (by rw [List.length_drop];omega),List.take_of_length_le (by rw [List.length_drop];omega)]
 ·rw [List.drop_of_length_le (by omega),List.drop_of_length_le (show xs.length≤i by omega)]
  simp
theorem Yd7 (xs:List V) (i j:Nat):Uw xs (some (i:Int)) (some (j:Int))=(xs.drop i).take (j - i):=by
 unfold Uw
 rw [HT.sIx_nat,HT.sIx_nat]
 exact Yc4 xs i j
end L2
namespace L2
open PySem PySem.Spec PyProof.Rows
section
variable {X:Cx} {tg:Expr}
end
end L2
namespace L2
open PySem PySem.Spec PyProof.Rows
end L2
namespace L2
open PySem PySem.Spec PyProof.Rows
section
variable {src:List (Option Nat)} {te:TE} {σ:St} {H:Hp} {Q:VK}
theorem YbF {ta:TA} {n:Nat} (ys:List V) (ha:∀ R:List V→Hp→Prop,R [.int n] H→ta σ H R) (hl:ys.length=n) (hlen:n≤100000)
  (step:∀ (i:Nat) y H',i<n→ys[i]?=some y→Yd H H'→∀ R:VK,(∀ H'',Yd H' H''→R y H'')→te (some (.int i)::YI src σ) H' R)
  (fin:∀ D H',H D=none→Yd H H'→H' D=some (.lst ys)→Q (.ref D) H'):tLC (none::src) (Qo ta) (YA 0) XE te σ H Q:=by
 refine ha _ ⟨n,rfl,by omega,by omega,fun D hD=>?_⟩
 refine QP (VG (lo:=0) (n:=n) (P:=fun _=>True)) ys (fun _ _=>trivial) hD (by simpa using hl) (by simpa using hlen) (fun i x y H' hx hy sm R r=>?_) fun H'=>fin D H' hD
 have hi:i<n:=by have:=(List.getElem?_eq_some_iff.mp hx).1;simpa using this
 rw [List.getElem?_map,List.getElem?_range hi] at hx
 have e:V.int (0+(i:Int))=x:=Option.some.inj hx
 rw [Int.zero_add] at e
 subst e
 exact step i y H' hi hy sm R r
theorem Yc5 {K:PySem.W.Frag} {tl:TE} {a:Addr} {xs:List V} (ys:List V) (ha:∀ R:V→Hp→Prop,R (.ref a) H→tl σ H R) (hS:SqL K H a xs) (hl:ys.length=xs.length) (hlen:xs.length≤100000)
  (step:∀ (i:Nat) x y H',xs[i]?=some x→ys[i]?=some y→Yd H H'→∀ R:VK,(∀ H'',Yd H' H''→R y H'')→te (some x::YI src σ) H' R)
  (fin:∀ D H',H D=none→Yd H H'→H' D=some (.lst ys)→Q (.ref D) H'):tLC (none::src) (W5 K tl) (YA 0) XE te σ H Q :=
 ha _ ⟨a,rfl,⟨xs,hS⟩,fun D hD=>QP (Uc.imp fun H' (e:Yd H H')=>e.seq hS) ys (fun _ e=>e) hD hl hlen step fun H'=>fin D H' hD⟩
end
end L2
namespace L2
open PySem PySem.Spec PyProof.Rows
section
variable {src:List (Option Nat)} {te:TE} {σ:St} {H:Hp} {Q:VK}
end
section
variable {X:Cx} {K:PySem.W.Frag}
end
end L2
namespace L2
open PySem PySem.Spec PyProof.Rows
section
variable {tb:TS} {D:Ends} {σ:St} {H:Hp}
theorem Ycl {K:PySem.W.Frag} {ta:TA} (i j:Nat) {xs ys:List V} (Pv:Addr→Addr→Nat→St→Hp→Prop) (ha:∀ R:List V→Hp→Prop,(∀ a b H1,Pv a b 0 σ H1→R [.ref a,.ref b] H1)→ta σ H R)
  (hl:∀ a b n σ H,n≤min xs.length ys.length→Pv a b n σ H→SqL K H a xs∧SqL K H b ys)
  (hs:∀ a b (n:Nat) x y σ H T,xs[n]?=some x→ys[n]?=some y→Pv a b n σ H→H T=none→tb { D with nx:=Pv a b (n+1),ct:=Pv a b (n+1),bk:=D.nx } ((σ.set i (some x)).set j (some y)) (upd H T (.tup [x,y])))
  (hd:∀ a b σ H,Pv a b (min xs.length ys.length) σ H→D.nx σ H):X9 (Qt K ta) (WD K 2 (Xb (YA i) (Xb (YA j) WC))) tb D σ H:=by
 refine ha _ fun a b H1 h0=>?_
 obtain ⟨s1,s2⟩:=hl a b 0 σ H1 (Nat.zero_le _) h0
 refine ⟨a,b,xs,ys,rfl,s1,s2,?_⟩
 refine ⟨fun n m σ H=>m=min xs.length ys.length - n∧n≤min xs.length ys.length∧Pv a b n σ H,⟨min xs.length ys.length,by simp,Nat.zero_le _,h0⟩,?_⟩
 rintro n m σ H ⟨rfl,hn,p⟩
 obtain ⟨g1,g2⟩:=hl a b n σ H hn p
 by_cases hlt:n<min xs.length ys.length
 ·have hx:xs[n]?=some (xs[n]'(by omega)):=List.getElem?_eq_getElem _
  have hy:ys[n]?=some (ys[n]'(by omega)):=List.getElem?_eq_getElem _
  refine .inr ⟨⟨xs,ys,_,_,g1,g2,hx,hy⟩,Pv a b (n+1),fun σ' H' p'=>⟨min xs.length ys.length - (n+1),by omega,rfl,hlt,p'⟩,?_⟩
  rintro v H' ⟨T,rfl,hT,heq⟩
  have e:=heq xs ys _ _ g1 g2 hx hy
  subst e
  exact ⟨T,_,rfl,SqT.of Yc,rfl,_,_,rfl,_,_,rfl,rfl,hs a b n _ _ σ H T hx hy p hT⟩
 ·have e:n=min xs.length ys.length:=by omega
  subst e
  refine .inl ⟨⟨xs,ys,g1,g2,?_⟩,hd a b σ H p⟩
  omega
end
end L2
namespace L2
open PySem PySem.Spec PyProof.Rows
theorem Qi (its:List Value):slicePick its.toArray none none (some (-1))=its.reverse.toArray:=by
 unfold slicePick
 have hb:sliceBounds none none (some (-1)) its.toArray.size=((its.length:Int) - 1,-1,-1):=by simp [sliceBounds]
 rw [hb]
 have hr:sliceRange ((its.length:Int) - 1) (-1) (-1)=(List.range its.length).map fun (k:Nat)=>its.length - 1 - k:=by
  unfold sliceRange
  simp only [show ¬ ((-1:Int)>0) by decide,if_false]
  have hc:(if (its.length:Int) - 1 > -1 then ((its.length:Int) - 1 - -1 - -1 - 1) / - -1 else 0).toNat=its.length:=by
   split
   ·have:((its.length:Int) - 1 - -1 - -1 - 1)=its.length:=by omega
    rw [this,show (- -1:Int)=1 from rfl,Int.ediv_one];omega
   ·omega
  rw [hc]
  apply List.map_congr_left
  intro k hk
  have:k<its.length:=List.mem_range.mp hk
  omega
 simp only [hr]
 congr 1
 rw [List.filterMap_map]
 apply List.ext_getElem?
 intro i
 have key:∀ (n:Nat),n≤its.length→(List.filterMap ((fun x=>its.toArray[x]?) ∘ fun k=>its.length - 1 - k) (List.range n))=its.reverse.take n:=by
  intro n
  induction n with
  | zero=>intro _;simp
  | succ n ih =>
   intro hn
   rw [List.range_succ,List.filterMap_append,ih (by omega)]
   have hx:its.reverse[n]?=some (its[its.length - 1 - n]'(by omega)):=by
    rw [List.getElem?_reverse (by omega)];exact List.getElem?_eq_getElem _
   rw [XZ hx]
   have hlt:its.length - 1 - n<its.length:=by omega
   simp [hlt]
 rw [key its.length (Nat.le_refl _)]
 rw [List.take_of_length_le (by simp)]
section
variable {X:Cx} {e st:Expr} {te ts:TE} {pos p2:Pos}
def tRev (K:PySem.W.Frag) (te ts:TE):TE:=fun σ H Q=>te σ H fun x H1=>ts σ H1 fun y H2=>y = .int (-1)∧∃ a xs,x = .ref a∧SqL K H2 a xs∧∀ p,H2 p=none→Q (.ref p) (upd H2 p (.lst xs.reverse))
end
end L2
namespace L2
open PySem PySem.Spec PyProof.Rows
section
variable {X:Cx} {pos:Pos}
def rBits:V→List V→Hp→VK→Prop:=fun x vs H Q=>∃ i,x = .int i∧vs=[]∧Q (.int (Builtin.Int.intBits i:Nat)) H
def rFind:V→List V→Hp→VK→Prop:=fun x vs H Q=>∃ (z y:Str),x = .str z∧vs=[.str y]∧Q (.int (Txt.find z y)) H
def YeN:TE:=fun _ H Q=>∀ p,H p=none→Q (.ref p) (upd H p (.dK []))
end
section
variable {X:Cx} {g:Gx} {x:Str} {pos:Pos}
def tConT (K:PySem.W.Frag) (xs:List V):TE:=fun _ H Q=>∀ c,SqT K H c xs→Q (.ref c) H
end
end L2
namespace L2
open PySem PySem.Spec PyProof.Rows
theorem Yq {c A B:Prop} [Decidable c] (h:¬ c) (hb:B):if c then A else B:=by rw [if_neg h];exact hb
theorem Y3 {c A B:Prop} [Decidable c] (h:c) (ha:A):if c then A else B:=by rw [if_pos h];exact ha
section
variable {src:List (Option Nat)} {te:TE} {σ:St} {H:Hp} {Q:VK}
end
section
variable {X:Cx} {K:PySem.W.Frag} {o e:Expr} {es:List Expr} {to:TE} {t:TA} {name:Str} {apos cpos:Pos} {T id:String} {r:V→List V→Hp→VK→Prop}
end
section
variable {X:Cx}
def YbG (i j:Int):Prop:=Qv i j∨CMul i j
theorem YaZ:OpR X (binaryOp .Mult) (rI YbG fun i j => .int (i*j)):=opI fun _ _ _ _ _ _ _ hc q=>mul_int q (hc.elim (fun h=>h.ok) fun h=>h.ok)
end
end L2
namespace L2
open PySem PySem.Spec PyProof.Rows
section
variable {prog:Program} {w:World} {A:Around} {E:Value→Shared→Prop} {s:Shared} {z TI TO i1 i2 T:Addr} {S1 S2:Nat→Heap→Prop} {R1 R2:Heap→(Nat→Option Value)→Prop} {g1 g2:Nat→Option Value} {k:Nat} {a b:Value} {f:Bool} {oT:Obj}
end
section
variable {prog:Program} {w:World} {A:Around} {s:Shared} {R:Result→Shared→Prop} {z TI TO i1 i2 S p1 p2:Addr} {xs ys:List Value}
end
end L2
namespace L2
open PySem PySem.Calls PySem.Spec PyProof.Rows PyProof.V
section
variable {prog:Program} {w:World} {A:Around} {E:Value→Shared→Prop} {s:Shared} {z TI TO i1 i2 p1 p2:Addr} {xs ys:List Value}
end
end L2
namespace L2
open PySem PySem.Spec PyProof.Rows
section
variable {X:Cx} {pins:List (Addr×Obj)} {σ:St} {H H':Hp} {s:Shared} {h':Heap}
end
section
variable {X:Cx}
def tLZ (K:PySem.W.Frag) (ta:TA):TE:=fun σ H Q=>ta σ H fun vs H1=>∃ a b xs ys,vs=[.ref a,.ref b]∧SqT K H1 a xs∧SqT K H1 b ys∧xs.length=ys.length ∧
 ∀ (l:Addr) (as:List Addr) (H2:Hp),H1 l=none→Yd H1 H2→H2 l=some (.lst (as.map V.ref))→as.length=xs.length →
  (∀ (j:Nat) a x y,as[j]?=some a→xs[j]?=some x→ys[j]?=some y→H1 a=none∧H2 a=some (.tup [x,y]))→Q (.ref l) H2
end
end L2
namespace L2
open PySem PySem.Spec PyProof.Rows
section
variable {src:List (Option Nat)} {te:TE} {σ:St} {H:Hp} {Q:VK}
end
end L2
namespace L2
open PySem PySem.Spec PyProof.Rows
section
variable {X:Cx}
theorem Ya0 {i:Nat} {x:Str} {pos' apos:Pos} {elt tg iter:Expr} {ifs:List Expr} {scope:Scope} {pos:Pos} {src:List (Option Nat)} {N':List Str} {wi:TI} {g:TG} {tt:TT} {te:TE} (hN:X.N.Nodup) (hix:X.N[i]?=some x) (hlx:Loc X.env.scope x) (hcap:Cap X scope src N') (hc:X.calm=true) (hi:PI X tg iter wi)
  (hg:∀ cl C s₀ H₀ fp pn,PG (cxC X scope N' cl C s₀ H₀ fp pn) tg g) (ht:∀ cl C s₀ H₀ fp pn,PTs (cxC X scope N' cl C s₀ H₀ fp pn) ifs tt) (he:∀ cl C s₀ H₀ fp pn,PE (cxC X scope N' cl C s₀ H₀ fp pn) elt te)
  (hfree:∀ x,(x,NameKind.free)∈scope.names→X.env.scope.names.lookup x=some NameKind.cell∨X.env.scope.names.lookup x=some NameKind.free)
  (hk:scope.kind = .function) (hcell:∀ y∈scope.names,y.2 ≠ .cell) (hnames:∀ y∈scope.names,y.2 = .local→scope.names.lookup y.1=some .local)
  (hs:∀ x,foldedSetIterable iter X.env x=pure x) (hsw:swapsWithSole [.Name x pos'] (.ListComp elt [⟨tg,iter,ifs,0⟩] scope pos) apos.line X.env=pure true) (hf:X.fn x=true∨X.env.scope.names.lookup x=some .local) :
  PS X (.Assign [.Name x pos'] (.ListComp elt [⟨tg,iter,ifs,0⟩] scope pos) apos) (Ybq (tLC src wi g tt te) (YA i)):=by
 intro pins s σ H D0 I h
 have no:∀ {E:Value→Shared→Prop},∀ (e:Value) (s':Shared),False→E e s':=fun _ _ f=>f.elim
 obtain ⟨cl,hcl,a,b⟩:=Ub X.env scope fun x hx=>I.ok.has x (hfree x hx)
 rw [exec_Assign_arm]
 refine wpAny_bind (wpAny_standAt ?_)
 rw [hsw]
 refine wpAny_bind (wpAny_pure ?_)
 rw [if_pos rfl]
 refine wpAny_bind ?_
 rw [arm_evalThenUse_ListComp]
 refine wpAny_bind ?_
 refine wpAny_comprehension_free (use:=some _) rfl hs hcl hk hnames (thn (hi pins s σ H _ I h) fun v s1 h1=>thn h1 fun itv s2 h2=>?_)
 obtain ⟨it,fp,tn,J,H2,e,I2,T,st2,f2,q⟩:=h2
 subst e
 have hD:H2 s2.heap.objs.size=none:=I2.hok.fresh (Nat.le_refl _)
 obtain ⟨W,⟨m0,w0⟩,turn⟩:=q s2.heap.objs.size hD
 have I3:=I2.lnew (t':=s2.toks) (ys:=[]) (its:=[]) .nil (Nat.zero_le _)
 have fl2:∀ b∈fp,b<s2.heap.objs.size:=fun b hb=>by
  obtain ⟨o,e,_⟩:=T.obj _ _ st2 b hb
  exact Heap.lt_size e
 refine wpAny_newObj_type ?_
 generalize es3:({ s2 with heap:=s2.heap.push { cls := .type "list",dict:=none,data := .seq ([]:List Value).toArray } }:Shared)=s3
 have I3':Inv X pins σ (upd H2 s2.heap.objs.size (.lst [])) s3:=es3▸I3
 have keep3:∀ b o,s2.heap.get? b=some o→s3.heap.get? b=some o:=fun b o e=>by rw [← es3];exact Heap.get?_push_of_some _ e
 have st3:tn 0 s3.heap:=T.keep _ _ _ st2 fun b _ o e=>keep3 b o e
 have fl3:∀ b∈fp,b<s3.heap.objs.size:=fun b hb=>by
  obtain ⟨o,e,_⟩:=T.obj _ _ st3 b hb
  exact Heap.lt_size e
 have f3:∀ b∈fp,XV X pins (upd H2 s2.heap.objs.size (.lst [])) b:=fun b hb=>⟨by rw [Yh (Nat.ne_of_lt (fl2 b hb))];exact (f2 b hb).1,(f2 b hb).2⟩
 generalize eD:s2.heap.objs.size=D at *
 generalize eH3:upd H2 D (.lst [])=H3 at *
 refine wpAny_newFunctionEnv hcell (by intro y hy;simp at hy) (fun h₁ hns₁ hsb₁=>?_) hk
 have keep4:∀ b o,s3.heap.get? b=some o→h₁.get? b=some o:=fun b o e=>hsb₁.extBut b o (Nat.ne_of_lt (Heap.lt_size e)) (Heap.get?_push_of_some _ e)
 have I4:=QM (N':=N') (src:=src) (tk:=s3.toks+([]:List (Str×Value)).length) hk hcell hcap a b I3' f3 fl3 rfl keep4 hns₁
 -- the iterator's objects,through the block
 have stat:∀ {H':Hp},(∀ b∈fp,H' b=none)→∀ b∈fp,XV (cxC X scope N' cl s3.heap.objs.size s3 H3 fp (X.pn++pins)) [] H' b:=fun hn b' hb=>by
  obtain ⟨f0,f1,fs,fe,f4,f5⟩:=f3 b' hb
  refine ⟨hn b' hb,Nat.ne_of_lt (fl3 b' hb),fun z=>?_,.inl hb,fun x c h=>f4 x c (a x c h),fun p hp=>f5 p (by simpa [cxC] using hp)⟩
  rcases List.mem_cons.mp (I3'.stkSub b' z) with e | e
  ·exact f1 e
  ·exact fs e
 -- behind the block
 have fin:∀ {H':Hp} {s':Shared} {σ':St} {pins':List (Addr×Obj)},Inv (cxC X scope N' cl s3.heap.objs.size s3 H3 fp (X.pn++pins)) pins' σ' H' s'→∀ h',Heap.SameBut s3.heap.objs.size s'.heap h'→Inv X pins σ H' { s' with heap:=h' }:=fun {H' s' σ' pins'} J' h' sb=>by
  have same:∀ b o,b≠s3.heap.objs.size→s'.heap.get? b=some o→h'.get? b=some o:=fun b o hb e=>sb.extBut b o hb e
  have u:Un (frs X.stack) fp H3 H' s3.heap s'.heap:=J'.base
  refine I3'.call' (s':={ s' with heap:=h' }) (ch:=fp) J'.os ⟨fun b o e n hb hx=>?_,fun b o e n hb hx=>?_,u.free,fun b o e hx=>?_,u.tups,u.frzs,u.tbls⟩ (fun b o e=>?_) J'.bare fun b hb=>?_
  ·exact same b o (Nat.ne_of_lt (Heap.lt_size e)) (u.keep b o e n hb hx)
  ·obtain ⟨sl,z⟩:=u.slot b o e n hb hx
   exact ⟨sl,same b _ (Nat.ne_of_lt (Heap.lt_size e)) z⟩
  ·obtain ⟨o',z⟩:=u.there b o e hx
   exact ⟨o',same b o' (Nat.ne_of_lt (Heap.lt_size e)) z⟩
  ·have nC:∀ c v,H' c=some v→c≠s3.heap.objs.size:=fun c v z q=>by
    have:=J'.free
    rw [show (cxC X scope N' cl s3.heap.objs.size s3 H3 fp (X.pn++pins)).env.locals=s3.heap.objs.size from rfl,← q,z] at this
    cases this
   refine (J'.hok b o e).stay (fun c v hc q=>same c v ?_ q) (fun _ q=>q) fun _ _ q=>q
   rcases hc with z | z
   ·rw [z];exact nC b o e
   ·exact nC c _ z
  ·obtain ⟨f0,f1,fs,fe,f4,f5⟩:=f3 b hb
   exact ⟨fe,f1,f4,f5⟩
 have loop:codeAny (model X.prog X.w) X.A (.compLoop (.ListComp elt [⟨tg,iter,ifs,0⟩] scope pos) 0 (.ref it) (.ref D) (compEnvC scope cl s3.heap.objs.size X.env))
   (compPost (model X.prog X.w) X.A X.xe (some fun v=>assignAll v ((assignEach [.Name x pos'] X.env).map (·.2))) (fun _ s'=>wpAny (model X.prog X.w) X.A (pure PUnit.unit) (fun _ s'=>wpAny (model X.prog X.w) X.A (pure Flow.next) (SP X pins D0) X.xe s') X.xe s') (.ref D) s3.heap.objs.size) { s3 with heap:=h₁,toks:=s3.toks+([]:List (Str×Value)).length }:=by
  refine UZ (fun n s'=>∃ i ys σ' H',Inv (cxC X scope N' cl s3.heap.objs.size s3 H3 fp (X.pn++pins)) [] σ' H' s'∧tn i s'.heap∧(∀ b∈fp,H' b=none)∧W i n ys σ' H') ?_ m0 ⟨0,[],YI src σ,H3,I4,T.keep _ _ _ st3 fun b _ o e=>keep4 b o e,fun b hb=>(f3 b hb).1,w0⟩
  rintro n s5 ⟨i,ys,σ5,H5,I5,st5,fr5,w5⟩
  obtain ⟨hDs,stop | go⟩:=turn i n ys σ5 H5 w5
  ·obtain ⟨stop,qn⟩:=stop
   refine thn (T.done (cxC X scope N' cl s3.heap.objs.size s3 H3 fp (X.pn++pins)) rfl rfl rfl hc i [] s5 σ5 H5 _ I5 (stat fr5) st5 stop) fun r s6 ⟨hr,I6⟩=>?_
   subst hr
   obtain ⟨m,hn,_⟩:=id I6.loc
   have IO:Inv X pins σ H5 s6:=fin I6 s6.heap (Heap.SameBut.refl _ _)
   have hCn:H5 s3.heap.objs.size=none:=I6.free
   have hC:∀ {H':Hp},H' s3.heap.objs.size=none→XV X pins H' s3.heap.objs.size:=fun {H'} z=>I3'.fpOk (Nat.le_refl _) z
   obtain ⟨oC,es,ep,hoC,rC⟩:=hn
   have IP:=IO.pinned (fp:=[s3.heap.objs.size]) (fun b hb=>by rw [List.mem_singleton.mp hb];exact hC hCn) (fun b hb=>by rw [List.mem_singleton.mp hb];exact ⟨oC,hoC,fun v z=>by (rw [rC.1] at z;cases z)⟩)
   show wpAny _ _ (assign (.Name x pos') X.env (.ref D)) _ _ _
   refine thn (Y0 hN hix hlx hf _ s6 σ H5 (.ref D) (.ref D) _ IP rfl qn) fun _ s7 ⟨σ7,H7,I7,q7⟩=>?_
   obtain ⟨g1,g2,_⟩:=I7.pin (s3.heap.objs.size,oC) (List.mem_append_right _ (List.mem_append_right _ (Xx (List.mem_singleton.mpr rfl) hoC)))
   refine ⟨m,⟨oC,es,ep,g1,rC⟩,fun h' sb=>wpAny_pure (wpAny_pure ⟨σ7,H7,?_,q7⟩)⟩
   exact I7.unpinned.turnedL (t':=s7.toks) (ch:=[s3.heap.objs.size]) (fun b o hb e=>sb.extBut b o (fun z=>hb (by rw [z];exact List.mem_singleton.mpr rfl)) e) (fun b hb=>by rw [List.mem_singleton.mp hb];exact hC g2)
  ·obtain ⟨go,N,hN,step⟩:=go
   refine thn (T.item (cxC X scope N' cl s3.heap.objs.size s3 H3 fp (X.pn++pins)) rfl rfl rfl hc i [] s5 σ5 H5 _ I5 (stat fr5) st5 go) fun r s6 ⟨u,hr,h6⟩=>?_
   subst hr
   refine thn h6 fun _ s7 ⟨x,H7,I7,r7,y7,st7,fr7⟩=>?_
   have I7':=I7.pinned (stat fr7) (T.obj _ _ st7)
   have again:∀ {s8:Shared} {σ8:St} {H8:Hp} {ys':List V},Inv (cxC X scope N' cl s3.heap.objs.size s3 H3 fp (X.pn++pins)) ([]++WO fp s7.heap) σ8 H8 s8→(∃ m',m'<n∧W (i+1) m' ys' σ8 H8) →
     ∃ m,m<n∧∃ i ys σ' H',Inv (cxC X scope N' cl s3.heap.objs.size s3 H3 fp (X.pn++pins)) [] σ' H' s8∧tn i s8.heap∧(∀ b∈fp,H' b=none)∧W i m ys σ' H':=fun {s8 σ8 H8 ys'} I8 ⟨m',hm,w8⟩=>by
    refine ⟨m',hm,i+1,ys',σ8,H8,I8.unpinned,T.keep _ _ _ st7 fun b hb o e=>(I8.pin (b,o) (List.mem_append_right _ (List.mem_append_right _ (Xx hb e)))).1,fun b hb=>?_,w8⟩
    obtain ⟨o,e,d⟩:=T.obj _ _ st7 b hb
    exact (I8.pin (b,o) (List.mem_append_right _ (List.mem_append_right _ (Xx hb e)))).2.1
   refine thn (hg cl _ s3 H3 fp _ _ s7 σ5 H7 x u _ I7' r7 (step x H7 y7)) fun _ s8 ⟨σ8,H8,I8,q8⟩=>?_
   refine thn (ht cl _ s3 H3 fp _ _ s8 σ8 H8 _ I8 q8) fun ok s9 ⟨H9,I9,q9⟩=>?_
   cases ok with
   | false=>exact again I9 (hN _ _ _ q9)
   | true =>
    rw [if_pos rfl]
    refine thn (he cl _ s3 H3 fp _ _ s9 σ8 H9 _ I9 q9) fun y s10 ⟨yv,H10,I10,r10,q10⟩=>?_
    obtain ⟨hDy,hlen,w10⟩:=q10
    refine thn (UX (X:=cxC X scope N' cl s3.heap.objs.size s3 H3 fp (X.pn++pins)) _ s10 σ8 H10 (.ref D) [yv] (.ref D) [y] (fun _ H'=>H'=upd H10 D (.lst (ys++[yv]))) I10 rfl (.cons r10 .nil) ⟨D,ys,yv,rfl,rfl,hDy,hlen,rfl⟩) fun _ s11 ⟨_,H11,I11,_,e11⟩=>?_
    subst e11
    exact again I11 (hN _ _ _ w10)
 exact codeAny_compStart_list loop (T.self _ 0 _ _ _ (T.keep _ _ _ st3 fun b _ o e=>keep4 b o e) loop)
end
end L2
namespace L2
open PySem PySem.Spec PyProof.Rows
def Yz {α:Type}:Sem α→Prop
 | .pure _=>True
 | .raise _=>True
 | .unsupported _=>True
 | .rule _ k=>Yz (k ())
 | .at _ k=>Yz (k ())
 | .load _ _ k=>∀ o,Yz (k o)
 | .update _ _ f k=>(∀ o:Obj,(f o).dict=o.dict∧(f o).isFreed=o.isFreed)∧Yz (k ())
 | .alloc _ k=>∀ a,Yz (k a)
 | .stack k=>∀ x,Yz (k x)
 | _=>False
def XF (h:Heap) (e:Addr) (dc:Option Addr):Prop:=∃ o,h.get? e=some o∧o.dict=dc
theorem Ycm {α β:Type} {f:α→Sem β} (m:Sem α):Yz m→(∀ a,Yz (f a))→Yz (m.bind f):=by
 induction m with
 | pure a=>intro _ hf;exact hf a
 | raise e=>intro _ _;simp only [Sem.bind,Yz]
 | unsupported e=>intro _ _;simp only [Sem.bind,Yz]
 | rule n k ih=>intro h hf;simp only [Yz] at h;simp only [Sem.bind,Yz];exact ih () h hf
 | «at» n k ih=>intro h hf;simp only [Yz] at h;simp only [Sem.bind,Yz];exact ih () h hf
 | load a b k ih=>intro h hf;simp only [Yz] at h;simp only [Sem.bind,Yz];exact fun o=>ih o (h o) hf
 | update a b g k ih=>intro h hf;simp only [Yz] at h;simp only [Sem.bind,Yz];exact ⟨h.1,ih () h.2 hf⟩
 | alloc a k ih=>intro h hf;simp only [Yz] at h;simp only [Sem.bind,Yz];exact fun o=>ih o (h o) hf
 | stack k ih=>intro h hf;simp only [Yz] at h;simp only [Sem.bind,Yz];exact fun o=>ih o (h o) hf
 | _=>intro h;simp only [Yz] at h
theorem Yd8 {M:Model} {Γ:PySem.Ctx} {α:Type} {Q:α→Pos→Shared→Prop} {E:Value→Pos→Shared→Prop} {e:Addr} {dc:Option Addr} (t:Sem α):Yz t→∀ (p:Pos) (s:Shared),Sem.wp M Γ t Q E p s→XF s.heap e dc→Sem.wp M Γ t (fun a p s'=>Q a p s'∧XF s'.heap e dc) (fun v p s'=>E v p s'∧XF s'.heap e dc) p s:=by
 induction t with
 | pure a=>intro _ p s h d;simp only [Sem.wp] at h ⊢;exact ⟨h,d⟩
 | raise a=>intro _ p s h d;simp only [Sem.wp] at h ⊢;exact ⟨h,d⟩
 | unsupported a=>intro _ p s h d;simp only [Sem.wp] at h
 | rule n k ih=>intro t p s h d;simp only [Yz] at t;simp only [Sem.wp] at h ⊢;exact ih () t p s h d
 | «at» n k ih=>intro t p s h d;simp only [Yz] at t;simp only [Sem.wp] at h ⊢;exact ih () t n s h d
 | load a b k ih=>intro t p s h d;simp only [Yz] at t;simp only [Sem.wp] at h ⊢;obtain ⟨o,h1,h2⟩:=h;exact ⟨o,h1,ih o (t o) p s h2 d⟩
 | update a b f k ih =>
  intro t p s h d
  simp only [Yz] at t
  simp only [Sem.wp] at h ⊢
  obtain ⟨o,d1,d2⟩:=d
  refine ⟨h.1,ih () t.2 p _ h.2 ?_⟩
  by_cases c:a=e
  ·subst c
   exact ⟨f o,Heap.get?_update_self f d1 (by rw [(t.1 o).2];exact (Heap.get?_some_iff.mp d1).2),by rw [(t.1 o).1];exact d2⟩
  ·exact ⟨o,(Heap.get?_update_other _ _ c).trans d1,d2⟩
 | alloc a k ih=>intro t p s h d;simp only [Yz] at t;simp only [Sem.wp] at h ⊢;obtain ⟨o1,d1,d2⟩:=d;exact ih _ (t _) p _ h ⟨o1,Heap.get?_push_of_some _ d1,d2⟩
 | stack k ih=>intro t p s h d;simp only [Yz] at t;simp only [Sem.wp] at h ⊢;exact ih _ (t _) p s h d
 | _=>intro t;simp only [Yz] at t
theorem QQ {M:Model} {A:Around} {α:Type} {t:Sem α} {Q:α→Shared→Prop} {E:Value→Shared→Prop} {s:Shared} {e:Addr} {dc:Option Addr} (T:Yz t) (d:XF s.heap e dc) (h:wpAny M A t Q E s):wpAny M A t (fun a s'=>Q a s'∧XF s'.heap e dc) (fun v s'=>E v s'∧XF s'.heap e dc) s :=
 fun Γ p hΓ=>Yd8 t T p s (h Γ p hΓ) d
theorem YM {α β:Type} {m:Sem α} {f:α→Sem β} (h:Yz m) (hf:∀ a,Yz (f a)):Yz (m >>= f):=Ycm m h hf
theorem WT {α:Type} (a:α):Yz (pure a:Sem α):=trivial
theorem YeO {α:Type} (x:String):Yz (unsupported x:Sem α):=trivial
theorem YbH:Yz stack:=fun _=>trivial
theorem Yc6 (a:Addr) (f:Obj→Obj) (h:∀ o:Obj,(f o).dict=o.dict∧(f o).isFreed=o.isFreed):Yz (update a f):=⟨h,trivial⟩
theorem Qj (v:Value):Yz (fieldsOf v):=by
 unfold fieldsOf
 cases v<;>first | trivial | skip
 refine YM (fun o=>trivial) fun o=>?_
 cases o.data<;>trivial
theorem Wu (v:Value) (i:Nat):Yz (field v i):=by
 unfold field
 refine YM (Qj v) fun vs=>?_
 cases vs[i]?<;>trivial
theorem mapF (f:Array Value→Array Value) (o:Obj):(Obj.mapFields f o).dict=o.dict∧(Obj.mapFields f o).isFreed=o.isFreed:=by
 obtain ⟨c,d,dt,sl⟩:=o
 cases dt<;>exact ⟨rfl,rfl⟩
theorem VP (a:Addr) (i:Nat) (v:Value):Yz (updateField a i v):=by
 unfold updateField
 refine YM (fun o=>trivial) fun o=>?_
 cases o.data with
 | fields vs =>
  dsimp only
  split
  ·exact ⟨mapF _,trivial⟩
  ·trivial
 | _=>trivial
theorem XU (v:Value) (i:Nat) (x:Value):Yz (setField v i x):=by
 unfold setField
 cases v<;>first | trivial | exact VP _ _ _
theorem Uy (v:Value) (f:Option Addr):Yz (setFlight v f):=by
 unfold setFlight
 refine YM (Wu _ _) fun tb=>?_
 split
 ·exact XU _ _ _
 ·trivial
theorem Qk (env:Env) (b:Bool) (l:List Env):Yz (keptBack env b l):=by
 cases l with
 | nil =>
  rw [keptBack]
  by_cases c:(env.scope.isGenerator||env.scope.isCoroutine)=true
  ·rw [if_pos c];exact WT _
  ·rw [if_neg c]
   refine YM ?_ fun x=>WT _
   unfold underTheClaimsCaller
   exact YM YbH fun x=>WT _
 | cons x r=>rw [keptBack];exact WT _
theorem Uf:∀ l:List Env,Yz (readyFrames l)
 | []=>trivial
 | env::outer=>by
  unfold readyFrames
  cases env.frame with
  | none=>trivial
  | some f =>
   dsimp only
   refine YM (fun o=>trivial) fun o=>?_
   split
   ·trivial
   ·refine YM ?_ fun b=>YM (Qk _ _ _) fun k=>YM (Yc6 _ _ fun o=>by obtain ⟨c,d,dt,sl⟩:=o;cases dt<;>exact ⟨rfl,rfl⟩) fun _=>Uf outer
    unfold behindIsImport
    split
    ·trivial
    ·split
     ·trivial
     ·exact YM (Wu _ _) fun x=>trivial
theorem Vn (env:Env):Yz (PySem.frameOf env):=by
 unfold PySem.frameOf frameEnvs
 refine YM (YM (fun x=>trivial) fun x=>trivial) fun l=>?_
 generalize l.dropWhile _=l'
 refine YM ?_ fun r=>?_
 ·cases l' with
  | nil=>trivial
  | cons x r =>
   unfold frameObject
   exact YM (Uf _) fun _=>trivial
 ·cases r<;>trivial
theorem Uz (ty:String) (vs:List Value):Yz (newFields ty vs):=by
 unfold newFields newObj
 dsimp only
 split
 ·exact YM (YeO _) fun _=>YM (fun _=>trivial) fun _=>WT _
 ·exact YM (m:=alloc _) (fun _=>trivial) fun _=>WT _
theorem Vg (a b c d e:Value) (pl:List Value):Yz (EntryCells.newEntry a b c d e pl):=Uz _ _
theorem Ug (f:Addr) (b:Bool):Yz (entryPlaceOf f b):=by
 unfold entryPlaceOf
 refine YM (fun x=>trivial) fun l=>?_
 split<;>trivial
theorem UA (e:Value) (env:Env):Yz (noteFrame e env):=by
 unfold noteFrame
 cases env.frame with
 | none=>trivial
 | some f =>
  dsimp only
  refine YM (Wu _ _) fun hd=>?_
  split
  ·refine YM (Wu _ _) fun x=>?_
   split
   ·trivial
   ·exact YM (XU _ _ _) fun _=>YM (Vn _) fun _=>YM (Ug _ _) fun _=>YM (Vg _ _ _ _ _ _) fun _=>XU _ _ _
  ·exact YM (Vn _) fun _=>YM (Ug _ _) fun _=>YM (Vg _ _ _ _ _ _) fun _=>XU _ _ _
theorem Vo (env:Env) (e:Value):Yz (leaving env e):=by
 unfold leaving
 exact YM (UA _ _) fun _=>Uy _ _
structure Fly (P:Program) (w:World) (l:List Env) (H:Hp) (h:Heap) (e:Addr) (cls:Value) (H':Hp) (h' B:Heap):Prop where
 fl:∃ a0,Heap.FlyingW B l e cls a0 h'
 hok:HOk P w H' B
 keep:∀ b o,h.get? b=some o→H b=none→b∉frs l→B.get? b=some o
 slot:∀ b o,h.get? b=some o→H b=none→b∈frs l→∃ sl,h'.get? b=some { o with slots:=sl }
 al:∀ b o,h.get? b=some o→b∉frs l→∃ o',B.get? b=some o'
 free:∀ b o,h.get? b=some o→H b=none→H' b=none
 tups:∀ b xs,H b=some (.tup xs)→H' b=some (.tup xs)
 frzs:∀ b o u,H b=some (.frz o u)→H' b=some (.frz o u)
 tbls:∀ b ps,H b=some (.tbl ps)→∃ more,H' b=some (.tbl (ps++more))
section
variable {P:Program} {w:World} {l:List Env} {H H':Hp} {h h' h'' B:Heap} {e:Addr} {cls:Value}
theorem Fly.un (F:Fly P w l H h e cls H' h' B) (hf:∀ b∈frs l,H b=none):Un (frs l) [] H H' h h':=by
 obtain ⟨a0,fl⟩:=F.fl
 refine ⟨fun b o q n hb _=>fl.1 b o (F.keep b o q n hb),fun b o q n hb _=>F.slot b o q n hb,fun b o q n _=>F.free b o q n,fun b o q _=>?_,F.tups,F.frzs,F.tbls⟩
 by_cases hb:b∈frs l
 ·obtain ⟨sl,z⟩:=F.slot b o q (hf b hb) hb
  exact ⟨_,z⟩
 ·obtain ⟨o',z⟩:=F.al b o q hb
  exact ⟨o',fl.1 b o' z⟩
theorem Fly.held (F:Fly P w l H h e cls H' h' B):HOk P w H' h':=by
 obtain ⟨a0,fl⟩:=F.fl
 exact F.hok.kept fl.1
theorem Fly.on (F:Fly P w l H h e cls H' h' B) (fl:∃ a0,Heap.FlyingW B l e cls a0 h'') (nf:∀ b∈frs l,∀ o,h.get? b=some o→∀ vs,o.data ≠ .fields vs) (sm:h'.UpToSlots h''):Fly P w l H h e cls H' h'' B :=
 ⟨fl,F.hok,F.keep,fun b o q n hb=>by
  obtain ⟨sl,z⟩:=F.slot b o q n hb
  obtain ⟨sl',z'⟩:=sm b _ z (nf b hb o q)
  exact ⟨sl',z'⟩,F.al,F.free,F.tups,F.frzs,F.tbls⟩
end
section
variable {X:Cx} {pins:List (Addr×Obj)} {σ:St} {H H':Hp} {s s':Shared} {h' B:Heap} {e:Addr} {cls:Value} {M:Model} {A:Around} {Q:Unit→Shared→Prop} {EE:Value→Shared→Prop}
theorem Inv.notL (I:Inv X pins σ H s) {b:Addr} {o:Obj} (q:X.s₀.heap.get? b=some o):b≠X.env.locals:=Nat.ne_of_lt (Nat.lt_of_lt_of_le (Heap.lt_size q) I.ok.above)
theorem Inv.notStk (I:Inv X pins σ H s) (hf:X.env.frame=some X.env.locals) {b:Addr} {o:Obj} (q:X.s₀.heap.get? b=some o) (n:b∉X.fs):b∉frs (X.env::X.outer):=fun z=>by
 unfold frs at z
 rw [List.filterMap_cons,hf] at z
 rcases List.mem_cons.mp z with z | z
 ·exact I.notL q z
 ·exact n z
theorem Inv.inStk (I:Inv X pins σ H s) (hf:X.env.frame=some X.env.locals) {b:Addr} (n:b∈X.fs):b∈frs (X.env::X.outer):=by
 unfold frs
 rw [List.filterMap_cons,hf]
 exact List.mem_cons_of_mem _ n
theorem Inv.leave_on (I:Inv X pins σ H s) (hs:X.stack=X.env::X.outer) (hf:X.env.frame=some X.env.locals) (hex:X.ex=[]) (hA:A.frames=some (X.env::X.outer)) (F:Fly X.prog X.w X.stack H s.heap e cls H' s'.heap B) {dc:Option Addr} (hd:XF s'.heap e dc)
  (hQ:∀ h'',Fly X.prog X.w X.outer X.H₀ X.s₀.heap e cls H' h'' B→XF h'' e dc→Q () { s' with heap:=h'' }):wpAny M A (leaving X.env (.ref e)) Q EE s':=by
 have nx:∀ b:Addr,b∉X.ex:=by
  rw [hex]
  intro b z
  cases z
 rw [hs] at F
 obtain ⟨a0,fl⟩:=F.fl
 refine wpAny_mono (QQ (Vo _ _) hd (wpAny_leaves_onW (Q:=fun _ s2=>∃ h'',s2={ s' with heap:=h'' }∧Fly X.prog X.w X.outer X.H₀ X.s₀.heap e cls H' h'' B) hA hf fl fun h'' x1 x2=>⟨h'',rfl,?_⟩)) (fun _ s2 z=>by
  obtain ⟨⟨h'',rfl,F⟩,d⟩:=z
  exact hQ h'' F d) fun _ _ z=>z.1
 refine ⟨⟨_,x1⟩,F.hok,fun b o q n nb=>F.keep b o (I.base.keep b o q n nb (nx b)) (I.base.free b o q n (nx b)) (I.notStk hf q nb),fun b o q n hb=>?_,fun b o q nb=>?_,fun b o q n=>?_,fun b xs q=>F.tups b xs (I.base.tups b xs q),fun b o u q=>F.frzs b o u (I.base.frzs b o u q),fun b ps q=>?_⟩
 ·obtain ⟨sl,e1⟩:=I.base.slot b o q n hb (nx b)
  obtain ⟨sl1,e2⟩:=F.slot b _ e1 (I.base.free b o q n (nx b)) (I.inStk hf hb)
  obtain ⟨_,o',e',d⟩:=I.ok.funs.mem hb
  rw [q] at e'
  cases e'
  obtain ⟨sl',e3⟩:=x2 b _ e2 d
  exact ⟨sl',e3⟩
 ·obtain ⟨o',e1⟩:=I.base.there b o q (nx b)
  exact F.al b o' e1 (I.notStk hf q nb)
 ·obtain ⟨o',e1⟩:=I.base.there b o q (nx b)
  exact F.free b o' e1 (I.base.free b o q n (nx b))
 ·obtain ⟨m1,e1⟩:=I.base.tbls b ps q
  obtain ⟨m2,e2⟩:=F.tbls b _ e1
  exact ⟨m1++m2,by rw [e2,Array.append_assoc]⟩
end
def CXF (P:Program) (w:World):CXT:=fun l H s E e s'=>∃ (a:Addr) (cls:Value) (H':Hp) (B:Heap) (dc:Option Addr),e = .ref a∧s'.os=s.os∧AllBare s'.gens∧Fly P w l H s.heap a cls H' s'.heap B∧XF s'.heap a dc∧E cls dc H'
abbrev Gx.cxX (g:Gx) (N:List Str) (qual:Str) (st:Stmt) (f:Addr) (cdv:Value) (A:Around) (outer:List Env) (s:Shared) (H:Hp) (E:XK):Cx:=Wa (CXF g.P g.w) g.P g.w g.K g.mg g.base N qual (Yi st) f cdv A outer s H E
section
variable {g:Gx} {N:List Str} {qual:Str} {st:Stmt} {f:Addr} {cdv:Value} {A:Around} {outer:List Env} {s:Shared} {H:Hp} {E:XK}
theorem YW:WQ (CXF g.P g.w) (g.cxX N qual st f cdv A outer s H E) E:=by
 intro pins σ H1 s1 e s' I hq
 obtain ⟨a,cls,H',B,dc,he,os,bare,F,hd,q⟩:=hq
 subst he
 exact I.leave_on rfl rfl rfl I.ok.frames F hd fun h'' F' hd'=>⟨a,cls,H',B,dc,rfl,os.trans I.os,bare,F',hd',q⟩
end
def Gx.FnX (g:Gx) (k:Nat) (x:Str) (ps:List Str) (sp:Sp):Prop:=∃ f fd,FnOk g.P g.w g.K g.mg g.base (CXF g.P g.w) k f fd ps sp∧Xr g.K fd ps []∧PySem.W.keepIn g.K (.ref f)=true∧g.mg x=some (.ref f)
def BodyX (g:Gx) (k:Nat) (N:List Str) (qual:Str) (st:Stmt) (sp:Sp):Prop:=∀ (f:Addr) (cdv:Value) (A:Around) (outer:List Env) (s:Shared) (H:Hp) (vs:List V) (Q:VK) (E:XK),Room k (g.cxX N qual st f cdv A outer s H E).A→sp vs H Q E →
 ∃ t,PSs (g.cxX N qual st f cdv A outer s H E) (YT st) t∧t { nx:=fun _ H'=>Q .non H',rt:=Q } (start N vs) H
section
variable {g:Gx} {k:Nat} {x qual m:Str} {st:Stmt} {N ps:List Str} {sp:Sp} {C:Addr}
theorem Gx.Raw.fnX (R:g.Raw x qual st ps) (S:FnScope N ps (Yi st)) (len:∀ vs H Q E,sp vs H Q E→vs.length=ps.length) (b:BodyX g k N qual st sp):g.FnX (k+1) x ps sp:=by
 obtain ⟨f,fd,F,bd,hm⟩:=R
 refine ⟨f,fd,?_,bd,F.kp,hm⟩
 obtain ⟨oc,od,kV,doc,pm,an,cdv,ct,osl,rfl,lk,hcd⟩:=F.ex
 exact Ybx lk hcd S len fun A outer s H vs Q E hr h=>b f cdv A outer s H vs Q E hr h
theorem Gx.FnX.mono {j:Nat} (F:g.FnX j x ps sp) (h:j≤k):g.FnX k x ps sp:=by
 obtain ⟨f,fd,F,r⟩:=F
 exact ⟨f,fd,F.mono h,r⟩
theorem Gx.Raw.noneX (R:g.Raw x qual st ps) (no:∀ vs H Q E,¬ sp vs H Q E):g.FnX k x ps sp:=by
 obtain ⟨f,fd,F,bd,hm⟩:=R
 exact ⟨f,fd,⟨fun vs H Q E h=>absurd h (no vs H Q E),fun A outer s H args us vs Q E _ _ _ _ h=>absurd h (no vs H Q E)⟩,bd,F.kp,hm⟩
end
section
variable {g:Gx} {X:Cx} {k j:Nat} {x:Str} {ps:List Str} {sp:Sp} {E:XK} {e:Expr} {es:List Expr} {t:TA} {p pos cpos np:Pos}
theorem YR (F:g.FnX j x ps sp) (hr:Room k X.A) (hp:WQ (CXF g.P g.w) X E) (ha:PA X (e::es) t) (hj:j≤k) (hX:X.gx=g) (hg:Gl X x) (hdb:(x==("__debug__":Str))=false)
  (he:starEach (e::es) X.env=(false,eval e X.env)::starEach es X.env) (hpl:(backTo pos (starEach es X.env)).any (·.1)=false):PE X (.Call (.Name x p) (e::es) [] pos) (Qq sp [] E t):=by
 subst hX
 obtain ⟨f,fd,F,b,kp,hm⟩:=F
 exact YaQ F (hr.mono hj) hg hm kp b .nil hp ha hdb he hpl
theorem PS.nox {st:Stmt} {t:TS} (h:PS X.nox st t):PS X st t:=fun pins s σ H D I hw =>
 wpAny_mono (h pins s σ H D (I.wish _) hw) (fun _ _ q=>q.unwish) fun _ _ z=>False.elim z
abbrev Uh:List Value:=[.type "ValueError",.type "Exception",.type "BaseException",.type "object"]
def YeP (C:Addr) (E:XK) (t:TA):TS:=fun _ σ H=>t σ H fun vs H1=>vs.length≤sizeLine∧E (.ref C) none H1
end
abbrev Cx.caught (X:Cx) (e:Addr):Cx:={ X with A:=X.A.mark (some (.ref e)),calm:=false,xe:=fun _ _=>False }
section
variable {X:Cx} {pins:List (Addr×Obj)} {σ:St} {H H' H1:Hp} {s s1 s':Shared} {e:Value} {D:Ends} {ts:TS} {b₀:Stmt} {suite:List Stmt} {c:Str} {cv:Value} {cp hpos:Pos}
theorem Inv.caught (I:Inv X pins σ H s) (a:Addr):Inv (X.caught a) pins σ H s :=
 ⟨⟨I.ok.mod,I.ok.kind,I.ok.glob,I.ok.blt,I.ok.above,I.ok.inj,I.ok.has,I.ok.cab,fun z=>(by cases z),I.ok.frames,I.ok.stk,I.ok.exf,I.ok.bs,I.ok.bsz,I.ok.noex,I.ok.exfs,I.ok.funs,I.ok.frf⟩,I.os,I.bare,I.base,I.loc,I.cell,I.free,I.freeC,I.pin,I.hok,I.len⟩
theorem Inv.uncaught {a:Addr} (hd:X.calm=true→X.A.handled=none) (I:Inv (X.caught a) pins σ H s):Inv X pins σ H s :=
 ⟨⟨I.ok.mod,I.ok.kind,I.ok.glob,I.ok.blt,I.ok.above,I.ok.inj,I.ok.has,I.ok.cab,hd,I.ok.frames,I.ok.stk,I.ok.exf,I.ok.bs,I.ok.bsz,I.ok.noex,I.ok.exfs,I.ok.funs,I.ok.frf⟩,I.os,I.bare,I.base,I.loc,I.cell,I.free,I.freeC,I.pin,I.hok,I.len⟩
theorem SP.uncaught {a:Addr} {f:Flow} (hd:X.calm=true→X.A.handled=none) (h:SP (X.caught a) pins D f s):SP X pins D f s:=by
 cases f with
 | next=>obtain ⟨σ',H',I,q⟩:=h;exact ⟨σ',H',I.uncaught hd,q⟩
 | brk=>obtain ⟨σ',H',I,q⟩:=h;exact ⟨σ',H',I.uncaught hd,q⟩
 | cont=>obtain ⟨σ',H',I,q⟩:=h;exact ⟨σ',H',I.uncaught hd,q⟩
 | ret u=>obtain ⟨v,σ',H',I,r,q⟩:=h;exact ⟨v,σ',H',I.uncaught hd,r,q⟩
theorem Inv.seen {a:Addr} {cls:Value} {B:Heap} (I:Inv X pins σ H1 s1) (F:Fly X.prog X.w X.stack H1 s1.heap a cls H' s'.heap B) (os:s'.os=s1.os) (bare:AllBare s'.gens):Inv X pins σ H' s' :=
 I.call' (ch:=[]) os (F.un I.stkFree) F.held bare fun b z=>nomatch z
theorem Inv.stkData (I:Inv X pins σ H1 s1):∀ b∈frs X.stack,∀ o,s1.heap.get? b=some o→∀ vs,o.data ≠ .fields vs:=fun b hb o q=>by
 obtain ⟨_,o',e',d⟩:=I.stack.mem hb
 rw [q] at e'
 cases e'
 exact d
theorem Inv.catch (I:Inv X pins σ H1 s1) (hs:X.stack=X.env::X.outer) (hf:X.env.frame=some X.env.locals) (hq:CXF X.prog X.w X.stack H1 s1 (fun cls _ H2=>PySem.W.exmOne X.K cls cv=some true∧ts D σ H2) e s')
  (hsu:∀ a,PSs (X.caught a) (b₀::suite) ts) (hc:Gl X c) (hcm:X.mg c=some cv) (hdb:(c==("__debug__":Str))=false) :
  wpAny (model X.prog X.w) X.A (noteFrame e X.env) (fun _ s₂=>wpAny (model X.prog X.w) X.A (setFlight e none) (fun _ s₃=>wpAny (model X.prog X.w) X.A (handleBy e X.env [.ExceptHandler (some (.Name c cp)) none (b₀::suite) hpos]) (SP X pins D) X.xe s₃) X.xe s₂) X.xe s':=by
 obtain ⟨a,cls,H2,B,dc,rfl,os,bare,F,hdc,hm,ht⟩:=hq
 obtain ⟨a0,fl⟩:=F.fl
 have nf:=I.stkData
 have fl':=fl
 rw [hs] at fl'
 have hfr:=I.ok.frames
 rw [hs] at hfr
 refine wpAny_looks_onW hfr hf fl' fun h₄ held sm4=>wpAny_landsW held fun h₅ fl5 sm5=>?_
 rw [← hs] at fl5
 have F5:=F.on ⟨a0,fl5⟩ nf (sm4.trans sm5)
 have I5:Inv X pins σ H2 { s' with heap:=h₅ }:=I.seen (s':={ s' with heap:=h₅ }) F5 os bare
 have I5c:=I5.caught a
 refine wpAny_handleBy_cons (codeAny_handlers_test (Ww I5c hc hcm ?_ hdb)) (by intro q;cases q)
 obtain ⟨ob,hob,hcl⟩:=fl5.there
 have LT:PySem.W.Looks (model X.prog X.w) h₅ (typeOf (.ref a)) cls:=by
  subst hcl
  exact (PySem.W.Looks.ld hob).andThen .now
 refine PySem.W.exm_one (K:=X.K) (h:=h₅) I5.kIn LT hm _ _ _ _ (fun _ _ z=>z) ?_
 refine codeAny_handlers_suite ?_
 refine lands_againW fl5 fun h₆ fl6 sm6=>?_
 have F6:=F5.on ⟨a0,fl6⟩ nf sm6
 have I6:Inv X pins σ H2 { s' with heap:=h₆ }:=I.seen (s':={ s' with heap:=h₆ }) F6 os bare
 refine wpAny_mono (hsu a pins _ σ H2 D (I6.caught a) ht) (fun f s₂ z=>z.uncaught I.ok.hd) fun _ _ z=>z.elim
end
def tTry (K:PySem.W.Frag) (cv:Value) (sp:Sp) (t:TA) (i:Nat) (ts:TS):TS:=fun D σ H=>t σ H fun vs H1=>sp (vs++[]) H1 (fun v H2=>D.nx (σ.set i (some v)) H2) (fun cls _ H2=>PySem.W.exmOne K cls cv=some true∧ts D σ H2)
section
variable {g:Gx} {X:Cx} {k j i:Nat} {x f c:Str} {ps:List Str} {sp:Sp} {e:Expr} {es:List Expr} {t:TA} {ts:TS} {b₀:Stmt} {suite:List Stmt} {cv:Value} {fp px cp hpos apos cpos pos:Pos}
end
end L2
namespace L2
open PySem PySem.Spec PyProof.Rows
section
variable {prog:Program} {w:World} {A:Around} {E:Value→Shared→Prop} {s:Shared}
open AutoSeq1 (wpAny_loadPart') in
end
section
variable {X:Cx} {elts:List Expr} {kk:Nat} {tpos:Pos}
end
section
variable {g:TG} {tb:TS} {D:Ends} {σ:St} {H:Hp}
end
end L2
namespace L2
open PySem PySem.Spec PyProof.Rows
section
variable {prog:Program} {w:World} {A:Around} {E:Value→Shared→Prop} {s:Shared}
open AutoSeq1 (wpAny_loadPart') in
end
end L2
namespace L2
open PySem PySem.Spec PyProof.Rows
section
variable {X:Cx} {elts:List Expr} {kk:Nat} {tpos:Pos}
end
section
variable {g:TG} {tb:TS} {D:Ends} {σ:St} {H:Hp}
end
section
variable {X:Cx} {tg:Expr}
end
end L2
namespace L2
open PySem PySem.Spec PyProof.Rows
def ExcD (a:Addr) (cls:Value) (dc:Option Addr):HO := .ext fun h=>∃ o vs,h.get? a=some o∧o.cls=cls∧o.data = .fields vs∧o.dict=dc
section
variable {P:Program} {w:World} {l:List Env} {H H':Hp} {h h' h'' B:Heap} {a e:Addr} {cls:Value} {o:HO}
theorem Fly.new (F:Fly P w l H h e cls H' h' B) (hf:∀ b∈frs l,H b=none) (nf:∀ b∈frs l,∀ o,h.get? b=some o→∀ vs,o.data ≠ .fields vs):h.get? e=none:=by
 obtain ⟨a0,fl⟩:=F.fl
 cases q:h.get? e with
 | none=>rfl
 | some o =>
  by_cases hb:e∈frs l
  ·obtain ⟨sl,z⟩:=F.slot e o q (hf e hb) hb
   obtain ⟨oe,vs,z',_,d,_⟩:=fl.first
   rw [z] at z'
   cases z'
   exact absurd d (nf e hb o q vs)
  ·obtain ⟨o',z⟩:=F.al e o q hb
   rw [fl.2.1] at z
   cases z
end
section
variable {X:Cx} {pins:List (Addr×Obj)} {σ:St} {H H' H1:Hp} {s s1 s':Shared}
end
def Ends.gone (D:Ends) (j:Nat):Ends:={ nx:=fun σ H=>D.nx (σ.set j none) H,rt:=D.rt,bk:=fun σ H=>D.bk (σ.set j none) H,ct:=fun σ H=>D.ct (σ.set j none) H }
section
variable {X:Cx} {pins:List (Addr×Obj)} {σ:St} {H H' H1:Hp} {s s1 s':Shared} {e:Value} {D:Ends} {ts:TS} {b₀:Stmt} {suite:List Stmt} {c n:Str} {cv:Value} {cp hpos:Pos} {j:Nat}
end
end L2
namespace L2
open PySem PySem.Spec PyProof.Rows
def YeQ (K:PySem.W.Frag) (cv:Value) (sp:Sp) (t:TA) (i j:Nat) (ts:TS):TS:=fun D σ H=>t σ H fun vs H1=>sp (vs++[]) H1 (fun v H2=>D.nx (σ.set i (some v)) H2) (fun cls dc H2=>PySem.W.exmOne K cls cv=some true∧∀ a,H2 a=none→ts (D.gone j) (σ.set j (some (.ref a))) (upd H2 a (ExcD a cls dc)))
section
variable {g:Gx} {X:Cx} {k jj i j:Nat} {x f c n:Str} {ps:List Str} {sp:Sp} {e:Expr} {es:List Expr} {t:TA} {ts:TS} {b₀:Stmt} {suite:List Stmt} {cv:Value} {fp px cp hpos apos cpos pos:Pos}
end
structure RoomM (k:Nat) (A:Around):Prop where
 dp:A.depth+3*k+5<recursionLimit
 un:A.units+16*k+200<cLine
theorem Room.m {k:Nat} {A:Around} (r:Room k A) (h:Option Value):RoomM k (A.mark h):=⟨r.dp,r.un⟩
section
variable {g:Gx} {k:Nat} {x qual:Str} {st:Stmt} {N ps:List Str} {sp:Sp}
end
section
variable {g:Gx} {X:Cx} {k j:Nat} {x:Str} {ps:List Str} {sp:Sp} {e:Expr} {es:List Expr} {t:TA} {p pos:Pos}
end
end L2
namespace PySem.W
open PySem PySem.Calls PyProof.Rows Builtin Builtin.ObjectAttr Builtin.Getset_descriptor
section
variable {prog:Program} {w:World} {A:Around} {E:Value→Shared→Prop} {K:Frag} {x C:Addr} {ox:Obj} {hh:Heap} {g:Array GenState} {d:Drawn} {t:Nat} {os:OsState}
end
end PySem.W
namespace L2
open PySem PySem.Spec PyProof.Rows
section
variable {X:Cx}
theorem YeR {g:Gx} {x:Str} {C:Addr} {pos:Pos} (h:g.mg x=some (.ref C)) (hX:X.gx=g:=by rfl) (hg:Gl X x:=by rfl) (hd:(x==("__debug__":Str))=false:=by decide):PE X (.Name x pos) (tC (.ref C)):=by
 subst hX
 exact YaL hg h rfl hd
end
theorem Yc7 {X:Cx} {a:Addr}:(X.caught a).K=X.K:=rfl
end L2
namespace L2
open PySem PySem.Spec PyProof.Rows
end L2
namespace L2
open PySem PySem.Spec PyProof.Rows
section
variable {src:List (Option Nat)} {te:TE} {σ:St} {H:Hp} {Q:VK}
end
end L2
namespace L2
open PySem PySem.Spec PyProof.Rows
section
variable {X:Cx}
end
end L2
namespace L2
open PySem PySem.Spec PyProof.Rows
section
variable {src:List (Option Nat)} {te:TE} {σ:St} {H:Hp} {Q:VK}
theorem Yc8 {K:PySem.W.Frag} {tl:TE} {xs:List V} (ys:List V) (ha:∀ R:V→Hp→Prop,(∀ a H1,Yd H H1→SqT K H1 a xs→R (.ref a) H1)→tl σ H R) (hl:ys.length=xs.length) (hlen:xs.length≤100000)
  (step:∀ (i:Nat) x y H',xs[i]?=some x→ys[i]?=some y→Yd H H'→∀ R:VK,(∀ H'',Yd H' H''→R y H'')→te (some x::YI src σ) H' R)
  (fin:∀ D H',H D=none→Yd H H'→H' D=some (.lst ys)→Q (.ref D) H'):tLC (none::src) (QE K tl) (YA 0) XE te σ H Q :=
 ha _ fun a H1 s1 hS=>⟨a,rfl,⟨xs,hS⟩,fun D hD=>QP (U0.imp fun H' (e:Yd H1 H')=>e.tup hS) ys (fun _ e=>e) hD hl hlen (fun i x y H' hx hy sm R r=>step i x y H' hx hy (s1.trans sm) R r) fun H' sm=>fin D H' (s1.free hD) (s1.trans sm)⟩
end
end L2
namespace L2
open PySem PySem.Spec PyProof.Rows
def SqX (K:PySem.W.Frag) (H:Hp) (a:Addr) (xs:List V):Prop:=Rd H a (.lst xs)∨∃ (its:Array Value) (n:Nat),K.lookup a=some { cls := .type "list",data := .seq its n }∧its.size≤sizeLine∧Yl xs its.toList
theorem SqX.sq {K:PySem.W.Frag} {H:Hp} {a:Addr} {xs:List V} (h:SqX K H a xs):SqL K H a xs:=by
 rcases h with h | ⟨its,n,h1,h2,h3⟩
 ·exact .inl h
 ·exact .inr ⟨_,its,n,h1,rfl,rfl,rfl,h2,h3⟩
theorem SqX.of {K:PySem.W.Frag} {H:Hp} {a:Addr} {xs:List V} (h:H a=some (.lst xs)):SqX K H a xs := .inl (.of h)
theorem SqX.keep {K:PySem.W.Frag} {H H':Hp} {a:Addr} {xs:List V} (h:SqX K H a xs) (s:Yd H H'):SqX K H' a xs:=by
 rcases h with h | h
 ·rcases h with h | ⟨o,h⟩
  ·exact .inl (.inl (s _ _ h))
  ·exact .inl (.inr ⟨o,s _ _ h⟩)
 ·exact .inr h
section
variable {X:Cx}
theorem Inv.listX {pins:List (Addr×Obj)} {σ:St} {H:Hp} {s:Shared} {a:Addr} {xs:List V} (I:Inv X pins σ H s) (h:SqX X.K H a xs):∃ (its:List Value) (n:Nat),Yl xs its∧s.heap.get? a=some { cls := .type "list",data := .seq its.toArray n }∧xs.length≤sizeLine:=by
 rcases h with h | ⟨its,n,hk,hz,r⟩
 ·obtain ⟨z,its,n,r,e⟩:=h.ok I.hok
  exact ⟨its,n,r,e,z⟩
 ·refine ⟨its.toList,n,r,by simpa using I.kIn a _ hk,?_⟩
  have e:=r.length
  simp only [Array.length_toList] at e
  omega
def YdM (K:PySem.W.Frag):R2:=fun x y H Q=>∃ l b xs zs,x = .ref l∧y = .ref b∧SqX K H l xs∧SqX K H b zs∧xs.length+zs.length≤sizeLine∧∀ p,H p=none→Q (.ref p) (upd H p (.lst (xs++zs)))
theorem UB:OpR X (binaryOp .Add) (YdM X.K):=by
 intro pins s σ H x y v u Q I rx ry h
 obtain ⟨l,b,xs,zs,rfl,rfl,hH,hB,hz,q⟩:=h
 cases rx
 cases ry
 obtain ⟨its,n,r,e,z⟩:=I.listX hH
 obtain ⟨its2,n2,r2,e2,z2⟩:=I.listX hB
 have l1:=r.length
 have l2:=r2.length
 refine PySem.P.add_list e e2 ?_ (by rw [List.size_toArray,List.size_toArray];omega)
 have ea:its.toArray++its2.toArray=(its++its2).toArray:=by simp
 rw [ea]
 exact ⟨.ref _,_,I.lnew (t':=s.toks) (r.append r2) (by rw [List.length_append];omega),rfl,q _ I.fresh⟩
end
end L2
namespace L2
open PySem PySem.Spec PyProof.Rows
def Gx.FnV (g:Gx) (k:Nat) (f:Addr) (ps:List Str) (sp:Sp):Prop:=∃ fd,FnOk g.P g.w g.K g.mg g.base CX0 k f fd ps sp∧Xr g.K fd ps []∧PySem.W.keepIn g.K (.ref f)=true
def tFn (g:Gx) (k:Nat) (ps:List Str) (sp:Sp):TE:=fun _ H Q=>∀ f,g.FnV k f ps sp→Q (.ref f) H
def YeS (g:Gx) (k i:Nat) (t:TA):TE:=fun σ H Q=>∃ f ps sp,σ[i]?=some (some (.ref f))∧g.FnV k f ps sp∧t σ H fun vs H1=>sp vs H1 Q E0
section
variable {X:Cx} {g:Gx} {k j i:Nat} {x:Str} {ps:List Str} {sp:Sp} {p pos:Pos} {e:Expr} {es:List Expr} {t:TA}
theorem YZ (F:g.Fn j x ps sp) (hX:X.gx=g) (hg:Gl X x) (hdb:(x==("__debug__":Str))=false):PE X (.Name x pos) (tFn g j ps sp):=by
 subst hX
 obtain ⟨f,fd,F,b,kp,hm⟩:=F
 intro pins s σ H Q I h
 exact YaL (v := .ref f) hg hm rfl hdb pins s σ H Q I (h f ⟨fd,F,b,kp⟩)
theorem Yc9 (i:Nat) (hr:Room k X.A) (ha:PA X (e::es) t) (hj:j≤k) (hX:X.gx=g) (hN:X.N[i]?=some x) (hv:Vis X.env.scope x) (hdb:(x==("__debug__":Str))=false)
  (hcd:(x==("__classdict__":Str))=false) (he:starEach (e::es) X.env=(false,eval e X.env)::starEach es X.env) (hpl:(backTo pos (starEach es X.env)).any (·.1)=false):PE X (.Call (.Name x p) (e::es) [] pos) (YeS g j i t):=by
 subst hX
 intro pins s σ H Q I h
 obtain ⟨f,ps,sp,hσ,⟨fd,F,b,kp⟩,ht⟩:=h
 refine wpAny_Call_Name_kw (thn (QB hN hv hdb hcd pins s σ H (fun v H1=>v = .ref f∧t σ H1 fun vs H1=>sp vs H1 Q E0) I ⟨.ref f,hσ,rfl,ht⟩) fun u s1 ⟨v,H1,I1,r,e,ht⟩=>?_)
 subst e
 obtain rfl:u=Value.ref f:=r
 refine PySem.W.callWith_K (h₀:=X.base) I1.ok.mod.kin kp (thn (ha pos pins s1 σ H1 _ I1 ht) fun us s2 ⟨vs,H2,I2,r2,q⟩=>⟨I2.kIn,?_⟩) he hpl
 exact QH F (hr.mono hj) b .nil Qr I2 r2 (by rw [List.append_nil];exact q)
end
theorem YF (es:List Expr) (x:Nat) (p:Pos) (es':List Expr) (env:Env):starEach (.Tuple es x p::es') env=(false,eval (.Tuple es x p) env)::starEach es' env:=rfl
theorem Wc (es:List Expr) (p:Pos) (es':List Expr) (env:Env):starEach (.List es p::es') env=(false,eval (.List es p) env)::starEach es' env:=rfl
end L2
namespace L2
open PySem PySem.Spec PyProof.Rows
section
variable {X:Cx} {pins:List (Addr×Obj)} {σ:St} {H:Hp} {s:Shared} {A:Around} {E Q:Value→Shared→Prop}
theorem QR:∀ {Ts:List String} {us:List Value},Yl (Ts.map V.ty) us→us=Ts.map Value.type
 | [],_,r=>by cases r;rfl
 | T::Ts,_,r=>by
  cases r with
  | cons h t =>
   have:_=Value.type T:=h
   rw [this,QR t]
   rfl
theorem YbI {x:V} {u t:Value} {tp:Addr} {Ts:List String} {b:Bool} (I:Inv X pins σ H s) (rx:Yv x u) (ty:TyOf X.K H x t) (hT:H tp=some (.tup (Ts.map V.ty))) (e:PySem.W.kitAny X.K t (Ts.map Value.type)=some b) (h:∀ tk,Q (.bool b) { s with toks:=tk }) :
  wpAny (model X.prog X.w) A (call (.builtin "isinstance") [u,.ref tp]) Q E s:=by
 obtain ⟨_,us,r,o,g1,g2,n,g3⟩:=(show YK X.prog X.w H s.heap tp (.tup (Ts.map V.ty)) from I.hok tp _ hT)
 obtain ⟨oc,od,ot,sl⟩:=o
 have g2':oc=Value.type "tuple":=g2
 have g3':ot=Data.seq us.toArray n:=g3
 subst g2' g3'
 rw [QR r] at g1
 cases ty with
 | non=>cases (show u=Value.none from rx);exact PySem.W.kia_tup PySem.W.kitx_none I.kIn True.intro g1 e (fun z=>nomatch z) h
 | bl y=>cases (show u=Value.bool y from rx);exact PySem.W.kia_tup PySem.W.kitx_bool I.kIn True.intro g1 e (fun z=>nomatch z) h
 | int i=>obtain ⟨t,q⟩:=(show ∃ t,u=Value.int i t from rx);cases q;exact PySem.W.kia_tup PySem.W.kitx_int I.kIn True.intro g1 e (fun z=>nomatch z) h
 | str y=>obtain ⟨t,q⟩:=(show ∃ t,u=Value.str y t from rx);cases q;exact PySem.W.kia_tup PySem.W.kitx_str I.kIn True.intro g1 e (fun z=>nomatch z) h
 | flt y=>obtain ⟨t,q⟩:=(show ∃ t,u=Value.float y t from rx);cases q;exact PySem.W.kia_tup PySem.W.kitx_float I.kIn True.intro g1 e (fun z=>nomatch z) h
 | @lst a xs ea =>
  cases (show u=Value.ref a from rx)
  obtain ⟨_,_,n,_,h1⟩:=(show YK X.prog X.w H s.heap a (.lst xs) from I.hok a _ ea)
  exact PySem.W.kia_tup PySem.W.kitx_list I.kIn ⟨_,h1,rfl⟩ g1 e (fun z=>nomatch z) h
 | @frz a ob xs ea =>
  cases (show u=Value.ref a from rx)
  obtain ⟨_,_,_,n,_,h1⟩:=(show YK X.prog X.w H s.heap a (.frz ob (.lst xs)) from I.hok a _ ea)
  exact PySem.W.kia_tup PySem.W.kitx_list I.kIn ⟨_,h1,rfl⟩ g1 e (fun z=>nomatch z) h
 | @tup a xs ea =>
  cases (show u=Value.ref a from rx)
  obtain ⟨_,_,_,p⟩:=(show YK X.prog X.w H s.heap a (.tup xs) from I.hok a _ ea)
  obtain ⟨o,h1,h2,_⟩:=p
  exact PySem.W.kia_tup PySem.W.kitx_tuple I.kIn ⟨o,h1,h2⟩ g1 e (fun z=>nomatch z) h
 | @dK a kvs ea =>
  cases (show u=Value.ref a from rx)
  obtain ⟨_,_,vs,_,p⟩:=(show YK X.prog X.w H s.heap a (.dK kvs) from I.hok a _ ea)
  obtain ⟨o,es,ep,h1,h2,_⟩:=p
  exact PySem.W.kia_tup PySem.W.kitx_dict I.kIn ⟨o,h1,h2.1⟩ g1 e (fun z=>nomatch z) h
 | @dT a kvs ea =>
  cases (show u=Value.ref a from rx)
  obtain ⟨_,_,xs,_,o,es,ep,h1,h2,_⟩:=(show YK X.prog X.w H s.heap a (.dT kvs) from I.hok a _ ea)
  exact PySem.W.kia_tup PySem.W.kitx_dict I.kIn ⟨o,h1,h2.1⟩ g1 e (fun z=>nomatch z) h
 | @ins a C dx fs ea cl ha hn htk hm =>
  cases (show u=Value.ref a from rx)
  obtain ⟨mA,O,_⟩:=YaP I.hok ea
  obtain ⟨od,J,_⟩:=O.look
  exact PySem.W.kia_tup (PySem.W.kitx_own (cl.get _) cl.hd ha hn htk hm) I.kIn J g1 e (fun z=>nomatch z) h
end
section
variable {X:Cx}
theorem Xg:Xm X (.builtin "isinstance") (fun xs H Q=>∃ x tp Ts t b,xs=[x,.ref tp]∧H tp=some (.tup (List.map V.ty Ts))∧TyOf X.K H x t∧PySem.W.kitAny X.K t (Ts.map Value.type)=some b∧Q (.bl b) H):=by
 intro pins s σ H xs us Q I r h
 obtain ⟨x,tp,Ts,t,b,rfl,hT,ty,e,q⟩:=h
 obtain ⟨u,v,rfl,ru,rv⟩:=r.two
 cases rv
 exact YbI I ru ty hT e fun tk=>⟨.bl b,H,I.tok _,rfl,q⟩
end
section
variable {src:List (Option Nat)} {te:TE} {σ:St} {Q:VK}
theorem Ycn {K:PySem.W.Frag} {G1 G2:Hp→List V→Prop} {xs ys:List V} {H1:Hp} {D:Addr} (zs:List V) (g1:∀ H',Yd H1 H'→G1 H' xs) (g2:∀ H',Yd H1 H'→G2 H' ys) (hD:H1 D=none) (hxy:xs.length=ys.length) (hl:zs.length=xs.length) (hlen:xs.length≤100000)
  (step:∀ (i:Nat) x y z H',xs[i]?=some x→ys[i]?=some y→zs[i]?=some z→Yd H1 H'→∀ R:VK,(∀ H'',Yd H' H''→R z H'')→te (some x::some y::YI src σ) H' R)
  (fin:∀ H',Yd H1 H'→H' D=some (.lst zs)→Q (.ref D) H'):LC (none::none::src) (Itz G1 G2) (WD K 2 (Xb (YA 0) (Xb (YA 1) WC))) XE te σ H1 Q D:=by
 have h6:100000<sizeLine:=by decide
 refine Yci (J:=Itz G1 G2) (n:=xs.length) (P:=fun H'=>Yd H1 H') (fun i H' sm hi=>⟨xs,ys,xs[i],ys[i],g1 _ sm,g2 _ sm,List.getElem?_eq_getElem hi,List.getElem?_eq_getElem (by omega)⟩) (fun H' sm=>⟨xs,ys,g1 _ sm,g2 _ sm,by omega⟩)
  (fun i ws σ' H'=>ws=zs.take i∧(∃ o o',σ'=o::o'::YI src σ)∧Yd H1 H'∧H' D=some (.lst ws)) ⟨by simp,⟨none,none,rfl⟩,.upd_new hD _,Yc⟩ (fun i ws σ' H' p=>⟨p.2.2.1,p.2.2.2⟩) (YaA K 0 1) ?_ ?_
 ·rintro i ws σ' H' hi ⟨rfl,⟨o,o',rfl⟩,sm,hd⟩ x H3 ⟨T,rfl,hT,heq⟩
  have hx:xs[i]?=some xs[i]:=List.getElem?_eq_getElem hi
  have hy:ys[i]?=some (ys[i]'(by omega)):=List.getElem?_eq_getElem _
  have hz:zs[i]?=some (zs[i]'(by omega)):=List.getElem?_eq_getElem _
  have e3:=heq xs ys _ _ (g1 _ sm) (g2 _ sm) hx hy
  subst e3
  have s3:Yd H' (upd H' T (.tup [xs[i],ys[i]'(by omega)])) := .upd_new hT _
  refine ⟨T,_,rfl,SqT.of Yc,rfl,_,_,rfl,_,_,rfl,rfl,?_⟩
  show te (some xs[i]::some (ys[i]'(by omega))::YI src σ) _ _
  refine step i _ _ _ _ hx hy hz (sm.trans s3) _ fun H'' s2=>⟨s2 _ _ (s3 _ _ hd),?_,(XZ hz).symm,⟨_,_,rfl⟩,.upd_over hD ((sm.trans s3).trans s2) _,Yc⟩
  rw [List.length_take];omega
 ·rintro ws σ' H' ⟨rfl,_,sm,hd⟩
  rw [← hl,List.take_length] at hd
  exact fin H' sm hd
variable {X:Cx} {H:Hp}
def iOr (a b:TI):TI:=fun σ H R=>a σ H R∨b σ H R
theorem Wv {tg:Expr} {l:Expr} {a b:TI} (ha:PI X tg l a) (hb:PI X tg l b):PI X tg l (iOr a b):=by
 intro pins s σ H R I h
 rcases h with h | h
 ·exact ha pins s σ H R I h
 ·exact hb pins s σ H R I h
theorem Yda {K:PySem.W.Frag} {ta:TA} {xs ys:List V} {a b:Addr} (zs:List V) (ha:∀ R:List V→Hp→Prop,R [.ref a,.ref b] H→ta σ H R) (h1:SqT K H a xs) (h2:SqT K H b ys) (hxy:xs.length=ys.length) (hl:zs.length=xs.length) (hlen:xs.length≤100000)
  (step:∀ (i:Nat) x y z H',xs[i]?=some x→ys[i]?=some y→zs[i]?=some z→Yd H H'→∀ R:VK,(∀ H'',Yd H' H''→R z H'')→te (some x::some y::YI src σ) H' R)
  (fin:∀ D H',H D=none→Yd H H'→H' D=some (.lst zs)→Q (.ref D) H'):tLC (none::none::src) (Qs K ta) (WD K 2 (Xb (YA 0) (Xb (YA 1) WC))) XE te σ H Q :=
 ha _ ⟨a,b,xs,ys,rfl,h1,h2,fun D hD=>Ycn zs (fun H' sm=>sm.tup h1) (fun H' sm=>sm.tup h2) hD hxy hl hlen step fun H'=>fin D H' hD⟩
theorem Ydb {K:PySem.W.Frag} {ta:TA} {xs ys:List V} {a b:Addr} (zs:List V) (ha:∀ R:List V→Hp→Prop,R [.ref a,.ref b] H→ta σ H R) (h1:SqL K H a xs) (h2:SqL K H b ys) (hxy:xs.length=ys.length) (hl:zs.length=xs.length) (hlen:xs.length≤100000)
  (step:∀ (i:Nat) x y z H',xs[i]?=some x→ys[i]?=some y→zs[i]?=some z→Yd H H'→∀ R:VK,(∀ H'',Yd H' H''→R z H'')→te (some x::some y::YI src σ) H' R)
  (fin:∀ D H',H D=none→Yd H H'→H' D=some (.lst zs)→Q (.ref D) H'):tLC (none::none::src) (Qt K ta) (WD K 2 (Xb (YA 0) (Xb (YA 1) WC))) XE te σ H Q :=
 ha _ ⟨a,b,xs,ys,rfl,h1,h2,fun D hD=>Ycn zs (fun H' sm=>sm.seq h1) (fun H' sm=>sm.seq h2) hD hxy hl hlen step fun H'=>fin D H' hD⟩
end
end L2
namespace L2
open PySem PySem.Spec PyProof.Rows
section
open PySem.SeqAt
open PySem.AutoSeq1 (wpAny_loadPart')
open PySem.MeetsSeq PySem.MeetsSeq2 PySem.MeetsSeq3
variable {X:Cx}
end
end L2
namespace L2
open PySem PySem.Spec PyProof.Rows
section
open PySem.SeqAt
open PySem.AutoSeq1 (wpAny_loadPart')
open PySem.MeetsSeq PySem.MeetsSeq2 PySem.MeetsSeq3
variable {X:Cx}
variable {K:PySem.W.Frag}
end
end L2
namespace L2
open PySem
mutual
inductive KD:PyData→Prop
 | int (i:Int):KD (.int i)
 | tup {ds:List PyData}:KDs ds→KD (.tuple ds)
inductive KDs:List PyData→Prop
 | nil:KDs []
 | cons {d:PyData} {ds:List PyData}:KD d→KDs ds→KDs (d::ds)
end
mutual
theorem KD.eqv:∀ {d e:PyData},KD d→KD e→(PyData.eqv d e=true↔d=e)
 | _,_,.int i,.int j=>by rw [PyData.eqv];simp
 | _,_,.int i,.tup _=>by rw [PyData.eqv];simp
 | _,_,.tup _,.int i=>by rw [PyData.eqv];simp
 | _,_,.tup h,.tup k=>by
  rw [PyData.eqv,h.eqv k]
  simp
theorem KDs.eqv:∀ {ds es:List PyData},KDs ds→KDs es→(PyData.eqvAll ds es=true↔ds=es)
 | _,_,.nil,.nil=>by simp [PyData.eqvAll]
 | _,_,.nil,.cons _ _=>by simp [PyData.eqvAll]
 | _,_,.cons _ _,.nil=>by simp [PyData.eqvAll]
 | _,_,.cons (d:=d) (ds:=ds) h hs,.cons (d:=e) (ds:=es) k ks=>by
  rw [PyData.eqvAll,Bool.and_eq_true,h.eqv k,hs.eqv ks]
  simp
end
mutual
inductive KLt:PyData→PyData→Prop
 | int {i j:Int}:i<j→KLt (.int i) (.int j)
 | mix {i:Int} {ds:List PyData}:KLt (.int i) (.tuple ds)
 | tup {ds es:List PyData}:KLs ds es→KLt (.tuple ds) (.tuple es)
inductive KLs:List PyData→List PyData→Prop
 | nil {e:PyData} {es:List PyData}:KLs [] (e::es)
 | here {d e:PyData} {ds es:List PyData}:KLt d e→KLs (d::ds) (e::es)
 | there {d:PyData} {ds es:List PyData}:KLs ds es→KLs (d::ds) (d::es)
end
mutual
theorem KLt.trans:∀ {a b c:PyData},KLt a b→KLt b c→KLt a c
 | _,_,_,.int h,.int k => .int (by omega)
 | _,_,_,.int h,.mix => .mix
 | _,_,_,.mix,.tup _ => .mix
 | _,_,_,.tup h,.tup k => .tup (h.trans k)
theorem KLs.trans:∀ {a b c:List PyData},KLs a b→KLs b c→KLs a c
 | _,_,_,.nil,.here _ => .nil
 | _,_,_,.nil,.there _ => .nil
 | _,_,_,.here h,.here k => .here (h.trans k)
 | _,_,_,.here h,.there _ => .here h
 | _,_,_,.there _,.here k => .here k
 | _,_,_,.there h,.there k => .there (h.trans k)
end
end L2
namespace L2
open PySem
section
variable {src:List (Option Nat)} {te:TE} {σ:St} {H:Hp} {Q:VK}
end
end L2
namespace L2
open PySem
mutual
inductive VL (H:Hp):V→PyData→List Addr→Prop
 | int (i:Int):VL H (.int i) (.int i) []
 | str (x:Str) (h:PyData.strOk x=true):VL H (.str x) (.str x) []
 | lst {a:Addr} {vs:List V} {ds:List PyData} {L:List Addr}:H a=some (.lst vs)→vs.length≤10000→VLs H vs ds L→VL H (.ref a) (.list ds) (a::L)
 | tup {a:Addr} {vs:List V} {ds:List PyData} {L:List Addr}:H a=some (.tup vs)→vs.length≤10000→VLs H vs ds L→VL H (.ref a) (.tuple ds) L
inductive VLs (H:Hp):List V→List PyData→List Addr→Prop
 | nil:VLs H [] [] []
 | cons {v:V} {d:PyData} {L:List Addr} {vs:List V} {ds:List PyData} {L':List Addr}:VL H v d L→VLs H vs ds L'→VLs H (v::vs) (d::ds) (L++L')
end
def Tps (H H':Hp):Prop:=∀ a vs,H a=some (.tup vs)→H' a=some (.tup vs)
theorem Yd.tps {H H':Hp} (s:Yd H H'):Tps H H':=fun a vs h=>s a _ h
theorem Tps.trans {H H' H'':Hp} (s:Tps H H') (t:Tps H' H''):Tps H H'':=fun a vs h=>t a vs (s a vs h)
theorem Tps.upd_lst {H:Hp} {p:Addr} {xs ys:List V} (h:H p=some (.lst xs)):Tps H (upd H p (.lst ys)):=fun a vs ha=>by
 rw [Yh (Wj ha h (by intro z;cases z))];exact ha
mutual
theorem VL.keepL {H H':Hp} (t:Tps H H'):∀ {v:V} {d:PyData} {L:List Addr},VL H v d L→(∀ a∈L,∀ vs,H a=some (.lst vs)→H' a=some (.lst vs))→VL H' v d L
 | _,_,_,.int i,_ => .int i
 | _,_,_,.str x h,_ => .str x h
 | _,_,_,.lst h hn hs,e => .lst (e _ (.head _) _ h) hn (hs.keepL t fun a ha=>e a (.tail _ ha))
 | _,_,_,.tup h hn hs,e => .tup (t _ _ h) hn (hs.keepL t e)
theorem VLs.keepL {H H':Hp} (t:Tps H H'):∀ {vs:List V} {ds:List PyData} {L:List Addr},VLs H vs ds L→(∀ a∈L,∀ vs,H a=some (.lst vs)→H' a=some (.lst vs))→VLs H' vs ds L
 | _,_,_,.nil,_ => .nil
 | _,_,_,.cons h hs,e => .cons (h.keepL t fun a ha=>e a (List.mem_append_left _ ha)) (hs.keepL t fun a ha=>e a (List.mem_append_right _ ha))
end
theorem VL.keep {H H':Hp} {v:V} {d:PyData} {L:List Addr} (h:VL H v d L) (s:Yd H H'):VL H' v d L:=h.keepL s.tps fun a _ vs e=>s _ _ e
theorem VLs.keep {H H':Hp} {vs:List V} {ds:List PyData} {L:List Addr} (h:VLs H vs ds L) (s:Yd H H'):VLs H' vs ds L:=h.keepL s.tps fun a _ vs e=>s _ _ e
mutual
theorem VL.mem {H:Hp}:∀ {v:V} {d:PyData} {L:List Addr},VL H v d L→∀ a∈L,∃ vs,H a=some (.lst vs)∧vs.length≤10000
 | _,_,_,.lst (a:=b) h hn hs,a,ha=>by
  rcases List.mem_cons.mp ha with e | ha
  ·subst e;exact ⟨_,h,hn⟩
  ·exact hs.mem a ha
 | _,_,_,.tup h hn hs,a,ha=>hs.mem a ha
theorem VLs.mem {H:Hp}:∀ {vs:List V} {ds:List PyData} {L:List Addr},VLs H vs ds L→∀ a∈L,∃ vs,H a=some (.lst vs)∧vs.length≤10000
 | _,_,_,.cons h hs,a,ha=>by
  rcases List.mem_append.mp ha with ha | ha
  ·exact h.mem a ha
  ·exact hs.mem a ha
end
mutual
theorem VL.den {K:PySem.W.Frag} {H:Hp}:∀ {v:V} {d:PyData} {L:List Addr},VL H v d L→Den K H v d
 | _,_,_,.int i => .int i
 | _,_,_,.str x h => .str x h
 | _,_,_,.lst h _ hs => .lst (SqL.of h) hs.den
 | _,_,_,.tup h _ hs => .tup (SqT.of h) hs.den
theorem VLs.den {K:PySem.W.Frag} {H:Hp}:∀ {vs:List V} {ds:List PyData} {L:List Addr},VLs H vs ds L→Dens K H vs ds
 | _,_,_,.nil => .nil
 | _,_,_,.cons h hs => .cons h.den hs.den
end
theorem VLs.length {H:Hp}:∀ {vs:List V} {ds:List PyData} {L:List Addr},VLs H vs ds L→vs.length=ds.length
 | _,_,_,.nil=>rfl
 | _,_,_,.cons _ hs=>congrArg (·+1) hs.length
theorem VLs.append {H:Hp} {vs':List V} {ds':List PyData} {L':List Addr}:∀ {vs:List V} {ds:List PyData} {L:List Addr},VLs H vs ds L→VLs H vs' ds' L'→VLs H (vs++vs') (ds++ds') (L++L')
 | _,_,_,.nil,h=>h
 | _,_,_,.cons a b,h=>by rw [List.append_assoc];exact .cons a (b.append h)
theorem VL.one {H:Hp} {v:V} {d:PyData} {L:List Addr} (h:VL H v d L):VLs H [v] [d] L:=by
 have:=VLs.cons h .nil
 rwa [List.append_nil] at this
structure Owns (H0 H:Hp) (vs:List V) (ds:List PyData) (L:List Addr):Prop where
 vl:VLs H vs ds L
 nd:L.Nodup
 new:∀ a∈L,H0 a=none
theorem Owns.ext {H0 H1 H2:Hp} {vs:List V} {ds:List PyData} {L L':List Addr} {ys:List V} {es:List PyData} {D:Addr} {zs zs':List V} (h:Owns H0 H1 vs ds L) (hD:∀ a∈L,a≠D) (s0:Yd H0 H1) (s:Yd H1 H2) (o:Owns H1 H2 ys es L') (h1:H1 D=some (.lst zs)):Owns H0 (upd H2 D (.lst zs')) (vs++ys) (ds++es) (L++L')∧∀ a∈L++L',a≠D:=by
 have hD':∀ a∈L',a≠D:=fun a ha e=>by have:=o.new a ha;rw [e,h1] at this;cases this
 have t:Tps H2 (upd H2 D (.lst zs')) := .upd_lst (s _ _ h1)
 refine ⟨⟨((h.vl.keep s).keepL t fun a ha vs e=>by rw [Yh (hD a ha)];exact e).append (o.vl.keepL t fun a ha vs e=>by rw [Yh (hD' a ha)];exact e),?_,fun a ha=>?_⟩,fun a ha=>?_⟩
 ·refine List.nodup_append.mpr ⟨h.nd,o.nd,fun a ha b hb e=>?_⟩
  subst e
  obtain ⟨vs,e1,_⟩:=h.vl.mem a ha
  rw [o.new a hb] at e1
  cases e1
 ·rcases List.mem_append.mp ha with ha | ha
  ·exact h.new a ha
  ·exact s0.free (o.new a ha)
 ·rcases List.mem_append.mp ha with ha | ha
  ·exact hD a ha
  ·exact hD' a ha
theorem VQ {a b:TI} {g:TG} {tb:TS} {D:Ends} {σ:St} {H:Hp} (h:X9 a g tb D σ H):X9 (iOr a b) g tb D σ H:=.inl h
theorem Ydc {a b:TI} {g:TG} {tb:TS} {D:Ends} {σ:St} {H:Hp} (h:X9 b g tb D σ H):X9 (iOr a b) g tb D σ H:=.inr h
section
variable {src:List (Option Nat)} {te:TE} {σ:St} {H:Hp} {Q:VK}
end
end L2
namespace L2
open PySem PySem.Spec PyProof.Rows
section
variable {X:Cx} {pos:Pos}
end
end L2
namespace L2
open PySem
section
variable {src:List (Option Nat)} {te:TE} {σ:St} {H:Hp} {Q:VK}
theorem YbJ {ta:TA} {n:Nat} (I:Addr→Nat→List V→Hp→Prop) (ha:∀ R:List V→Hp→Prop,R [.int n] H→ta σ H R) (hlen:n≤100000)
  (i0:∀ D,H D=none→I D 0 [] (upd H D (.lst []))) (dl:∀ D i zs H',I D i zs H'→zs.length=i∧H' D=some (.lst zs))
  (step:∀ D (i:Nat) zs H',H D=none→i<n→I D i zs H'→∀ R:VK,(∀ y H'',H'' D=some (.lst zs)→I D (i+1) (zs++[y]) (upd H'' D (.lst (zs++[y])))→R y H'')→te (some (.int i)::YI src σ) H' R)
  (fin:∀ D zs H',H D=none→I D n zs H'→Q (.ref D) H'):tLC (none::src) (Qo ta) (YA 0) XE te σ H Q:=by
 refine ha _ ⟨n,rfl,by omega,by omega,fun D hD=>?_⟩
 have h6:100000<sizeLine:=by decide
 refine YbE (VG (lo:=0) (n:=n) (P:=fun _=>True)) (fun i zs σ' H'=>(∃ o,σ'=o::YI src σ)∧i≤n∧I D i zs H') ⟨⟨none,rfl⟩,Nat.zero_le _,i0 D hD⟩ (fun i zs σ' H' q=>⟨trivial,(dl _ _ _ _ q.2.2).2⟩) (W7 0) ?_ ?_
 ·rintro i zs σ' H' x hx ⟨⟨o,rfl⟩,_,hI⟩
  have hi:i<n:=by have:=(List.getElem?_eq_some_iff.mp hx).1;simpa using this
  rw [List.getElem?_map,List.getElem?_range hi] at hx
  have e:V.int (0+(i:Int))=x:=Option.some.inj hx
  rw [Int.zero_add] at e
  subst e
  have hl:=(dl _ _ _ _ hI).1
  show te (some (.int i)::YI src σ) H' _
  exact step D i zs H' hD hi hI _ fun y H'' hd hI'=>⟨hd,by omega,⟨_,rfl⟩,hi,hI'⟩
 ·rintro zs σ' H' ⟨_,_,hI⟩
  exact fin D zs H' hD (by simpa using hI)
end
end L2
namespace L2
open PySem PySem.Spec PyProof.Rows
section
variable {g:Gx} {k:Nat} {x qual m:Str} {st:Stmt} {N ps:List Str} {sp:Sp} {C:Addr}
end
section
variable {g:Gx} {X:Cx} {k j:Nat} {x m:Str} {ps:List Str} {sp:Sp} {E:XK} {C:Addr} {e o:Expr} {es:List Expr} {t:TA} {ta:TE} {p pos apos:Pos}
end
theorem QS {X:Cx} {f:Value} {r1 r2:List V→Hp→VK→Prop} (h1:Xm X f r1) (h2:Xm X f r2):Xm X f (fun xs H Q=>r1 xs H Q∨r2 xs H Q):=fun pins s σ H xs us Q I v h =>
 h.elim (h1 pins s σ H xs us Q I v) (h2 pins s σ H xs us Q I v)
section
variable {g:Gx} {X:Cx} {k jj j:Nat} {f c n:Str} {ps:List Str} {sp:Sp} {e:Expr} {es:List Expr} {t:TA} {ts:TS} {b₀:Stmt} {suite:List Stmt} {cv:Value} {fp cp hpos apos cpos pos:Pos}
end
end L2
namespace L2
open PySem PySem.Spec PyProof.Rows
def Yd9 (l:List Str) (v:Str):List Str:=if l.any (·==v) then l else l++[v]
def met (val:Nat→Str) (i:Nat):List Str:=((List.range i).map val).foldl Yd9 []
section
variable {prog:Program} {w:World} {A:Around} {R:Result→Shared→Prop} {I:Addr} {fp wr:List Addr} {G:Array GenState→Array GenState→Prop} {n:Nat} {P:Nat→Value→Prop} {St:Nat→Shared→Prop}
end
end L2
namespace L2
open PySem PySem.Spec PyProof.Rows
section
variable {prog:Program} {w:World} {A:Around} {E:Value→Shared→Prop} {s:Shared}
end
def SetO (a:Addr) (n:Nat):HO := .ext fun h=>∃ (o:Obj) (es:Array (Int×Value)) (ep:Nat) (t:SetTable),h.get? a=some o∧o.ExactSet∧o.data = .set es ep t∧t.fits es.size=true∧es.size=n∧n<scanBound
section
variable {X:Cx}
end
end L2
namespace L2
open PySem PySem.Spec PyProof.Rows
section
variable {X:Cx}
end
end L2
namespace L2
open PySem PySem.Spec PyProof.Rows
section
variable {X:Cx}
end
end L2
namespace L2
open PySem PySem.Spec PyProof.Rows
section
variable {X:Cx}
end
end L2
namespace L2
open PySem PySem.Spec PyProof.Rows
section
variable {X:Cx} {e lo st:Expr} {te tl ts:TE} {pos p2:Pos}
end
section
variable {g:Gx} {X:Cx} {k j:Nat} {x m:Str} {ps:List Str} {sp:Sp} {e:Expr} {es:List Expr} {t:TA} {p pos apos:Pos}
end
end L2
namespace L2
open PySem PySem.Spec PyProof.Rows
section
variable {X:Cx}
end
section
variable {K:PySem.W.Frag} {h:Heap} {mg:Str→Option Value} {P:Program} {w:World} {base:Heap} {f B:Addr} {x qual m:Str} {st:Stmt} {ps N:List Str} {oc kV dc pm cd ct:Value} {od an:Option Addr} {sl:Array (Option Value)} {g:Gx} {k:Nat} {sp:Sp}
end
end L2
namespace L2
def UC (a b:TE):TE:=fun σ H Q=>a σ H Q∨b σ H Q
theorem Xn {X:Cx} {e:PySem.Expr} {a b:TE} (ha:PE X e a) (hb:PE X e b):PE X e (UC a b):=fun pins s σ H Q I h=>h.elim (fun z=>ha pins s σ H Q I z) (fun z=>hb pins s σ H Q I z)
end L2
namespace L2
open PySem PySem.Spec PyProof.Rows
section
variable {g:TG} {tb:TS} {D:Ends} {σ:St} {H:Hp}
end
def V0s (H:Hp) (us:List V) (ds:List PyData):Prop:=us.length=ds.length∧∀ (i:Nat) u d,us[i]?=some u→ds[i]?=some d→VL H u d []
theorem V0s.keep {H H':Hp} {us:List V} {ds:List PyData} (h:V0s H us ds) (t:Tps H H'):V0s H' us ds:=⟨h.1,fun i u d h1 h2=>(h.2 i u d h1 h2).keepL t fun a ha=>absurd ha (by simp)⟩
theorem V0s.nil {H:Hp}:V0s H [] []:=⟨rfl,fun i u d h=>by simp at h⟩
theorem V0s.one {H:Hp} {u:V} {d:PyData} (h:VL H u d []):V0s H [u] [d]:=⟨rfl,fun i x y h1 h2=>by
 cases i with
 | zero =>
  have e1:u=x:=by simpa using h1
  have e2:d=y:=by simpa using h2
  subst e1 e2
  exact h
 | succ i=>simp at h1⟩
theorem V0s.append {H:Hp} {us us':List V} {ds ds':List PyData} (h:V0s H us ds) (h':V0s H us' ds'):V0s H (us++us') (ds++ds'):=by
 refine ⟨by rw [List.length_append,List.length_append,h.1,h'.1],fun i u d h1 h2=>?_⟩
 by_cases hi:i<us.length
 ·rw [List.getElem?_append_left hi] at h1
  rw [List.getElem?_append_left (by rw [← h.1];exact hi)] at h2
  exact h.2 i u d h1 h2
 ·rw [List.getElem?_append_right (by omega)] at h1
  rw [List.getElem?_append_right (by rw [← h.1];omega),← h.1] at h2
  exact h'.2 _ u d h1 h2
theorem V0s.of {H:Hp}:∀ {us:List V} {ds:List PyData} {L:List Addr},VLs H us ds L→L=[]→V0s H us ds
 | _,_,_,.nil,_ => .nil
 | _,_,_,.cons h hs,e=>by
  obtain ⟨e1,e2⟩:=List.append_eq_nil_iff.mp e
  subst e1
  have:=(V0s.of hs e2)
  exact V0s.append (.one h) this
end L2
namespace L2
open PySem
end L2
namespace L2
open PySem
end L2
namespace L2
open PySem PySem.Spec PyProof.Rows
section
variable {X:Cx} {elts:List Expr} {kk:Nat} {tpos:Pos}
end
section
variable {tb:TS} {D:Ends} {σ:St} {H:Hp}
end
end L2
namespace L2
open PySem
end L2
namespace L2
open PySem PySem.Spec PyProof.Rows
abbrev FnO (f:Addr) (fd:FuncData):HO := .ext fun h=>h.get? f=some { cls := .type "function",data := .func fd }
abbrev CdO (c:Addr) (q:Str):HO := .ext fun h=>h.CodeRec (.ref c) q
abbrev Wl (c:Addr) (v:V):HO := .ext fun h=>∃ u,Yv v u∧h.IsCell c (some u)
section
variable {P:Program} {w:World} {H H':Hp} {h h':Heap}
theorem Yco {f:Addr} {fd:FuncData} (e:h.get? f=some { cls := .type "function",data := .func fd }):YK P w H h f (FnO f fd):=⟨e,⟨_,e⟩,fun _ _ p k=>k _ p⟩
theorem YeT {c:Addr} {q:Str} (e:h.CodeRec (.ref c) q):YK P w H h c (CdO c q):=by
 obtain ⟨c',o,vs,t,e1,e2,e3⟩:=id e
 cases e1
 refine ⟨e,⟨_,e2⟩,fun h1 h2 p k=>?_⟩
 obtain ⟨c',o,vs,t,e1,e2,e3⟩:=p
 cases e1
 exact ⟨c,o,vs,t,rfl,k _ e2,e3⟩
theorem VR {c:Addr} {v:V} {u:Value} (r:Yv v u) (e:h.IsCell c (some u)):YK P w H h c (Wl c v):=by
 obtain ⟨o,e1,e2⟩:=id e
 refine ⟨⟨u,r,e⟩,⟨_,e1⟩,fun h1 h2 p k=>?_⟩
 obtain ⟨u,r,o,e1,e2⟩:=p
 exact ⟨u,r,o,k _ e1,e2⟩
theorem HOk.track {c:Addr} {o:HO} (x:HOk P w H h) (hn:H c=none) (new:YK P w (upd H c o) h c o):HOk P w (upd H c o) h:=fun b u e=>by
 by_cases hb:b=c
 ·subst hb;rw [Yc] at e;cases e;exact new
 ·rw [Yh hb] at e
  exact (x b u e).stay (fun _ _ _ q=>q) (fun d q=>by rw [Yh (Yu q hn)];exact q) fun d xs q=>by rw [Yh (Yu q hn)];exact q
end
def off (H:Hp) (cs:List Addr):Hp:=fun b=>if b∈cs then none else H b
def on (H' H:Hp) (cs:List Addr):Hp:=fun b=>if b∈cs then H b else H' b
section
variable {H H':Hp} {cs:List Addr} {b:Addr} {o:HO}
theorem X2 (h:b∈cs):off H cs b=none:=if_pos h
theorem YD (h:b∉cs):off H cs b=H b:=if_neg h
theorem Ui (h:b∈cs):on H' H cs b=H b:=if_pos h
theorem Xa (h:b∉cs):on H' H cs b=H' b:=if_neg h
theorem Xp (h:H b=none):off H cs b=none:=by unfold off;split<;>first | rfl | exact h
theorem WU (h:off H cs b=some o):H b=some o∧b∉cs:=by
 by_cases hb:b∈cs
 ·rw [X2 hb] at h;cases h
 ·rw [YD hb] at h;exact ⟨h,hb⟩
end
abbrev Ym:=List (Str×Addr×V)
def Ym.cl (l:Ym):List (Str×Addr):=l.map fun p=>(p.1,p.2.1)
def Ym.as (l:Ym):List Addr:=l.map fun p=>p.2.1
def Ym.vs (l:Ym):List V:=l.map fun p=>p.2.2
def Ym.In (l:Ym) (H:Hp):Prop:=∀ p∈l,H p.2.1=some (Wl p.2.1 p.2.2)
theorem Ym.In.keep {l:Ym} {H H':Hp} (h:l.In H) (s:Yd H H'):l.In H':=fun p hp=>s _ _ (h p hp)
section
variable {l:Ym} {H:Hp}
theorem Y1 {c:Addr} (h:c∈l.as):∃ p∈l,p.2.1=c:=by
 obtain ⟨p,hp,e⟩:=List.mem_map.mp h
 exact ⟨p,hp,e⟩
theorem X3:∀ {l:Ym} {x:Str} {c:Addr},l.cl.lookup x=some c→∃ p∈l,p.1=x∧p.2.1=c
 | p::l,x,c,h=>by
  rw [Ym.cl,List.map_cons,List.lookup_cons] at h
  cases hb:x==p.1 with
  | true=>rw [hb] at h;exact ⟨p,.head _,(eq_of_beq hb).symm,Option.some.inj h⟩
  | false =>
   rw [hb] at h
   obtain ⟨q,h1,h2⟩:=X3 (l:=l) h
   exact ⟨q,.tail _ h1,h2⟩
theorem Uj:∀ {l:Ym},(l.map (·.1)).Nodup→∀ p∈l,l.cl.lookup p.1=some p.2.1
 | a::q,nd,p,hp=>by
  rw [List.map_cons,List.nodup_cons] at nd
  rw [Ym.cl,List.map_cons,List.lookup_cons]
  rcases List.mem_cons.mp hp with rfl | hp
  ·simp
  ·have:(p.1==a.1)=false:=by
    rw [beq_eq_false_iff_ne]
    intro z
    exact nd.1 (z▸List.mem_map_of_mem hp)
   rw [this]
   exact Uj nd.2 p hp
theorem UD {b:Addr} {xs:List V} (hl:l.In H) (h:H b=some (.tup xs)):off H l.as b=some (.tup xs):=by
 rw [YD fun hb=>?_]
 ·exact h
 ·obtain ⟨p,hp,rfl⟩:=Y1 hb
  rw [hl p hp] at h;cases h
theorem Wx {b:Addr} {o:HO} (hl:l.In H) (h:H b=some o) (ho:∀ φ,o ≠ .ext φ):off H l.as b=some o:=by
 rw [YD fun hb=>?_]
 ·exact h
 ·obtain ⟨p,hp,rfl⟩:=Y1 hb
  rw [hl p hp] at h
  exact ho _ (Option.some.inj h).symm
theorem Yea {P:Program} {w:World} {h:Heap} (hl:l.In H) (x:HOk P w H h):HOk P w (off H l.as) h:=fun b o e=>by
 obtain ⟨e1,e2⟩:=WU e
 refine (x b o e1).stay (fun _ _ _ q=>q) (fun c q=>Wx hl q fun φ z=>by cases z) fun c xs q=>UD hl q
end
def VS (P:Program) (w:World) (K:PySem.W.Frag) (mg:Str→Option Value) (base:Heap) (N:List Str) (qual:Str) (scope:Scope) (f:Addr) (cd:Value) (cl:List (Str×Addr)) (A:Around) (outer:List Env) (s:Shared) (H:Hp):Cx where
 prog:=P
 w:=w
 K:=K
 mg:=mg
 base:=base
 A:=A.deeper (PySem.W.envX qual scope s.heap.objs.size f cd cl)
 N:=N
 s₀:=s
 H₀:=H
 env:=PySem.W.envX qual scope s.heap.objs.size f cd cl
 outer:=outer
 stack:=PySem.W.envX qual scope s.heap.objs.size f cd cl::outer
 ex:=[]
 calm:=true
 fn:=fun _=>false
 pn:=[]
 xe:=fun _ _=>False
structure ClScope (N ps:List Str) (l:List Str) (sc:Scope):Prop where
 kind:sc.kind = .function
 co:sc.isCoroutine=false
 gen:sc.isGenerator=false
 nd:N.Nodup
 pre:N.take ps.length=ps
 suf:N.drop (N.length - l.length)=l
 len:ps.length+l.length≤N.length
 par:∀ x∈ps,sc.names.lookup x=some .local
 fre:∀ x∈l,sc.names.lookup x=some .free
 nocell:∀ y∈sc.names,y.2 ≠ .cell
 all:∀ y∈sc.names,y.2 = .free→y.1∈l
def WV (N:List Str) (vs fv:List V):St:=vs.map some++List.replicate (N.length - vs.length - fv.length) none++fv.map some
section
variable {P:Program} {w:World} {K:PySem.W.Frag} {mg:Str→Option Value} {base:Heap} {N ps:List Str} {qual name:Str} {scope:Scope} {f c:Addr} {A:Around} {outer:List Env} {s:Shared} {H:Hp} {us:List Value} {vs:List V} {l:Ym} {cd:Value}
theorem UE:∀ {ps:List Str} {us:List Value} {i:Nat} {x:Str} {u:Value},ps.Nodup→ps[i]?=some x→us[i]?=some u→(ps.zip us).reverse.lookup x=some u:=by
 intro ps us i x u nd h1 h2
 have hm:(x,u)∈ps.zip us:=List.mem_of_getElem? (show (ps.zip us)[i]?=some (x,u) from List.getElem?_zip_eq_some.mpr ⟨h1,h2⟩)
 have key:∀ (q:List (Str×Value)),(q.map (·.1)).Nodup→(x,u)∈q→q.lookup x=some u:=by
  intro q
  induction q with
  | nil=>intro _ h;cases h
  | cons a q ih =>
   intro nd h
   rw [List.lookup_cons]
   rw [List.map_cons,List.nodup_cons] at nd
   rcases List.mem_cons.mp h with rfl | h
   ·simp
   ·have:(x==a.1)=false:=by
     rw [beq_eq_false_iff_ne]
     intro z
     exact nd.1 (z▸List.mem_map_of_mem h)
    rw [this]
    exact ih nd.2 h
 refine key _ ?_ (List.mem_reverse.mpr hm)
 rw [List.map_reverse]
 have hz:∀ (ps:List Str) (us:List Value),ps.Nodup→((ps.zip us).map (·.1)).Nodup∧∀ z∈(ps.zip us).map (·.1),z∈ps:=by
  intro ps
  induction ps with
  | nil=>intro us _;simp
  | cons a ps ih =>
   intro us nd
   cases us with
   | nil=>simp
   | cons u us =>
    have nd':=List.nodup_cons.mp nd
    obtain ⟨i1,i2⟩:=ih us nd'.2
    rw [List.zip_cons_cons,List.map_cons]
    refine ⟨List.nodup_cons.mpr ⟨fun hm=>nd'.1 (i2 _ hm),i1⟩,fun z hz=>?_⟩
    rcases List.mem_cons.mp hz with rfl | hz
    ·exact .head _
    ·exact .tail _ (i2 z hz)
 exact List.pairwise_reverse.mpr ((hz ps us nd).1.imp fun h=>Ne.symm h)
theorem Uk {h1:Heap} {tk:Nat} (S:ClScope N ps (l.map (·.1)) scope) (hnd:l.as.Nodup) (hd:A.handled=none) (e0:Env0 P w K mg base A outer s H) (hl:vs.length=ps.length) (r:Yl vs us) (cellAt:∀ p∈l,∃ u,Yv p.2.2 u∧s.heap.IsCell p.2.1 (some u)) (hoff:HOk P w (off H l.as) s.heap)
  (hns:h1.Ns s.heap.objs.size (fun x=>(ps.zip us).reverse.lookup x)) (hk:∀ b o,s.heap.get? b=some o→h1.get? b=some o) :
  Inv (VS P w K mg base N qual scope f cd l.cl A outer s (off H l.as)) [] (WV N vs l.vs) (off H l.as) { s with heap:=h1,toks:=tk }:=by
 have lfst:l.cl.map (·.1)=l.map (·.1):=by rw [Ym.cl,List.map_map];rfl
 have ndN:(l.map (·.1)).Nodup:=by rw [← S.suf];exact S.nd.sublist (List.drop_sublist _ _)
 have noA:∀ b:Addr,b∉(VS P w K mg base N qual scope f cd l.cl A outer s (off H l.as)).ex:=fun b z=>absurd (show b∈([]:List Addr) from z) (by simp)
 have lk:=Uj ndN
 have cinj:∀ p∈l,∀ q∈l,p.2.1=q.2.1→p=q:=fun p hp q hq e=>by
  obtain ⟨i,hi,e1⟩:=List.getElem_of_mem hp
  obtain ⟨j,hj,e2⟩:=List.getElem_of_mem hq
  have h1:l.as[i]?=some p.2.1:=by rw [Ym.as,List.getElem?_map,List.getElem?_eq_getElem hi,e1];rfl
  have h2:l.as[j]?=some p.2.1:=by rw [Ym.as,List.getElem?_map,List.getElem?_eq_getElem hj,e2,e];rfl
  have hij:i=j:=by
   obtain ⟨g1,g2⟩:=List.getElem?_eq_some_iff.mp h1
   obtain ⟨g3,g4⟩:=List.getElem?_eq_some_iff.mp h2
   exact (List.getElem_inj hnd).mp (g2.trans g4.symm)
  subst hij
  rw [← e1,← e2]
 refine ⟨⟨e0.mod,S.kind,rfl,rfl,Nat.le_refl _,fun y z c h1 h2=>?_,fun y hy=>?_,fun y c h _=>absurd h (by show ¬ (false=true);decide),fun _=>hd,Around.frames_deeper e0.frames,.inr ⟨rfl,rfl⟩,fun b z=>absurd z (noA b),fun b o e=>⟨(e0.bs b o e).1,Xp (e0.bs b o e).2⟩,e0.bsz,fun b _ _=>noA b,fun b z=>absurd z (noA b),e0.funs,fun b hb=>Xp (e0.frf b hb)⟩,
  rfl,e0.bare,Un.kept hk,⟨_,hns,fun i y v h1 h2 h3=>?_⟩,fun y c h=>?_,Xp (e0.hok.fresh (Nat.le_refl _)),fun y c h=>?_,fun p hp=>absurd (show p∈([]:List (Addr×Obj)) from hp) (by simp),hoff.kept hk,?_⟩
 ·obtain ⟨p,hp,e1,e2⟩:=X3 h1
  obtain ⟨q,hq,e3,e4⟩:=X3 h2
  have:=cinj p hp q hq (e2.trans e4.symm)
  rw [← e1,← e3,this]
 ·have hy:scope.names.lookup y=some .cell∨scope.names.lookup y=some .free:=hy
  rcases hy with hy | hy
  ·exact absurd rfl (S.nocell _ (PySem.mem_of_lookup hy))
  ·obtain ⟨p,hp,e⟩:=List.mem_map.mp (S.all _ (PySem.mem_of_lookup hy) rfl)
   exact ⟨p.2.1,by show l.cl.lookup y=_;rw [← show p.1=y from e];exact lk p hp⟩
 ·have hvl:l.vs.length=(l.map (·.1)).length:=by rw [Ym.vs,List.length_map,List.length_map]
  have hsl:=S.len
  unfold WV at h2
  by_cases hi:i<vs.length
  ·have ha:vs[i]?=some v:=by
    rw [List.append_assoc,List.getElem?_append_left (by simpa using hi),List.getElem?_map] at h2
    cases e:vs[i]? with
    | none=>rw [e] at h2;cases h2
    | some a=>rw [e] at h2;cases h2;rfl
   obtain ⟨u,hu,rv⟩:=r.get ha
   have hp:ps[i]?=some y:=by
    rw [← S.pre,List.getElem?_take_of_lt (by omega)];exact h1
   have ndP:ps.Nodup:=by rw [← S.pre];exact S.nd.sublist (List.take_sublist _ _)
   exact ⟨u,rv,.inl ⟨S.par y (List.mem_of_getElem? hp),UE ndP hp hu⟩⟩
  ·by_cases hi2:i<vs.length+(N.length - vs.length - l.vs.length)
   ·rw [List.getElem?_append_left (by rw [List.length_append,List.length_map,List.length_replicate];exact hi2),List.getElem?_append_right (by rw [List.length_map];omega),List.getElem?_replicate] at h2
    split at h2<;>cases h2
   ·rw [List.getElem?_append_right (by rw [List.length_append,List.length_map,List.length_replicate];omega),List.length_append,List.length_map,List.length_replicate,List.getElem?_map] at h2
    obtain ⟨v',hv',e⟩:=Option.map_eq_some_iff.mp h2
    cases e
    have hv2:(l.map fun p=>p.2.2)[i - (vs.length+(N.length - vs.length - l.vs.length))]?=some _:=hv'
    rw [List.getElem?_map] at hv2
    obtain ⟨p,hp,rfl⟩:=Option.map_eq_some_iff.mp hv2
    have hpm:=List.mem_of_getElem? hp
    have hy:(l.map (·.1))[i - (vs.length+(N.length - vs.length - l.vs.length))]?=some y:=by
     rw [← S.suf,List.getElem?_drop]
     rw [show N.length - (l.map (·.1)).length+(i - (vs.length+(N.length - vs.length - l.vs.length)))=i by omega]
     exact h1
    rw [List.getElem?_map,hp] at hy
    have ey:p.1=y:=Option.some.inj hy
    obtain ⟨u,ru,hc⟩:=cellAt p hpm
    obtain ⟨o,ho,hd'⟩:=hc
    refine ⟨u,ru,.inr ⟨.inr ?_,p.2.1,by show l.cl.lookup y=_;rw [← ey];exact lk p hpm,o,hk _ _ ho,hd'⟩⟩
    exact S.fre y (by rw [← ey];exact List.mem_map_of_mem hpm)
 ·obtain ⟨p,hp,e1,e2⟩:=X3 (show l.cl.lookup y=some c from h)
  obtain ⟨u,ru,o,ho,hd'⟩:=cellAt p hp
  exact ⟨some u,o,by rw [← e2];exact hk _ _ ho,hd'⟩
 ·obtain ⟨p,hp,e1,e2⟩:=X3 (show l.cl.lookup y=some c from h)
  exact X2 (by rw [← e2];exact List.mem_map_of_mem hp)
 ·unfold WV
  show _=N.length
  have hvl:l.vs.length=(l.map (·.1)).length:=by rw [Ym.vs,List.length_map,List.length_map]
  have hsl:=S.len
  rw [List.length_append,List.length_append,List.length_map,List.length_map,List.length_replicate]
  omega
theorem YbK {h1:Heap} {tk:Nat} (S:ClScope N ps (l.map (·.1)) scope) (hnd:l.as.Nodup) (hd:A.handled=none) (e0:Env0 P w K mg base A outer s H) (hl:vs.length=ps.length) (r:Yl vs us) (hin:l.In H)
  (hns:h1.Ns s.heap.objs.size (fun x=>(ps.zip us).reverse.lookup x)) (hk:∀ b o,s.heap.get? b=some o→h1.get? b=some o) :
  Inv (VS P w K mg base N qual scope f cd l.cl A outer s (off H l.as)) [] (WV N vs l.vs) (off H l.as) { s with heap:=h1,toks:=tk } :=
 Uk S hnd hd e0 hl r (fun p hp=>(e0.hok _ _ (hin p hp)).1) (Yea hin e0.hok) hns hk
theorem ce_of {Q:VK} {v:V} {u:Value} {σ':St} {H':Hp} {s':Shared} (e0:Env0 P w K mg base A outer s H) (hin:l.In H) (J:Inv (VS P w K mg base N qual scope f cd l.cl A outer s (off H l.as)) [] σ' H' s') (hlk:∀ p∈l,l.cl.lookup p.1=some p.2.1) (rv:Yv v u) (q:(∀ c∈l.as,H' c=none)→Q v (on H' H l.as)) :
  CE outer P w H s Q u s':=by
 have un:=J.base
 have nin:∀ {b:Addr},H b=none→b∉l.as:=fun hb hm=>by
  obtain ⟨p,hp,rfl⟩:=Y1 hm
  rw [hin p hp] at hb;cases hb
 have freeC:∀ c∈l.as,H' c=none:=fun c hc=>by
  obtain ⟨p,hp,rfl⟩:=Y1 hc
  exact J.freeC p.1 p.2.1 (hlk p hp)
 refine ⟨v,on H' H l.as,J.os,J.bare,⟨fun b o e n hb hx=>un.keep b o e (Xp n) hb hx,fun b o e n hb hx=>un.slot b o e (Xp n) hb hx,fun b o e n hx=>?_,fun b o e hx=>un.there b o e hx,fun b xs e=>?_,fun b o u e=>?_,fun b ps e=>?_⟩,fun b o e=>?_,rv,q freeC⟩
 ·rw [Xa (nin n)]
  exact un.free b o e (Xp n) hx
 ·have h1:=UD hin e
  rw [Xa (WU h1).2]
  exact un.tups b xs h1
 ·have h1:=Wx hin e fun φ z=>by cases z
  rw [Xa (WU h1).2]
  exact un.frzs b o u h1
 ·have h1:=Wx hin e fun φ z=>by cases z
  rw [Xa (WU h1).2]
  exact un.tbls b ps h1
 ·by_cases hb:b∈l.as
  ·rw [Ui hb] at e
   obtain ⟨p,hp,rfl⟩:=Y1 hb
   rw [hin p hp] at e
   cases e
   obtain ⟨⟨u,r,oc,ho,hd'⟩,_⟩:=e0.hok _ _ (hin p hp)
   refine VR r ⟨oc,un.keep _ _ ho (X2 hb) (fun hf=>?_) (by intro z;exact absurd (show p.2.1∈([]:List Addr) from z) (by simp)),hd'⟩
   have:=e0.frf _ hf
   rw [hin p hp] at this;cases this
  ·rw [Xa hb] at e
   refine (J.hok b o e).stay (fun _ _ _ q=>q) (fun c q=>?_) fun c xs q=>?_
   ·rw [Xa fun hc=>?_]
    ·exact q
    ·rw [freeC c hc] at q;cases q
   ·rw [Xa fun hc=>?_]
    ·exact q
    ·rw [freeC c hc] at q;cases q
end
def VT (H:Hp) (f c:Addr) (fd:FuncData) (qual:Str) (l:Ym):Prop:=H f=some (FnO f fd)∧H c=some (CdO c qual)∧l.In H
theorem VT.keep {H H':Hp} {f c:Addr} {fd:FuncData} {qual:Str} {l:Ym} (h:VT H f c fd qual l) (s:Yd H H'):VT H' f c fd qual l:=⟨s _ _ h.1,s _ _ h.2.1,h.2.2.keep s⟩
end L2
namespace L2
open PySem PySem.Spec PyProof.Rows
def Bm (mg:Str→Option Value) (base:Heap):Prop:=∃ bm ob,mg "__builtins__"=some (.ref bm)∧bm≠builtinsNs∧bm≠mainGlobals∧base.get? bm=some ob∧ob.cls = .type "module"∧ob.dict=some builtinsNs∧ob.data = .plain
section
variable {X:Cx} {pins:List (Addr×Obj)} {σ:St} {H:Hp} {s:Shared}
theorem Inv.madeF {P c':Addr} {ps more:Array Value} {h':Heap} {tk:Nat} {fd:FuncData} {qual:Str} (I:Inv X pins σ H s) (hP:H P=some (.tbl ps)) (hx:Heap.ExtBut P s.heap h') (hge:s.heap.objs.size≤c') (hlt:c'<h'.objs.size) (hrec:h'.CodeRec (.ref c') qual) (htb:h'.get? P=some (PySem.W.tabObj (ps++more))) :
  Inv X pins σ (upd (upd (upd H P (.tbl (ps++more))) c' (CdO c' qual)) h'.objs.size (FnO h'.objs.size fd)) { s with heap:=h'.push { cls := .type "function",data := .func fd },toks:=tk }:=by
 have hPl:P<s.heap.objs.size:=I.hok.lt hP
 have hcf:s.heap.objs.size≤h'.objs.size:=Nat.le_trans hge (Nat.le_of_lt hlt)
 have hlc:∀ {b:Addr},b<s.heap.objs.size→b≠c'∧b≠h'.objs.size:=fun e=>⟨Nat.ne_of_lt (Nat.lt_of_lt_of_le e hge),Nat.ne_of_lt (Nat.lt_of_lt_of_le e hcf)⟩
 have hHc:∀ {b:Addr} {o:HO},H b=some o→b≠c'∧b≠h'.objs.size:=fun e=>hlc (I.hok.lt e)
 have push:∀ b o,h'.get? b=some o→(h'.push { cls := .type "function",data := .func fd }).get? b=some o:=fun b o e=>Heap.get?_push_of_some _ e
 have hget:∀ {b:Addr},b≠P→b≠c'→b≠h'.objs.size→(upd (upd (upd H P (.tbl (ps++more))) c' (CdO c' qual)) h'.objs.size (FnO h'.objs.size fd)) b=H b:=fun h1 h2 h3=>by rw [Yh h3,Yh h2,Yh h1]
 have atP:(upd (upd (upd H P (.tbl (ps++more))) c' (CdO c' qual)) h'.objs.size (FnO h'.objs.size fd)) P=some (.tbl (ps++more)):=by rw [Yh (hlc hPl).2,Yh (hlc hPl).1,Yc]
 refine I.un ⟨fun b o e n _ _=>push b o (hx b o (fun z=>by rw [z,hP] at n;cases n) e),fun b o e n _ _=>⟨o.slots,push b o (hx b o (fun z=>by rw [z,hP] at n;cases n) e)⟩,fun b o e n _=>?_,fun b o e _=>?_,fun b xs e=>?_,fun b o u e=>?_,fun b qs e=>?_⟩ fun b o e=>?_
 ·have:=Heap.lt_size e
  rw [hget (fun z=>by rw [z,hP] at n;cases n) (hlc this).1 (hlc this).2];exact n
 ·by_cases hb:b=P
  ·subst hb;exact ⟨_,push _ _ htb⟩
  ·exact ⟨o,push b o (hx b o hb e)⟩
 ·rw [hget (Wj e hP (by intro z;cases z)) (hHc e).1 (hHc e).2];exact e
 ·rw [hget (Wj e hP (by intro z;cases z)) (hHc e).1 (hHc e).2];exact e
 ·by_cases hb:b=P
  ·subst hb
   rw [hP] at e;cases e
   exact ⟨more,atP⟩
  ·exact ⟨#[],by rw [hget hb (hHc e).1 (hHc e).2,e];simp⟩
 ·by_cases h3:b=h'.objs.size
  ·subst h3
   rw [Yc] at e;cases e
   exact Yco (Heap.get?_push_size _ rfl)
  ·by_cases h2:b=c'
   ·subst h2
    rw [Yh h3,Yc] at e;cases e
    exact YeT (hrec.push _)
   ·by_cases h1:b=P
    ·subst h1
     rw [atP] at e;cases e
     exact push _ _ htb
    ·rw [hget h1 h2 h3] at e
     refine (I.hok b o e).stay (fun c u hc q=>push c u (hx c u ?_ q)) (fun c q=>?_) fun c xs q=>?_
     ·rcases hc with rfl | hc
      ·exact h1
      ·exact Wj hc hP (by intro z;cases z)
     ·rw [hget (Wj q hP (by intro z;cases z)) (hHc q).1 (hHc q).2];exact q
     ·rw [hget (Wj q hP (by intro z;cases z)) (hHc q).1 (hHc q).2];exact q
end
def Made (P:Addr) (pos:Pos) (q:Str) (mk:Addr→FuncData→Prop) (H:Hp) (Q:VK):Prop:=∃ ps,H P=some (.tbl ps)∧TriplesOk ps.toList ∧
 ((codeAmong pos ps.toList=none∧∀ f c fd,H f=none→H c=none→f≠c→mk c fd→Q (.ref f) (upd (upd (upd H P (.tbl (ps++#[rawInt pos.line,rawInt pos.col,.ref c]))) c (CdO c q)) f (FnO f fd))) ∨
  ∃ c,codeAmong pos ps.toList=some (.ref c)∧∀ f fd,H f=none→mk c fd→Q (.ref f) (upd H f (FnO f fd)))
section
variable {X:Cx} {c P:Addr} {name qual:Str} {params:Arguments} {body:List Stmt} {eb:Expr} {scope:Scope} {clos:List (Str×Addr)} {pos:Pos} {ln:Nat}
abbrev YdN (qual:Str) (params:Arguments) (body:Expr) (scope:Scope) (clos:List (Str×Addr)) (c:Addr) (fd:FuncData):Prop:=∃ pm ctv,fd=PySem.W.kla_fn "<lambda>" qual params body scope clos pm (.ref c) ctv
theorem Ycp {pins:List (Addr×Obj)} {σ:St} {H:Hp} {s:Shared} {ps:Array Value} (I:Inv X pins σ H s) (bm:Bm X.mg X.base) (hP:H P=some (.tbl ps)):mainGlobals≠P∧s.heap.BuiltinsAt X.mg P:=by
 refine ⟨fun z=>?_,?_⟩
 ·obtain ⟨o,es,ep,e,_⟩:=I.mod.glob
  have:=(I.bs _ _ e).2
  rw [z,hP] at this;cases this
 ·obtain ⟨b,ob,h1,h2,h3,h4,h5⟩:=bm
  refine ⟨b,ob,h1,h2,h3,fun z=>?_,(I.bs _ _ h4).1,h5⟩
  have:=(I.bs _ _ h4).2
  rw [z,hP] at this;cases this
theorem YeU {pins:List (Addr×Obj)} {σ:St} {H:Hp} {s:Shared} {Q:VK} (bm:Bm X.mg X.base) (C:PySem.W.CodeHd X.base c P) (hcode:X.env.code = .ref c) (hcl:closureFor scope X.env=pure clos) (I:Inv X pins σ H s) (h:Made P pos qual (YdN qual params eb scope clos) H Q) :
  wpAny (model X.prog X.w) X.A (makeFunction "<lambda>" qual params (.expr eb) scope X.env [] [] [] pos ln) (EP X pins σ Q) X.xe s:=by
 obtain ⟨ps,hP,ht,h⟩:=h
 obtain ⟨hgP,hb⟩:=Ycp I bm hP
 have hPo:s.heap.get? P=some (PySem.W.tabObj ps):=I.hok P _ hP
 rcases h with ⟨hnf,h⟩ | ⟨c',hf,h⟩
 ·refine PySem.W.kla_makeFunction (mg:=X.mg) hcl I.ok.glob (I.mod.glob.keeps I.bk) hcode (C.keeps I.bk) hPo ht hnf hgP hb fun c' ctv h' tk hx hge hlt hrec htb=>?_
  refine ⟨.ref h'.objs.size,_,I.madeF hP hx hge hlt hrec htb,rfl,h _ _ _ (I.hok.fresh (Nat.le_trans hge (Nat.le_of_lt hlt))) (I.hok.fresh hge) (Nat.ne_of_gt hlt) ⟨_,_,rfl⟩⟩
 ·refine PySem.W.kla_makeFunctionHit (mg:=X.mg) hcl I.ok.glob (I.mod.glob.keeps I.bk) hcode (C.keeps I.bk) hPo ht hf hb fun ctv h' tk hk hsz=>?_
  exact ⟨.ref h'.objs.size,_,I.laid (fun b o e=>Heap.get?_push_of_some _ (hk b o e)) hsz (Yco (Heap.get?_push_size _ rfl)),rfl,h _ _ (I.hok.fresh hsz) ⟨_,_,rfl⟩⟩
def tLam (P:Addr) (pos:Pos) (q:Str) (mk:Addr→FuncData→Prop):TE:=fun _ H Q=>Made P pos q mk H Q
theorem QT (bm:Bm X.mg X.base) (C:PySem.W.CodeHd X.base c P) (hcode:X.env.code = .ref c) (hcl:closureFor scope X.env=pure clos) (hq:X.env.qual++"<lambda>"=qual) (hdef:defaultsOf params X.env=([],[])) :
  PE X (.Lambda params eb scope pos) (tLam P pos qual (YdN qual params eb scope clos)):=by
 intro pins s σ H Q I h
 refine PySem.W.kla_eval hdef ?_
 rw [hq]
 exact YeU bm C hcode hcl I h
end
def lay (H:Hp):Ym→Hp
 | []=>H
 | p::l=>upd (lay H l) p.2.1 (Wl p.2.1 p.2.2)
theorem WW {H:Hp} {b:Addr}:∀ {l:Ym},b∉l.as→lay H l b=H b
 | [],_=>rfl
 | p::l,h=>by
  have h1:b≠p.2.1:=fun z=>h (by rw [z];exact .head _)
  rw [lay,Yh h1]
  exact WW fun z=>h (.tail _ z)
theorem Ycq {H:Hp}:∀ {l:Ym},l.as.Nodup→l.In (lay H l)
 | [],_=>fun p hp=>by cases hp
 | q::l,nd=>fun p hp=>by
  have nd':=List.nodup_cons.mp nd
  rcases List.mem_cons.mp hp with rfl | hp
  ·exact Yc
  ·have hne:p.2.1≠q.2.1:=fun z=>nd'.1 (by
    have:p.2.1∈Ym.as l:=List.mem_map_of_mem (f:=fun p:Str×Addr×V=>p.2.1) hp
    rw [z] at this
    exact this)
   rw [lay,Yh hne]
   exact Ycq nd'.2 p hp
def Xz (X:Cx) (σ:St) (l:Ym):Prop:=l.as.Nodup∧∀ p∈l,∃ i:Nat,X.N[i]?=some p.1∧σ[i]?=some (some p.2.2)∧X.env.kindOf p.1=some .cell∧X.env.cells.lookup p.1=some p.2.1
theorem U4 {X:Cx} {pins:List (Addr×Obj)} {σ:St} {H:Hp} {s:Shared} (I:Inv X pins σ H s):∀ {l:Ym},Xz X σ l→HOk X.prog X.w (lay H l) s.heap
 | [],_=>I.hok
 | p::l,h=>by
  have nd':=List.nodup_cons.mp h.1
  have ih:=U4 I (l:=l) ⟨nd'.2,fun q hq=>h.2 q (.tail _ hq)⟩
  obtain ⟨i,h1,h2,h3,h4⟩:=h.2 p (.head _)
  obtain ⟨m,hn,hl⟩:=I.loc
  obtain ⟨u,r,lk⟩:=hl i p.1 p.2.2 h1 h2 (.inr (.inl h3))
  rcases lk with ⟨k,_⟩ | ⟨_,c,hc,hcell⟩
  ·rw [h3] at k;cases k
  ·rw [h4] at hc
   cases hc
   refine ih.track ?_ (VR r hcell)
   rw [WW nd'.1]
   exact I.freeC p.1 p.2.1 h4
def PR (X:Cx) (b:List Stmt) (t:(St→V→Hp→Prop)→St→Hp→Prop):Prop:=∀ (pins:List (Addr×Obj)) (s:Shared) (σ:St) (H:Hp) (R:St→V→Hp→Prop),Inv X pins σ H s→t R σ H →
 wpAny (model X.prog X.w) X.A (execs b X.env) (fun fl s'=>∃ u,fl = .ret u∧∃ v σ' H',Inv X pins σ' H' s'∧Yv v u∧R σ' v H') X.xe s
section
variable {X:Cx} {st:Stmt} {YY:List Stmt} {t:TS} {u:(St→V→Hp→Prop)→St→Hp→Prop} {e:Expr} {te:TE} {pos:Pos}
def rRet (te:TE):(St→V→Hp→Prop)→St→Hp→Prop:=fun R σ H=>te σ H fun v H'=>R σ v H'
theorem YeV (he:PE X e te):PR X [.Return (some e) pos] (rRet te):=by
 intro pins s σ H R I h
 refine wpAny_execs_cons (wpAny_Return_some (thn (he pins s σ H _ I h) fun v s1 ⟨x,H1,I1,r1,q1⟩=>⟨v,rfl,x,σ,H1,I1,r1,q1⟩))
end
theorem Fun.okC {P:Program} {w:World} {K:PySem.W.Frag} {mg:Str→Option Value} {base:Heap} {x qual:Str} {st:Stmt} {f:Addr} {fd:FuncData} {N ps:List Str} {k:Nat} {sp:Sp} (F:Fun K x qual st f fd) (S:FnScope N ps (Yi st)) (len:∀ vs H Q E,sp vs H Q E→vs.length=ps.length)
  (hbody:∀ (cdv:Value) (A:Around) (outer:List Env) (s:Shared) (H:Hp) (vs:List V) (Q:VK) (E:XK),fd.code=cdv→Room k (A.deeper (envOfC qual (Yi st) s.heap.objs.size f cdv))→sp vs H Q E →
   ∃ t,PR (Wa CX0 P w K mg base N qual (Yi st) f cdv A outer s H E).nox (YT st) t ∧
    t (fun σ v H'=>∃ l,Xz (Wa CX0 P w K mg base N qual (Yi st) f cdv A outer s H E).nox σ l∧((∀ c∈l.as,H' c=none)→Q v (lay H' l))) (start N vs) H):FnOk P w K mg base CX0 (k+1) f fd ps sp:=by
 obtain ⟨oc,od,kV,doc,pm,an,cdv,ct,osl,rfl,lk,hcd⟩:=F.ex
 refine ⟨len,fun A outer s H args us vs Q E hr e0 hb r hsp=>?_⟩
 have hl:=len _ _ _ _ hsp
 have KX:K.In s.heap:=e0.mod.kin.keeps fun b o e=>(e0.bs b o e).1
 have lim:s.heap.NoLimit:=e0.mod.nolimit.keeps fun b o e=>(e0.bs b o e).1
 have hkind:∀ y∈ps.zip us,(Yi st).names.lookup y.1=some .local∨((Yi st).names.lookup y.1=some .cell∧((cellsFrom (s.heap.objs.size+1) (Yi st).names []).lookup y.1).isSome=true):=fun ⟨n,v⟩ hy=>by
  rcases S.par n (List.of_mem_zip hy).1 with q | q
  ·exact .inl q
  ·exact .inr ⟨q,PySem.W.cellsFrom_some _ _ _ (.inl q)⟩
 refine codeAny_call_function hr.depth (KX _ _ lk) rfl S.co S.gen rfl (PySem.W.codeRec_of KX hcd) (hb _ _ _ _ ?_)
 refine wpAny_newFunctionEnv_cells S.kind hkind fun env he s1 xx=>?_
 subst he
 refine ⟨lim.keeps xx.toInCall.keep,codeAny_func ?_⟩
 obtain ⟨t,ht,hq⟩:=hbody cdv A outer s H vs Q E rfl (hr.deeper _) hsp
 have I:Inv (Wa CX0 P w K mg base N qual (Yi st) f cdv A outer s H E).nox [] (start N vs) H s1:=(UV (CX:=CX0) (E:=E) S hr.hd e0 hl r xx).wish _
 refine wpAny_mono (ht [] s1 (start N vs) H _ I hq) (fun fl s' hs=>?_) fun e s' hs=>hs.elim
 obtain ⟨u,rfl,v,σ',H',J,rv,l,hc,q⟩:=hs
 have un:=J.base
 have hab:∀ b∈l.as,s.heap.objs.size≤b:=fun b hb=>by
  obtain ⟨p,hp,rfl⟩:=Y1 hb
  obtain ⟨i,h1,h2,h3,h4⟩:=hc.2 p hp
  exact J.ok.cab p.1 p.2.1 rfl h4
 have hno:∀ b∈l.as,H' b=none:=fun b hb=>by
  obtain ⟨p,hp,rfl⟩:=Y1 hb
  obtain ⟨i,h1,h2,h3,h4⟩:=hc.2 p hp
  exact J.freeC p.1 p.2.1 h4
 have keep:∀ {b:Addr} {o:HO},H' b=some o→lay H' l b=some o:=fun {b o} e=>by
  rw [WW fun hb=>?_]
  ·exact e
  ·rw [hno b hb] at e;cases e
 refine ⟨v,lay H' l,J.os,J.bare,⟨un.keep,un.slot,fun b o e n hx=>?_,un.there,fun b xs e=>keep (un.tups b xs e),fun b o u e=>keep (un.frzs b o u e),fun b qs e=>?_⟩,U4 J hc,rv,q hno⟩
 ·rw [WW fun hb=>?_]
  ·exact un.free b o e n hx
  ·have h1:=hab b hb
   have h2:=Heap.lt_size (show s.heap.get? b=some o from e)
   exact absurd (Nat.lt_of_lt_of_le h2 h1) (Nat.lt_irrefl _)
 ·obtain ⟨more,e'⟩:=un.tbls b qs e
  exact ⟨more,keep e'⟩
end L2
namespace L2
open PySem PySem.Spec PyProof.Rows
def QU (g:Gx) (k i:Nat) (t:TA):TE:=fun σ H Q=>∃ f fd ps sp,σ[i]?=some (some (.ref f))∧FnOk g.P g.w g.K g.mg g.base CX0 k f fd ps sp∧(∀ us:List Value,us.length=ps.length→bindArgs fd ⟨us,[]⟩=pure (ps.zip us))∧H f=some (FnO f fd)∧t σ H fun vs H1=>H1 f=some (FnO f fd)∧sp vs H1 Q E0
section
variable {X:Cx} {g:Gx} {k j i:Nat} {x:Str} {p pos:Pos} {e:Expr} {es:List Expr} {t:TA}
theorem Ya1 {pins:List (Addr×Obj)} {σ:St} {H:Hp} {s:Shared} {f:Addr} {fd:FuncData} (I:Inv X pins σ H s) (h:H f=some (FnO f fd)):PySem.W.FnAt f s.heap:=⟨_,_,_,_,(I.hok _ _ h).1⟩
theorem XG (i:Nat) (hr:Room k X.A) (ha:PA X (e::es) t) (hj:j≤k) (hX:X.gx=g) (hN:X.N[i]?=some x) (hv:Vis X.env.scope x) (hdb:(x==("__debug__":Str))=false)
  (hcd:(x==("__classdict__":Str))=false) (he:starEach (e::es) X.env=(false,eval e X.env)::starEach es X.env) (hpl:(backTo pos (starEach es X.env)).any (·.1)=false):PE X (.Call (.Name x p) (e::es) [] pos) (QU g j i t):=by
 subst hX
 intro pins s σ H Q I h
 obtain ⟨f,fd,ps,sp,hσ,F,b,hf,ht⟩:=h
 refine wpAny_Call_Name_kw (thn (QB hN hv hdb hcd pins s σ H (fun v H1=>v = .ref f∧H1 f=some (FnO f fd)∧t σ H1 fun vs H1=>H1 f=some (FnO f fd)∧sp vs H1 Q E0) I ⟨.ref f,hσ,rfl,hf,ht⟩) fun u s1 ⟨v,H1,I1,r,e,hf1,ht⟩=>?_)
 subst e
 obtain rfl:u=Value.ref f:=r
 refine PySem.W.callWith_F (Ya1 I1 hf1) (thn (ha pos pins s1 σ H1 _ I1 ht) fun us s2 ⟨vs,H2,I2,r2,hf2,q⟩=>⟨Ya1 I2 hf2,?_⟩) he hpl
 exact QH F (hr.mono hj) (.all b) .nil Qr I2 r2 (by rw [List.append_nil];exact q)
end
abbrev Tbs:=List (Str×Addr×Addr)
theorem Ycr {P:Program} {w:World} {K:PySem.W.Frag} {mg mb:Str→Option Value} {CX:CXT} {k:Nat} {fa a:Addr} {fd:FuncData} {x:Str} {sp:Sp} {s₁:Shared} {vs:List Value} {ns:List Int} (tabs:Tbs)
  (KX:K.In s₁.heap) (hns:s₁.heap.Ns mainGlobals mg) (hb:s₁.heap.Ns builtinsNs mb) (hbb:∀ x:Str,x≠"__name__"→mb x=bootBuiltins x) (hlim:s₁.heap.NoLimit) (hg:s₁.gens=#[])
  (ha:s₁.heap.get? a=some { cls := .type "list",data := .seq vs.toArray }) (hi:IntsAre vs ns) (hl:ns.length≤sizeLine) (hr:Room k callerA)
  (hT:∀ q∈tabs,PySem.W.CodeHd s₁.heap q.2.1 q.2.2∧s₁.heap.get? q.2.2=some (PySem.W.tabObj #[])) (hK:∀ q∈tabs,K.lookup q.2.2=none)
  (bmn:∃ bm ob,mg "__builtins__"=some (.ref bm)∧bm≠builtinsNs∧s₁.heap.get? bm=some ob∧ob.cls = .type "module"∧ob.dict=some builtinsNs∧ob.data = .plain)
  (F:∀ base:Heap,K.In base→base.Ns mainGlobals mg→Bm mg base→(∀ q∈tabs,PySem.W.CodeHd base q.2.1 q.2.2)→FnOk P w K mg base CX k fa fd [x] sp) (hbind:∀ (s:Shared) (u:Value),BindsTo s fd ⟨[u],[]⟩ [(x,u)])
  (hsp:∀ H:Hp,(∀ q∈tabs,H q.2.2=some (.tbl #[]))→SqL K H a (ns.map V.int)→sp [.ref a] H (fun v _=>v = .bl true) fun _ _ _=>False)
  (hCX:∀ H e s',CX [] H s₁ (fun _ _ _=>False) e s'→False) :
  codeAny (model P w) callerA (.call (.ref fa) ⟨[.ref a],[]⟩) (fun r s'=>r = .ok (.ret (.bool true))∧OldK s₁.heap s'.heap∧s'.os=s₁.os∧AllBare s'.gens) s₁:=by
 have rv:=UY hi
 have lenV:=hi.length
 have tobj:∀ b∈tabs.map (·.2.2),s₁.heap.get? b=some (PySem.W.tabObj #[]):=fun b hb=>by
  obtain ⟨q,hq,rfl⟩:=List.mem_map.mp hb
  exact (hT q hq).2
 have aT:a∉tabs.map (·.2.2):=fun hb=>by
  have:=tobj a hb
  rw [ha] at this
  cases this
 have core:∀ H:Hp,(∀ b,H b=none∨(∃ o xs,H b=some (.frz o (.lst xs)))∨(b∈tabs.map (·.2.2)∧H b=some (.tbl #[])))→SqL K H a (ns.map V.int)→HOk P w H s₁.heap→(∀ b,H b≠none→b=a∨b∈tabs.map (·.2.2))→(H a≠none→K.lookup a=none)→(∀ q∈tabs,H q.2.2=some (.tbl #[])) →
   codeAny (model P w) callerA (.call (.ref fa) ⟨[.ref a],[]⟩) (fun r s'=>r = .ok (.ret (.bool true))∧OldK s₁.heap s'.heap∧s'.os=s₁.os∧AllBare s'.gens) s₁:=by
  intro H hO hS hok hA hKa hTb
  have base_of:∀ {b:Addr} {o:Obj},s₁.heap.get? b=some o→H b=none→(WA s₁.heap H).get? b=some o:=fun e n=>YcS e n
  have noC:∀ {b:Addr} {o:Obj},s₁.heap.get? b=some o→o.cls ≠ .type "list"→o≠PySem.W.tabObj #[]→H b=none:=fun {b o} e d1 d2=>by
   cases q:H b with
   | none=>rfl
   | some u =>
    rcases hA b (by rw [q];simp) with e' | e'
    ·subst e'
     rw [ha] at e;cases e
     exact absurd rfl d1
    ·rw [tobj b e'] at e
     exact absurd (Option.some.inj e).symm d2
  have noA:∀ {b:Addr} {o:Obj} {es:Array DictEntry} {ep:Nat},s₁.heap.get? b=some o→o.data = .dict es ep→H b=none:=fun {b o es ep} e d=>by
   cases q:H b with
   | none=>rfl
   | some u =>
    rcases hA b (by rw [q];simp) with e' | e'
    ·subst e'
     rw [ha] at e;cases e
     have d':Data.seq vs.toArray _=Data.dict es ep:=d
     cases d'
    ·rw [tobj b e'] at e
     cases e
     have d':Data.fields #[]=Data.dict es ep:=d
     cases d'
  have nsK:∀ {b:Addr} {m:Str→Option Value},s₁.heap.Ns b m→(WA s₁.heap H).Ns b m:=fun {b m} ⟨o,es,ep,e,d,r⟩=>⟨o,es,ep,base_of e (noA e d),d,r⟩
  have hKb:K.In (WA s₁.heap H):=fun b o e=>base_of (KX b o e) (by
   cases q:H b with
   | none=>rfl
   | some u =>
    rcases hA b (by rw [q];simp) with e' | e'
    ·subst e'
     rw [hKa (by rw [q];simp)] at e;cases e
    ·obtain ⟨z,hz,rfl⟩:=List.mem_map.mp e'
     rw [hK z hz] at e;cases e)
  have hM:Mod K mg (WA s₁.heap H):=⟨hKb,nsK hns,⟨mb,nsK hb,hbb⟩,let ⟨mc,h1,h2⟩:=hlim;⟨mc,nsK h1,h2⟩⟩
  have e0:Env0 P w K mg (WA s₁.heap H) callerA [] s₁ H:=⟨rfl,hM,fun b o e=>YdU e,Nat.le_of_eq (Yb2 _ _),trivial,fun b hb=>absurd (show b∈([]:List Addr) from hb) (by simp),hok,.of_eq hg⟩
  have hBm:Bm mg (WA s₁.heap H):=by
   obtain ⟨bm,ob,b1,b2,b3,b4,b5,b6⟩:=bmn
   refine ⟨bm,ob,b1,b2,fun z=>?_,base_of b3 (noC b3 (by rw [b4];decide) fun z=>by rw [z] at b4;cases b4),b4,b5,b6⟩
   obtain ⟨o,es,ep,e,d,_⟩:=hns
   rw [z,e] at b3;cases b3
   rw [d] at b6;cases b6
  have hCd:∀ q∈tabs,PySem.W.CodeHd (WA s₁.heap H) q.2.1 q.2.2:=fun q hq=>by
   obtain ⟨o,vs',file,tf,flags,tg,inF,text,tt,e1,e2,r⟩:=(hT q hq).1
   exact ⟨o,vs',file,tf,flags,tg,inF,text,tt,base_of e1 (noC e1 (by rw [e2];decide) fun z=>by rw [z] at e2;cases e2),e2,r⟩
  refine codeAny_mono ((F _ hKb (nsK hns) hBm hCd).run callerA [] s₁ H ⟨[.ref a],[]⟩ [.ref a] [.ref a] _ _ hr e0 (hbind s₁ (.ref a)) (.cons rfl .nil) (hsp H hTb hS)) fun r s' h=>?_
  cases r with
  | error e=>exact (hCX H e s' h).elim
  | ok fl =>
   cases fl with
   | next=>exact False.elim h
   | brk=>exact False.elim h
   | cont=>exact False.elim h
   | ret u =>
    obtain ⟨v,H',os,bare,un,hok',r',q⟩:=h
    have q':v = .bl true:=q
    subst q'
    obtain rfl:u=Value.bool true:=r'
    have each:∀ b o,s₁.heap.get? b=some o→s'.heap.get? b=some o∨((∃ z∈tabs,z.2.2=b)∧o=PySem.W.tabObj #[]∧∃ ps,s'.heap.get? b=some (PySem.W.tabObj ps)):=fun b o e=>by
     rcases hO b with q | ⟨ob,xs,z⟩ | ⟨z1,z2⟩
     ·exact .inl (un.keep b o e q (by intro z;exact absurd (show b∈([]:List Addr) from z) (by simp)) (by simp))
     ·have z2:=un.frzs b ob _ z
      obtain ⟨e1,_⟩:=hok b _ z
      obtain ⟨e2,_⟩:=hok' b _ z2
      rw [e] at e1;cases e1
      exact .inl e2
     ·obtain ⟨q,hq,e3⟩:=List.mem_map.mp z1
      obtain ⟨more,e4⟩:=un.tbls b _ z2
      have e5:s'.heap.get? b=some (PySem.W.tabObj (#[]++more)):=hok' b _ e4
      rw [tobj b z1] at e
      exact .inr ⟨⟨q,hq,e3⟩,(Option.some.inj e).symm,_,e5⟩
    refine ⟨rfl,⟨fun b o e=>?_,fun b o e=>?_⟩,os,bare⟩
    ·rcases each b o e with h | ⟨⟨z,hz,rfl⟩,rfl,ps,h⟩
     ·exact .inl h
     ·exact .inr (.inl ⟨((hT z hz).1.tab (hT z hz).2).isCodeTable,rfl,#[],ps,rfl,by rw [Array.empty_append];exact h⟩)
    ·rcases each b o e with h | ⟨_,_,ps,h⟩
     ·exact ⟨o,h⟩
     ·exact ⟨_,h⟩
 have tbIn:∀ q∈tabs,q.2.2∈tabs.map (·.2.2):=fun q hq=>List.mem_map_of_mem hq
 have tbOk:∀ {H:Hp} {b:Addr},b∈tabs.map (·.2.2)→YK P w H s₁.heap b (.tbl #[]):=fun hb=>tobj _ hb
 cases hk:K.lookup a with
 | some o =>
  have e:=KX a o hk
  rw [ha] at e
  cases e
  refine core (fun b=>if b∈tabs.map (·.2.2) then some (.tbl #[]) else none) (fun b=>?_) (.inr ⟨_,vs.toArray,_,hk,rfl,rfl,rfl,by rw [List.size_toArray,lenV];exact hl,by simpa using rv⟩) (fun b u z=>?_) (fun b z=>?_) (fun z=>absurd (if_neg aT) z) fun q hq=>if_pos (tbIn q hq)
  ·by_cases hb:b∈tabs.map (·.2.2)
   ·exact .inr (.inr ⟨hb,if_pos hb⟩)
   ·exact .inl (if_neg hb)
  ·by_cases hb:b∈tabs.map (·.2.2)
   ·have z':=(if_pos hb).symm.trans z
    cases z'
    exact tbOk hb
   ·have z':=(if_neg hb).symm.trans z
    cases z'
  ·by_cases hb:b∈tabs.map (·.2.2)
   ·exact .inr hb
   ·exact absurd (if_neg hb) z
 | none =>
  refine core (fun b=>if b∈tabs.map (·.2.2) then some (.tbl #[]) else if b=a then some (.frz { cls := .type "list",data := .seq vs.toArray } (.lst (ns.map V.int))) else none) (fun b=>?_) (.inl (.inr ⟨{ cls := .type "list",data := .seq vs.toArray },(if_neg aT).trans (if_pos rfl)⟩)) (fun b u z=>?_) (fun b z=>?_) (fun _=>hk) fun q hq=>if_pos (tbIn q hq)
  ·by_cases hb:b∈tabs.map (·.2.2)
   ·exact .inr (.inr ⟨hb,if_pos hb⟩)
   ·by_cases hb2:b=a
    ·exact .inr (.inl ⟨_,_,(if_neg hb).trans (if_pos hb2)⟩)
    ·exact .inl ((if_neg hb).trans (if_neg hb2))
  ·by_cases hb:b∈tabs.map (·.2.2)
   ·have z':=(if_pos hb).symm.trans z
    cases z'
    exact tbOk hb
   ·have z1:=(if_neg hb).symm.trans z
    by_cases hb2:b=a
    ·have z':=(if_pos hb2).symm.trans z1
     cases z'
     subst hb2
     exact ⟨ha,by rw [List.length_map];exact hl,vs,_,rv,ha⟩
    ·have z':=(if_neg hb2).symm.trans z1
     cases z'
  ·by_cases hb:b∈tabs.map (·.2.2)
   ·exact .inr hb
   ·by_cases hb2:b=a
    ·exact .inl hb2
    ·exact absurd ((if_neg hb).trans (if_neg hb2)) z
def YdO (s:Stmt) (j:Nat):Stmt:=(YT s).getD j (.Pass ⟨0,0,0,0⟩)
def Gx.RawT (g:Gx) (x qual:Str) (st:Stmt) (ps:List Str) (c:Addr):Prop:=∃ f fd,Fun g.K x qual st f fd∧Xr g.K fd ps []∧g.mg x=some (.ref f)∧fd.code = .ref c
theorem Gx.RawT.fnC {g:Gx} {k:Nat} {x qual:Str} {st:Stmt} {N ps:List Str} {c:Addr} {sp:Sp} (R:g.RawT x qual st ps c) (S:FnScope N ps (Yi st)) (len:∀ vs H Q E,sp vs H Q E→vs.length=ps.length)
  (b:∀ (f:Addr) (A:Around) (outer:List Env) (s:Shared) (H:Hp) (vs:List V) (Q:VK) (E:XK),Room k (g.cx N qual st f (.ref c) A outer s H E).A→sp vs H Q E →
   ∃ t,PR (g.cx N qual st f (.ref c) A outer s H E) (YT st) t∧t (fun σ v H'=>∃ l,Xz (g.cx N qual st f (.ref c) A outer s H E) σ l∧((∀ c∈l.as,H' c=none)→Q v (lay H' l))) (start N vs) H):g.Fn (k+1) x ps sp:=by
 obtain ⟨f,fd,F,bd,hm,hc⟩:=R
 refine ⟨f,fd,F.okC S len fun cdv A outer s H vs Q E e hr h=>?_,bd,F.kp,hm⟩
 have e':cdv = .ref c:=e.symm.trans hc
 subst e'
 exact b f A outer s H vs Q E hr h
theorem Ya2 {K:PySem.W.Frag} {h:Heap} {mg:Str→Option Value} {f:Addr} {x:Str} {st:Stmt} {c:Addr} {oc kV dc pm cd ct:Value} {od an:Option Addr} {sl:Array (Option Value)} (X:K.In h) (G:h.Ns mainGlobals mg) (ps:List Str)
  (a:PySem.W.nsIn K mainGlobals x=some (some (.ref f))) (l:K.lookup f=some ⟨oc,od,.func (PySem.W.fnOf x x (Xk st) (YT st) (Yi st) .none kV dc pm an cd ct),sl⟩) (cc:PySem.W.codeIn K cd x=true) (k:PySem.W.keepIn K (.ref f)=true) (e:cd = .ref c)
  (b:∀ (kV doc pm:Value) (an:Option Addr) (cdv ct:Value) (us:List Value),us.length=ps.length→bindArgs (PySem.W.fnOf x x (Xk st) (YT st) (Yi st) .none kV doc pm an cdv ct) ⟨us,[]⟩=pure (ps.zip us)) :
  ∀ P w base,(Gx.mk P w K mg base).RawT x x st ps c:=fun P w base =>
 have F:=Ua (st:=st) l cc k
 ⟨f,_,F,F.binds b,PySem.W.mg_of X G a,e⟩
end L2
namespace HT
open PySem PySem.Spec PyProof.Rows
variable {prog:Program} {w:World} {A:Around} {E:Value→Shared→Prop} {s:Shared}
end HT
namespace L2
open PySem PySem.Spec PyProof.Rows
end L2
namespace L2
open PySem PySem.Spec PyProof.Rows
section
variable {tb:TS} {D:Ends} {σ:St} {H:Hp}
theorem YbL {K:PySem.W.Frag} {ta:TA} (i j:Nat) {xs ys:List V} (Pv:Addr→Addr→Nat→St→Hp→Prop) (ha:∀ R:List V→Hp→Prop,(∀ a b H1,Pv a b 0 σ H1→R [.ref a,.ref b] H1)→ta σ H R)
  (hl:∀ a b n σ H,n≤min xs.length ys.length→Pv a b n σ H→SqT K H a xs∧SqT K H b ys)
  (hs:∀ a b (n:Nat) x y σ H T,xs[n]?=some x→ys[n]?=some y→Pv a b n σ H→H T=none→tb { D with nx:=Pv a b (n+1),ct:=Pv a b (n+1),bk:=D.nx } ((σ.set i (some x)).set j (some y)) (upd H T (.tup [x,y])))
  (hd:∀ a b σ H,Pv a b (min xs.length ys.length) σ H→D.nx σ H):X9 (Qs K ta) (WD K 2 (Xb (YA i) (Xb (YA j) WC))) tb D σ H:=by
 refine ha _ fun a b H1 h0=>?_
 obtain ⟨s1,s2⟩:=hl a b 0 σ H1 (Nat.zero_le _) h0
 refine ⟨a,b,xs,ys,rfl,s1,s2,?_⟩
 refine ⟨fun n m σ H=>m=min xs.length ys.length - n∧n≤min xs.length ys.length∧Pv a b n σ H,⟨min xs.length ys.length,by simp,Nat.zero_le _,h0⟩,?_⟩
 rintro n m σ H ⟨rfl,hn,p⟩
 obtain ⟨g1,g2⟩:=hl a b n σ H hn p
 by_cases hlt:n<min xs.length ys.length
 ·have hx:xs[n]?=some (xs[n]'(by omega)):=List.getElem?_eq_getElem _
  have hy:ys[n]?=some (ys[n]'(by omega)):=List.getElem?_eq_getElem _
  refine .inr ⟨⟨xs,ys,_,_,g1,g2,hx,hy⟩,Pv a b (n+1),fun σ' H' p'=>⟨min xs.length ys.length - (n+1),by omega,rfl,hlt,p'⟩,?_⟩
  rintro v H' ⟨T,rfl,hT,heq⟩
  have e:=heq xs ys _ _ g1 g2 hx hy
  subst e
  exact ⟨T,_,rfl,SqT.of Yc,rfl,_,_,rfl,_,_,rfl,rfl,hs a b n _ _ σ H T hx hy p hT⟩
 ·have e:n=min xs.length ys.length:=by omega
  subst e
  refine .inl ⟨⟨xs,ys,g1,g2,?_⟩,hd a b σ H p⟩
  omega
theorem Ycs {K:PySem.W.Frag} {ta:TA} (b:Bool) (i j:Nat) {xs ys:List V} (Pv:Addr→Addr→Nat→St→Hp→Prop) (ha:∀ R:List V→Hp→Prop,(∀ a b H1,Pv a b 0 σ H1→R [.ref a,.ref b] H1)→ta σ H R)
  (hl:∀ a c n σ H,n≤min xs.length ys.length→Pv a c n σ H→(if b=true then SqL K H a xs else SqT K H a xs)∧(if b=true then SqL K H c ys else SqT K H c ys))
  (hs:∀ a b (n:Nat) x y σ H T,xs[n]?=some x→ys[n]?=some y→Pv a b n σ H→H T=none→tb { D with nx:=Pv a b (n+1),ct:=Pv a b (n+1),bk:=D.nx } ((σ.set i (some x)).set j (some y)) (upd H T (.tup [x,y])))
  (hd:∀ a b σ H,Pv a b (min xs.length ys.length) σ H→D.nx σ H):X9 (iOr (Qt K ta) (Qs K ta)) (WD K 2 (Xb (YA i) (Xb (YA j) WC))) tb D σ H:=by
 cases b with
 | true=>exact .inl (Ycl (K:=K) i j Pv ha (fun a c n σ H h1 h2=>by simpa using hl a c n σ H h1 h2) hs hd)
 | false=>exact .inr (YbL (K:=K) i j Pv ha (fun a c n σ H h1 h2=>by simpa using hl a c n σ H h1 h2) hs hd)
end
section
variable {src:List (Option Nat)} {te:TE} {tt:TT} {σ:St} {H:Hp} {Q:VK}
end
end L2
namespace L2
open PySem PySem.Spec PyProof.Rows
def retE (s:Stmt):Expr:=match s with
 | .Return (some e) _=>e
 | _ => .Constant .none 0 ⟨0,0,0,0⟩
def Ya3 (e:Expr):Arguments:=match e with
 | .Lambda a _ _ _=>a
 | _=>{ posonlyargs:=[],args:=[],vararg:=none,kwonlyargs:=[],kw_defaults:=[],kwarg:=none,defaults:=[] }
def Ya4 (e:Expr):Expr:=match e with
 | .Lambda _ b _ _=>b
 | e=>e
def W8 (e:Expr):Scope:=match e with
 | .Lambda _ _ sc _=>sc
 | _=>{ kind := .function,names:=[],isGenerator:=false,isCoroutine:=false }
theorem YeW {P:Program} {w:World} {K:PySem.W.Frag} {mg:Str→Option Value} {base:Heap} {k:Nat} {f c:Addr} {qual:Str} {params:Arguments} {body:Expr} {scope:Scope} {pm ctv:Value} {N ps:List Str} {l:Ym} {sp:List V→Hp→VK→Prop}
  (S:ClScope N ps (l.map (·.1)) scope) (hnd:l.as.Nodup) (len:∀ vs H Q,sp vs H Q→vs.length=ps.length)
  (hbody:∀ (A:Around) (outer:List Env) (s:Shared) (H:Hp) (vs:List V) (Q:VK),Room k (A.deeper (PySem.W.envX qual scope s.heap.objs.size f (.ref c) l.cl))→sp vs H Q →
   ∃ t,PE (VS P w K mg base N qual scope f (.ref c) l.cl A outer s H) body t∧t (WV N vs l.vs) H Q) :
  FnOk P w K mg base CX0 (k+1) f (PySem.W.kla_fn "<lambda>" qual params body scope l.cl pm (.ref c) ctv) ps
   (fun vs H Q _=>VT H f c (PySem.W.kla_fn "<lambda>" qual params body scope l.cl pm (.ref c) ctv) qual l∧sp vs (off H l.as) fun v H'=>(∀ c∈l.as,H' c=none)→Q v (on H' H l.as)):=by
 refine ⟨fun vs H Q E h=>len _ _ _ h.2,fun A outer s H args us vs Q E hr e0 hb r hsp=>?_⟩
 obtain ⟨⟨hf,hc,hin⟩,hsp⟩:=hsp
 have hl:=len _ _ _ hsp
 have lim:s.heap.NoLimit:=e0.mod.nolimit.keeps fun b o e=>(e0.bs b o e).1
 have hfo:=(e0.hok _ _ hf).1
 have hco:s.heap.CodeRec (.ref c) qual:=(e0.hok _ _ hc).1
 refine PySem.W.kla_callFunE hr.depth hfo rfl S.co S.gen rfl hco (hb _ _ _ _ ?_)
 refine wpAny_newFunctionEnv S.nocell (fun y hy=>S.par y.1 (List.of_mem_zip hy).1) (fun h₁ hns hsb=>?_) S.kind
 have hk₁:∀ b o,s.heap.get? b=some o→h₁.get? b=some o:=fun b o e=>hsb.extBut b o (Nat.ne_of_lt (Heap.lt_size e)) (Heap.get?_push_of_some _ e)
 refine ⟨lim.keeps hk₁,PySem.W.kla_codeExpr ?_⟩
 obtain ⟨t,ht,hq⟩:=hbody A outer s (off H l.as) vs _ (hr.deeper _) hsp
 have I:=YbK (cd := .ref c) (qual:=qual) (f:=f) (tk:=s.toks+(ps.zip us).length) S hnd hr.hd e0 hl r hin hns hk₁
 have lk:=Uj (l:=l) (by rw [← S.suf];exact S.nd.sublist (List.drop_sublist _ _))
 refine wpAny_mono (ht [] _ _ _ _ I hq) (fun u s' hs=>?_) fun e s' hs=>hs.elim
 obtain ⟨v,H',J,rv,q⟩:=hs
 exact ce_of e0 hin J lk rv q
end L2
namespace L2
open PySem PySem.Spec PyProof.Rows
section
variable {g:Gx} {x qual:Str} {st:Stmt} {N ps:List Str} {dvs:List V} {sp:Sp} {j k:Nat}
variable {X:Cx} {p pos:Pos} {e:Expr} {es:List Expr} {t:TA}
end
section
variable {X:Cx}
end
section
variable {src:List (Option Nat)} {te:TE} {σ:St} {H:Hp} {Q:VK}
end
end L2
namespace L2
open PySem PySem.Spec PyProof.Rows
mutual
inductive RK (h:Heap):Value→PyData→Prop
 | int (i:Int) (t:Tok):RK h (.int i t) (.int i)
 | str (x:Str) (t:Tok) (hx:PyData.strOk x=true):RK h (.str x t) (.str x)
 | tup {a:Addr} {o:Obj} {vs:Array Value} {n:Nat} {ds:List PyData}:h.get? a=some o→o.cls = .type "tuple"→o.data = .seq vs n→RKs h vs.toList ds→RK h (.ref a) (.tuple ds)
inductive RKs (h:Heap):List Value→List PyData→Prop
 | nil:RKs h [] []
 | cons {v:Value} {d:PyData} {vs:List Value} {ds:List PyData}:RK h v d→RKs h vs ds→RKs h (v::vs) (d::ds)
end
mutual
inductive KO:PyData→Prop
 | int (i:Int):KO (.int i)
 | str (x:Str):KO (.str x)
 | tup {ds:List PyData}:KOs ds→KO (.tuple ds)
inductive KOs:List PyData→Prop
 | nil:KOs []
 | cons {d:PyData} {ds:List PyData}:KO d→KOs ds→KOs (d::ds)
end
mutual
theorem RK.ko {h:Heap}:∀ {v:Value} {d:PyData},RK h v d→KO d
 | _,_,.int i t => .int i
 | _,_,.str x t _ => .str x
 | _,_,.tup _ _ _ hs => .tup hs.ko
theorem RKs.ko {h:Heap}:∀ {vs:List Value} {ds:List PyData},RKs h vs ds→KOs ds
 | _,_,.nil => .nil
 | _,_,.cons a b => .cons a.ko b.ko
end
mutual
theorem RK.reads {h:Heap}:∀ {v:Value} {d:PyData},RK h v d→(∃ as,Reads h v d as)∧d.canLay0=true
 | _,_,.int i t=>⟨⟨_,.int i t⟩,rfl⟩
 | _,_,.str x t hx=>⟨⟨_,.str x t⟩,by simpa [PyData.canLay0] using hx⟩
 | _,_,.tup h1 h2 h3 hs=>by
  obtain ⟨⟨as,r⟩,l⟩:=hs.reads
  exact ⟨⟨_,.tuple h1 h2 h3 r⟩,by rw [PyData.canLay0];exact l⟩
theorem RKs.reads {h:Heap}:∀ {vs:List Value} {ds:List PyData},RKs h vs ds→(∃ as,ReadsAll h vs ds as)∧PyData.canLayAll0 ds=true
 | _,_,.nil=>⟨⟨_,.nil⟩,rfl⟩
 | _,_,.cons a b=>by
  obtain ⟨⟨as,r⟩,l⟩:=a.reads
  obtain ⟨⟨bs,r'⟩,l'⟩:=b.reads
  exact ⟨⟨_,.cons r r'⟩,by rw [PyData.canLayAll0,l,l'];rfl⟩
end
theorem RK.of {h:Heap} {d:PyData} {v:Value} {as:List Addr} (k:KO d) (r:Reads h v d as) (l:d.canLay0=true):RK h v d:=by
 induction k using KO.rec (motive_2:=fun ds _=>∀ {vs:List Value} {as:List Addr},ReadsAll h vs ds as→PyData.canLayAll0 ds=true→RKs h vs ds) generalizing v as with
 | int i=>cases r with | int _ t=>exact .int i t
 | str x=>cases r with | str _ t=>exact .str x t (by simpa [PyData.canLay0] using l)
 | tup _ ih=>cases r with | tuple h1 h2 h3 hs=>exact .tup h1 h2 h3 (ih hs (by rw [PyData.canLay0] at l;exact l))
 | nil=>rename_i r l;cases r;exact .nil
 | cons _ _ ih ihs =>
  rename_i r l
  rw [PyData.canLayAll0,Bool.and_eq_true] at l
  cases r with | cons r rs=>exact .cons (ih r l.1) (ihs rs l.2)
theorem RK.inj {h:Heap} {d:PyData} {v:Value} {e:PyData} (a:RK h v d) (b:RK h v e):d=e:=by
 obtain ⟨⟨_,r⟩,l⟩:=a.reads
 obtain ⟨⟨_,r'⟩,_⟩:=b.reads
 exact (r.unique _ _ r').1
mutual
theorem RK.keeps {h h':Heap} {x:Addr} {o:Obj} {es:Array DictEntry} {ep:Nat} (ho:h.get? x=some o) (hd:o.data = .dict es ep) (hs:Heap.SameBut x h h'):∀ {v:Value} {d:PyData},RK h v d→RK h' v d
 | _,_,.int i t => .int i t
 | _,_,.str y t hy => .str y t hy
 | _,_,.tup (a:=a) h1 h2 h3 ks=>by
  have hne:a≠x:=by
   rintro rfl
   rw [ho] at h1
   cases h1
   rw [hd] at h3
   exact nomatch h3
  exact .tup ((hs.2 a hne).trans h1) h2 h3 (RKs.keeps ho hd hs ks)
theorem RKs.keeps {h h':Heap} {x:Addr} {o:Obj} {es:Array DictEntry} {ep:Nat} (ho:h.get? x=some o) (hd:o.data = .dict es ep) (hs:Heap.SameBut x h h'):∀ {vs:List Value} {ds:List PyData},RKs h vs ds→RKs h' vs ds
 | _,_,.nil => .nil
 | _,_,.cons a b => .cons (RK.keeps ho hd hs a) (RKs.keeps ho hd hs b)
end
noncomputable instance decPy:DecidableEq PyData:=fun a b=>Classical.propDecidable (a=b)
mutual
theorem KO.eqv:∀ {d e:PyData},KO d→KO e→d.eqv e=decide (d=e)
 | .int a,.int b,_,_=>by
  by_cases h:a=b
  ·subst h;simp [PyData.eqv]
  ·simp [PyData.eqv,h]
 | .str a,.str b,_,_=>by
  by_cases h:a=b
  ·subst h;simp [PyData.eqv]
  ·simp [PyData.eqv,h]
 | .int a,.str b,_,_=>by simp [PyData.eqv]
 | .str a,.int b,_,_=>by simp [PyData.eqv]
 | .int a,.tuple b,_,_=>by simp [PyData.eqv]
 | .str a,.tuple b,_,_=>by simp [PyData.eqv]
 | .tuple a,.int b,_,_=>by simp [PyData.eqv]
 | .tuple a,.str b,_,_=>by simp [PyData.eqv]
 | .tuple a,.tuple b,.tup x,.tup y=>by
  rw [PyData.eqv,KOs.eqv x y]
  by_cases h:a=b
  ·subst h;simp
  ·simp [h]
theorem KOs.eqv:∀ {ds es:List PyData},KOs ds→KOs es→PyData.eqvAll ds es=decide (ds=es)
 | [],[],_,_=>by simp [PyData.eqvAll]
 | [],_::_,_,_=>by simp [PyData.eqvAll]
 | _::_,[],_,_=>by simp [PyData.eqvAll]
 | d::ds,e::es,.cons x xs,.cons y ys=>by
  rw [PyData.eqvAll,KO.eqv x y,KOs.eqv xs ys]
  by_cases h:d=e
  ·subst h
   by_cases h2:ds=es
   ·subst h2;simp
   ·simp [h2]
  ·simp [h]
end
section
variable {P:Program} {w:World}
mutual
def kh (P:Program) (w:World):PyData→Int
 | .int i=>(XI P w).hash (.inl i)
 | .str x=>(XI P w).hash (.inr x)
 | .tuple ds=>reduceHash (Builtin.Tuple.tupleHashOf (khs P w ds))
 | _=>0
def khs (P:Program) (w:World):List PyData→List Int
 | []=>[]
 | d::ds=>kh P w d::khs P w ds
end
mutual
def kdr:PyData→Nat
 | .int _=>1
 | .str _=>1
 | .tuple ds=>Wd ds+1
 | _=>0
def Wd:List PyData→Nat
 | []=>0
 | d::ds=>kdr d+Wd ds
end
theorem Yeb (a b:List PyData):khs P w (a++b)=khs P w a++khs P w b:=by
 induction a with
 | nil=>simp [khs]
 | cons x a ih=>simp [khs,ih]
theorem Ydd (a b:List PyData):Wd (a++b)=Wd a+Wd b:=by
 induction a with
 | nil=>simp [Wd]
 | cons x a ih=>simp [Wd,ih,Nat.add_assoc]
theorem Yde (a b:List PyData):PyData.depthAll (a++b)=max (PyData.depthAll a) (PyData.depthAll b):=by
 induction a with
 | nil=>simp [PyData.depthAll]
 | cons x a ih=>simp [PyData.depthAll,ih,Nat.max_assoc]
theorem Ul {s:Shared} {a:Addr} {o:Obj} (h1:s.heap.get? a=some o) (h2:o.cls = .type "tuple"):s.TypeIs (.ref a) "tuple":=⟨o,h1,h2⟩
theorem Ya5:∀ (n:Nat) {A:Around} {E:Value→Shared→Prop} {s:Shared} {v:Value} {d:PyData} {Q:Int→Shared→Prop},RK s.heap v d→d.depth≤n→A.units+n<cLine→Q (kh P w d) { s with toks:=s.toks+kdr d }→wpAny (model P w) A (pyHash v) Q E s
 | n,A,E,s,_,_,Q,.int i t,_,_,h=>(XI P w).pyHash (YdJ (k := .inl i) (show Yv (.int i) (.int i t) from ⟨t,rfl⟩)) (by simpa [kh,kdr] using h)
 | n,A,E,s,_,_,Q,.str x t _,_,_,h=>(XI P w).pyHash (YdJ (k := .inr x) (show Yv (.str x) (.str x t) from ⟨t,rfl⟩)) (by simpa [kh,kdr] using h)
 | 0,A,E,s,_,_,Q,.tup _ _ _ _,hd,_,h=>by simp [PyData.depth] at hd
 | n+1,A,E,s,_,_,Q,.tup (a:=a) (ds:=ds) h1 h2 h3 ks,hd,hu,h=>by
  have hT:=Ul h1 h2
  unfold pyHash
  first | unfold pyHashByItsType | skip
  first | refine wpAny_bind (wpAny_cRoomFor_or (.inr (by omega)) ?_) | skip
  refine wpAny_bind (wpAny_specialOf hT F.slot_tuple_hash.lookup ?_)
  show wpAny _ _ (if (some (Value.builtin "tuple.__hash__")==some Value.none)=true then _ else _) Q E s
  rw [if_neg (by rw [beq_builtin_none];exact Bool.false_ne_true)]
  refine wpAny_bind (wpAny_specialOf hT F.slot_tuple_hash.lookup ?_)
  refine wpAny_bind (wpAny_callSpecialIfBoundUnlessNone?_slot hT F.slot_tuple_hash (wpAny_call_entry F.slot_tuple_hash hT F.entry_tuple_hash ?_ (F.args_tuple_hash_1 _)))
  show wpAny _ _ (Builtin.Tuple.tupleItemsOf (.ref a) >>= _) _ _ s
  refine wpAny_bind (wpAny_tupleItemsOf h1 h3 ?_)
  refine wpAny_bind ?_
  rw [← Array.forIn_toList]
  have hdd:PyData.depthAll ds≤n:=by simp only [PyData.depth] at hd;omega
  refine wpAny_forIn_list _ (fun YY (b:Array Int) s'=>∃ done left,ds=done++left∧RKs s.heap YY left∧b.toList=khs P w done∧s'={ s with toks:=s.toks+Wd done }) _ ?_ ?_ _ _ ⟨[],ds,rfl,ks,by simp [khs],by simp [Wd]⟩
  ·rintro x YY b s' ⟨done,left,e,hl,hb,rfl⟩
   cases hl with
   | @cons _ d _ ds' hk hl' =>
    have hdk:d.depth≤n:=by
     rw [e,Yde] at hdd
     simp only [PyData.depthAll] at hdd
     omega
    have hin:A.in1.units+n<cLine:=by
     have:A.in1.units=A.units+1:=rfl
     omega
    refine wpAny_bind (Ya5 n (s:={ s with toks:=s.toks+Wd done }) hk hdk hin ?_)
    have fin:∃ done' left',ds=done'++left'∧RKs s.heap YY left'∧(b.push (kh P w d)).toList=khs P w done'∧({ s with toks:=s.toks+Wd done+kdr d }:Shared)={ s with toks:=s.toks+Wd done' } :=
     ⟨done++[d],ds',by rw [e];simp,hl',by rw [Yeb,Array.toList_push,hb];simp [khs],by rw [Ydd];simp [Wd,Nat.add_assoc]⟩
    first
     | exact wpAny_pure fin
     | exact wpAny_bind (wpAny_pure (wpAny_pure fin))
  ·rintro b s' ⟨done,left,e,hl,hb,rfl⟩
   cases hl
   rw [List.append_nil] at e
   subst e
   show wpAny _ _ (retInt (Builtin.Tuple.tupleHashOf b.toList)) _ _ _
   rw [hb]
   refine wpAny_ret_mkInt ?_
   simp only [kh,kdr] at h
   unfold reduceHash at h
   show wpAny _ _ (if (decide (-(2:Int)^63≤Builtin.Tuple.tupleHashOf (khs P w ds))&&decide (Builtin.Tuple.tupleHashOf (khs P w ds)<2^63))=true then _ else _) Q E _
   by_cases hr:(decide (-(2:Int)^63≤Builtin.Tuple.tupleHashOf (khs P w ds))&&decide (Builtin.Tuple.tupleHashOf (khs P w ds)<2^63))=true
   ·rw [if_pos hr]
    rw [if_pos hr] at h
    exact wpAny_pure (by simpa [Nat.add_assoc] using h)
   ·rw [if_neg hr]
    rw [if_neg hr] at h
    exact wpAny_bind (wpAny_rule (wpAny_pure (by simpa [Nat.add_assoc] using h)))
theorem QV:∀ (n:Nat) {A:Around} {E:Value→Shared→Prop} {s:Shared} {v:Value} {d:PyData} {Q:Bool→Shared→Prop},RK s.heap v d→d.depth≤n→Q true s→wpAny (model P w) A (eqIsQuiet n v) Q E s
 | n,A,E,s,_,_,Q,.int i t,_,h=>by rw [eqIsQuiet_byValue _ (by rfl)];exact wpAny_pure h
 | n,A,E,s,_,_,Q,.str x t _,_,h=>by rw [eqIsQuiet_byValue _ (by rfl)];exact wpAny_pure h
 | 0,A,E,s,_,_,Q,.tup _ _ _ _,hd,h=>by simp [PyData.depth] at hd
 | n+1,A,E,s,_,_,Q,.tup (a:=a) (ds:=ds) h1 h2 h3 ks,hd,h=>by
  have hT:=Ul h1 h2
  have hdd:PyData.depthAll ds≤n:=by simp only [PyData.depth] at hd;omega
  unfold eqIsQuiet
  refine wpAny_bind (wpAny_specialOf hT F.slot_tuple_eq.lookup ?_)
  refine wpAny_bind (wpAny_isInstance hT isSubtype_tuple_tuple ?_)
  simp only [Bool.not_true,Bool.false_eq_true,if_false]
  refine wpAny_bind (wpAny_seqItems h1 h3 ?_)
  refine wpAny_bind ?_
  rw [Option.getD_some,← Array.forIn_toList]
  refine wpAny_forIn_list _ (fun YY r s'=>r.1=none∧s'=s∧∃ left,RKs s.heap YY left∧PyData.depthAll left≤n) _ ?_ ?_ _ _ ⟨rfl,rfl,ds,ks,hdd⟩
  ·rintro v YY r s' ⟨hr,rfl,left,hl,hdl⟩
   cases hl with
   | @cons _ d _ ds' hk hl' =>
    simp only [PyData.depthAll] at hdl
    refine wpAny_bind (QV n hk (by omega) ?_)
    simp only [Bool.not_true,Bool.false_eq_true,if_false]
    exact wpAny_pure ⟨rfl,rfl,ds',hl',by omega⟩
  ·rintro ⟨r1,r2⟩ s' ⟨hr,rfl,_⟩
   simp only at hr
   subst hr
   exact wpAny_pure h
noncomputable def deepKind (P:Program) (w:World):HeapKind P w PyData where
 is:=fun h d a=>RK h (.ref a) d∧d.depth≤8
 hash:=kh P w
 draws:=kdr
 room:=fun A=>A.units+8<cLine
 inj:=fun hx hy=>hx.1.inj hy.1
 keeps:=fun x ho hd hs=>⟨x.1.keeps ho hd hs,x.2⟩
 pyHash:=fun hu hk h=>Ya5 8 hk.1 hk.2 hu h
 eqBool:=fun {A E s x y a b Q} hu hx hy h=>by
  obtain ⟨⟨as,r1⟩,l1⟩:=hx.1.reads
  obtain ⟨⟨bs,r2⟩,l2⟩:=hy.1.reads
  have hm:min x.depth y.depth≤8:=Nat.le_trans (Nat.min_le_left _ _) hx.2
  exact SeqAt.eqAt_reads x y A s _ _ _ _ r1 r2 l1 l2 (by omega) P w E Q (by rw [KO.eqv hx.1.ko hy.1.ko];exact h)
 quiet:=fun hk h=>QV 8 hk.1 hk.2 h
end
abbrev Dx:=List (PyData×Addr×Addr)
def dconv (x:PyData×Addr×Addr):PyData×Addr×Value:=(x.1,x.2.1,.ref x.2.2)
noncomputable def DDi (P:Program) (w:World) (a:Addr) (xs:Dx):HO := .ext fun h=>(a==sysModules)=false∧∃ o es ep,h.get? a=some o∧o.ExactDict∧o.data = .dict es ep∧es.toList=(xs.map dconv).map (entryOfKey (deepKind P w))
structure DK (K:PySem.W.Frag) (H:Hp) (b:Addr) (d:PyData):Prop where
 den:Den K H (.ref b) d
 ko:KO d
 dp:d.depth≤8
theorem DK.keep {K:PySem.W.Frag} {H H':Hp} {b:Addr} {d:PyData} (h:DK K H b d) (s:Yd H H'):DK K H' b d:=⟨h.den.keep s,h.ko,h.dp⟩
noncomputable def lookD (xs:Dx) (d:PyData):Option Addr:=(xs.find? fun x=>decide (x.1=d)).map (·.2.2)
structure DictD (P:Program) (w:World) (K:PySem.W.Frag) (H:Hp) (a:Addr) (xs:Dx):Prop where
 at_:H a=some (DDi P w a xs)
 nd:(xs.map (·.1)).Nodup
 len:xs.length≤1000
 keys:∀ x∈xs,DK K H x.2.1 x.1
section
variable {X:Cx} {pins:List (Addr×Obj)} {σ:St} {H:Hp} {s:Shared} {a b:Addr} {d:PyData} {xs:Dx} {u r:Value} {A:Around} {E:Value→Shared→Prop}
end
section
variable {X:Cx} {o i e value:Expr} {pos pos' tpos:Pos} {td ty tv:TE} {k:Nat}
end
def W9 (H H':Hp):Prop:=∀ b xs,Rd H b (.tup xs)→Rd H' b (.tup xs)
theorem W9.sq {K:PySem.W.Frag} {H H':Hp} (t:W9 H H') {b:Addr} {xs:List V} (h:SqT K H b xs):SqT K H' b xs:=by
 rcases h with h | h
 ·exact .inl (t _ _ h)
 ·exact .inr h
theorem W9.trans {H H1 H2:Hp} (a:W9 H H1) (b:W9 H1 H2):W9 H H2:=fun c xs e=>b c xs (a c xs e)
theorem Ydf {K:PySem.W.Frag} {H H':Hp} (t:W9 H H') {d:PyData} {v:V} (k:KO d) (r:Den K H v d):Den K H' v d:=by
 induction k using KO.rec (motive_2:=fun ds _=>∀ {vs:List V},Dens K H vs ds→Dens K H' vs ds) generalizing v with
 | int i=>cases r with | int _=>exact .int i
 | str x=>cases r with | str _ h=>exact .str x h
 | tup _ ih=>cases r with | tup h hs=>exact .tup (t.sq h) (ih hs)
 | nil=>rename_i r;cases r;exact .nil
 | cons _ _ ih ihs=>rename_i r;cases r with | cons a b=>exact .cons (ih a) (ihs b)
theorem DK.tupk {K:PySem.W.Frag} {H H':Hp} {b:Addr} {d:PyData} (h:DK K H b d) (t:W9 H H'):DK K H' b d:=⟨Ydf t h.ko h.den,h.ko,h.dp⟩
theorem DictD.keep {P:Program} {w:World} {K:PySem.W.Frag} {H H':Hp} {a:Addr} {xs:Dx} (h:DictD P w K H a xs) (t:W9 H H') (e:H' a=some (DDi P w a xs)):DictD P w K H' a xs:=⟨e,h.nd,h.len,fun x hx=>(h.keys x hx).tupk t⟩
section
variable {X:Cx} {k:Nat}
end
section
variable {X:Cx} {e:Expr} {f:Str} {pos:Pos} {ta:TE}
end
end L2
namespace L2
open PySem PySem.Spec PyProof.Rows
end L2
namespace L2
open PySem PySem.Spec PyProof.Rows
end L2
namespace L2
open PySem PySem.Spec PyProof.Rows
section
variable {M:Model} {A:Around} {E:Value→Shared→Prop} {s:Shared}
end
section
variable {X:Cx}
end
section
variable {X:Cx}
end
end L2
namespace L2
open PySem PySem.Spec PyProof.Rows
section
variable {M:Model} {A:Around} {E:Value→Shared→Prop} {s:Shared} {B:Heap} {env:Env} {outer l:List Env} {e L:Addr} {cls a0:Value} {Q:Unit→Shared→Prop}
end
section
variable {X:Cx} {pins:List (Addr×Obj)} {σ:St} {H H':Hp} {s s1 s':Shared} {B:Heap} {e C:Addr} {cls a0:Value} {M:Model} {A:Around} {Q:Unit→Shared→Prop} {EE:Value→Shared→Prop}
end
section
variable {prog:Program} {w:World} {A:Around} {R:Result→Shared→Prop} {s:Shared}
end
section
variable {X:Cx}
end
end L2
namespace L2
open PySem PySem.Spec PyProof.Rows
section
variable {prog:Program} {w:World} {A:Around} {E:Value→Shared→Prop} {s:Shared}
end
section
variable {X:Cx}
end
end L2
namespace L2
open PySem PySem.Spec PyProof.Rows
open Sem (wp)
section
variable {prog:Program} {w:World} {A:Around} {R:Result→Shared→Prop} {I:Addr} {fp wr:List Addr} {n:Nat} {P:Nat→Value→Prop} {St:Nat→Heap→Prop}
end
section
variable {prog:Program} {w:World} {A:Around} {E:Value→Shared→Prop} {s:Shared} {l:Addr} {xs:Array (Int×Tok)}
end
section
variable {X:Cx}
end
section
variable {X:Cx}
end
end L2
namespace L2
open PySem PySem.Spec PyProof.Rows PySem.Builtin.Str
section
variable {X:Cx}
end
end L2
namespace L2
open PySem PySem.Spec PyProof.Rows
section
variable {X:Cx}
end
end L2
namespace PySem.W
open PySem PyProof.Rows
open Builtin Builtin.ObjectAttr
section
variable {prog:Program} {w:World} {A:Around} {E:Value→Shared→Prop} {hh:Heap} {g:Array GenState} {d:Drawn} {t:Nat} {os:OsState} {K:Frag} {x C D:Addr} {ox:Obj} {mA:Str→Option Value} {f:Str} {v:Value}
end
section
variable {prog:Program} {w:World} {A:Around} {E:Value→Shared→Prop} {s:Shared} {K:Frag} {x C C' D:Addr} {ox:Obj} {od:Option Obj} {mA:Str→Option Value} {name:Str} {v:Value} {R:Result→Shared→Prop}
def excLine (K:Frag) (C C':Addr):Bool:=(clsIn K C).any fun cd=>cd.mro==[.ref C,.ref C',.type "ValueError",.type "Exception",.type "BaseException",.type "object"]
theorem Um {tk:Tok} (X:K.In s.heap) (I:InstAt s.heap x ox C od) (hm:excLine K C C'=true) (ha:findIn K (.ref C) name=some none)
  (h:wpAny (model prog w) A.in1 (storeInOwnDict (.ref x) (.ref C) (.str name tk) name v false)
   (fun fin s'=>match fin with | .done f=>R (.ok f) s' | .again c'=>c'.quiet=true∧codeAny (model prog w) A c' R s') (fun e s'=>R (.error e) s') s) :
  codeAny (model prog w) A (.call (.builtin "object.__setattr__") ⟨[.ref x,.str name tk,v],[]⟩) R s:=by
 have SF:=PySem.F.store_object
 obtain ⟨cd,hc,ho⟩:=any_some hm
 have ho:=eq_of_beq ho
 have sub:Looks (model prog w) s.heap (isInstance (.ref x) (.type "object")) true:=I.type.andThen (looks_mroIn X (by unfold mroIn;rw [hc,Option.bind_some,ho];rfl))
 refine codeAny_call_builtin SF.slot.plain SF.entry (@check_slot (model prog w) _ _ s "object.__setattr__" "object" "__setattr__" (.ref x) [.str name tk,v] [] _ SF.kind SF.split sub (SF.args (.ref x) (.str name tk) v) ?_)
 have hmro:Looks (model prog w) s.heap (mroOf (.ref C)) cd.mro:=(looks_clsIn X hc).andThen .now
 rw [osa_eq,refuse_eq]
 refine wpAny_bind (wpAny_bind (I.type.here (wpAny_bind (hmro.here ?_))))
 rw [ho,refuseLoop_ref,refuseLoop_ref,PySem.F.store_ValueError.passes]
 refine wpAny_pure (wpAny_bind (I.type.here (wpAny_bind ((looks_findIn X ha).here (wpAny_bind (wpAny_pure ?_))))))
 exact h
end
section
variable {prog:Program} {w:World} {A:Around} {E:Value→Shared→Prop} {s:Shared} {K:Frag} {x C C' D:Addr} {ox:Obj} {od:Option Obj} {mA:Str→Option Value} {name:Str} {v:Value} {vs:Array Value} {Q:Unit→Shared→Prop}
theorem QW (hf:ox.data = .fields vs):notCls ox=true:=by unfold notCls;rw [hf]
theorem exset_more {ns:List Str} (X:K.In s.heap) (hx:s.heap.get? x=some ox) (hc:ox.cls = .ref C) (hf:ox.data = .fields vs) (hdc:ox.dict=some D) (hn:s.heap.Ns1 D mA) (hne:D≠x) (hd:hasDictIn K C=true) (hm:excLine K C C'=true) (ha:findIn K (.ref C) name=some none)
  (hs:findIn K (.ref C) "__setattr__"=some (some (.builtin "object.__setattr__"))) (hw:PySem.Within mA ns) (hsz:ns.length≤sizeLine)
  (h:∀ h',h'.Ns1 D (fun y=>if y=name then some v else mA y)→Heap.SameBut D s.heap h'→Q () { s with heap:=h',toks:=s.toks+2 }):wpAny (model prog w) A (setAttr (.ref x) name v) Q E s:=by
 obtain ⟨oD,_,_,hoD0,_⟩:=id hn
 have J:InstAt s.heap x ox C (some oD):=⟨hx,hc,QW hf,by rw [hdc];exact hoD0⟩
 refine set_plain X J hs (Um (s:={ s with toks:=s.toks+1 }) (C':=C') X J hm ha ?_)
 obtain ⟨cd,hcd,hd'⟩:=any_some hd
 refine wpAny_bind (wpAny_pure (wpAny_bind (wpAny_bind (wpAny_loadPart hx ?_))))
 simp only [hc]
 refine wpAny_bind (Looks.here (s:={ s with toks:=s.toks+1 }) (looks_clsIn X hcd) ?_)
 rw [hd',hdc]
 refine wpAny_pure (a:=some D) (wpAny_bind (wpAny_pure (wpAny_bind ?_)))
 refine wpAny_nsSet1 (s:={ s with toks:=s.toks+1 }) hn fun h' hn2 hs2=>?_
 obtain ⟨oD,esD,epD,hoD,hdD,hcD⟩:=hn2.count (PySem.Within.cons name v hw)
 refine wpAny_bind (wpAny_lookBehind hoD (by rw [hdD];exact pastItsLine_dict (Nat.le_trans hcD (by rw [List.length_cons];omega))) ?_)
 exact wpAny_pure (h _ hn2 hs2)
theorem exset_new (X:K.In s.heap) (hx:s.heap.get? x=some ox) (hc:ox.cls = .ref C) (hf:ox.data = .fields vs) (hdc:ox.dict=none) (hd:hasDictIn K C=true) (hm:excLine K C C'=true) (ha:findIn K (.ref C) name=some none)
  (hs:findIn K (.ref C) "__setattr__"=some (some (.builtin "object.__setattr__")))
  (h:∀ h',h'.Ns1 s.heap.objs.size (fun y=>if y=name then some v else none)→h'.get? x=some { ox with dict:=some s.heap.objs.size }→(∀ b o,b≠x→s.heap.get? b=some o→h'.get? b=some o)→Q () { s with heap:=h',toks:=s.toks+2 }):wpAny (model prog w) A (setAttr (.ref x) name v) Q E s:=by
 have J:InstAt s.heap x ox C none:=⟨hx,hc,QW hf,by rw [hdc];exact True.intro⟩
 refine set_plain X J hs (Um (s:={ s with toks:=s.toks+1 }) (C':=C') X J hm ha ?_)
 obtain ⟨cd,hcd,hd'⟩:=any_some hd
 refine wpAny_bind (wpAny_pure (wpAny_bind (wpAny_bind (wpAny_loadPart hx ?_))))
 simp only [hc]
 refine wpAny_bind (Looks.here (s:={ s with toks:=s.toks+1 }) (looks_clsIn X hcd) ?_)
 rw [hd',hdc,hf]
 rw [if_neg (by decide)]
 dsimp only
 rw [if_neg (by simp [typeHasDict])]
 have hx₁:(s.heap.push { cls := .type "dict",data := .dict #[] }).get? x=some ox:=Heap.get?_push_of_some _ hx
 have hxs:x≠s.heap.objs.size:=Nat.ne_of_lt (Heap.lt_size hx)
 refine wpAny_bind (wpAny_alloc' (wpAny_bind (wpAny_update' hx₁ (wpAny_pure ?_))))
 generalize hH:(s.heap.push { cls := .type "dict",data := .dict #[] }).update x (fun o=>{ cls:=o.cls,dict:=some s.heap.objs.size,data:=o.data,slots:=o.slots })=H2
 have hgd:H2.get? s.heap.objs.size=some { cls := .type "dict",data := .dict #[] }:=by
  rw [← hH]
  exact (Heap.get?_update_ne _ _ _ _ hxs.symm).trans (Heap.get?_push_at rfl rfl)
 have hx2:H2.get? x=some { cls:=ox.cls,dict:=some s.heap.objs.size,data:=ox.data,slots:=ox.slots }:=by
  rw [← hH]
  refine Heap.get?_update_self _ hx₁ ?_
  have hfr:=(Heap.get?_some_iff.mp hx).2
  obtain ⟨oc,od,odt,osl⟩:=ox
  cases odt<;>first | rfl | exact hfr
 have hko:∀ b o,b≠x→s.heap.get? b=some o→H2.get? b=some o:=fun b o hb e=>by
  rw [← hH]
  exact (Heap.get?_update_ne _ _ _ _ hb).trans (Heap.get?_push_of_some _ e)
 have hnd:H2.Ns s.heap.objs.size (fun _=>none):=⟨_,#[],_,hgd,rfl,fun e he=>absurd he (by simp),fun _=>rfl⟩
 refine wpAny_bind (wpAny_pure (wpAny_bind ?_))
 refine wpAny_nsSet1 (s:={ s with heap:=H2,toks:=s.toks+1 }) (Heap.Ns1.of_empty hnd) fun h' hn2 hs2=>?_
 obtain ⟨oD,esD,epD,hoD,hdD,hcD⟩:=hn2.count (PySem.Within.cons name v PySem.Within.nil)
 refine wpAny_bind (wpAny_lookBehind hoD (by rw [hdD];exact pastItsLine_dict (Nat.le_trans hcD (by rw [List.length_cons,List.length_nil,sizeLine_eq];omega))) ?_)
 exact wpAny_pure (h _ hn2 ((hs2.2 x hxs).trans hx2) fun b o hb e=>(hs2.2 b (Nat.ne_of_lt (Heap.lt_size e))).trans (hko b o hb e))
end
end PySem.W
namespace PySem.W
open PySem PyProof.Rows
theorem YbM {K:Frag} {h:Heap} {N:Addr} {mg:Str→Option Value} {n:Str} {v:Value} (X:K.In h) (G:h.Ns N mg) (e:nsIn K N n=some (some v)):mg n=some v:=by
 obtain ⟨o,es,ep,ho,hd,_,hf⟩:=G
 unfold nsIn at e
 split at e
 ·rename_i c d es' n' sl q
  have:=X _ _ q
  rw [ho] at this
  cases this
  cases hd
  split at e
  ·rename_i he
   rw [← hf]
   unfold nsFind findBy
   rw [← Array.find?_toList,he]
   cases e
   rfl
  ·split at e<;>cases e
 ·cases e
def excOwn (K:Frag) (C:Addr) (tl:List Value) (nw:String) (f:Addr):Bool:=match K.lookup C with
 | some ⟨.type "type",_,.cls cd,sl⟩=>(match cd.mro,sl.toList with
  | .ref c::bm,[_,_,_,_,some (.builtin n),_]=>(c==C&&n==nw)&&((!cd.hasDel&&tailIn K tl bm)&&(nsOkIn K cd.ns&&nsIn K cd.ns "__init__"==some (some (.ref f))))
  | _,_=>false)
 | _=>false
theorem excOwn_obj {K:Frag} {h:Heap} {C f:Addr} {tl:List Value} {nw:String} (In:K.In h) (q:excOwn K C tl nw f=true) :
  ∃ (bm:List Value) (ns:Addr) (nm qn:Str) (bs:List Value) (hd:Bool) (sn:List Str) (sub:List Value) (ab:Bool) (col:Option Bool) (dd:Option Addr) (k0 k1 k2 k3 k5:Option Value) (mN:Str→Option Value),
   h.get? C=some (excClassObj nm qn C ns bs bm hd sn sub ab col dd k0 k1 k2 k3 k5 nw)∧h.Ns ns mN∧mN "__init__"=some (.ref f)∧OwnTail h tl bm:=by
 unfold excOwn at q
 split at q
 case h_2=>exact absurd q (by decide)
 case h_1 dd cd sl lk =>
  split at q
  case h_2=>exact absurd q (by decide)
  case h_1 c2 bm k0 k1 k2 k3 n k5 em es =>
   simp only [beq_iff_eq,Bool.and_eq_true,Bool.not_eq_true'] at q
   obtain ⟨⟨q1,q2⟩,⟨q3,q4⟩,q5,q6⟩:=q
   obtain ⟨nm,bs,mro,ns,qn,hd,sn,sub,ab,col,del⟩:=cd
   obtain ⟨lst⟩:=sl
   dsimp only at em q3 q5 q6 es
   subst q1 q2 em q3 es
   have hN:h.Ns ns _ := .of_isNs (isNs_of_in In q5)
   exact ⟨bm,ns,nm,qn,bs,hd,sn,sub,ab,col,dd,k0,k1,k2,k3,k5,_,In _ _ lk,hN,YbM In hN q6,tail_of_in In q4⟩
abbrev WK (a0:Value):Array Value:=#[a0,.none,.none,.none,.bool false,.none]
section
variable {prog:Program} {w:World} {A:Around} {E:Value→Shared→Prop} {h:Heap} {g:Array GenState} {d:Drawn} {t:Nat} {os:OsState}
variable {nm q:Str} {C N:Addr} {bs bm bmB:List Value} {hdct:Bool} {sn:List Str} {sub:List Value} {ab:Bool} {col:Option Bool} {dd:Option Addr} {k0 k1 k2 k3 k5:Option Value} {B newId initId:String}
theorem Ql (F:ExcBaseFacts B newId initId bmB) (T:OwnTail h bmB bm) {mN:Str→Option Value} {YY:List Value} {fI:Addr} {oI:Obj} {Q:Fin→Shared→Prop}
  (hC:h.get? C=some (excClassObj nm q C N bs bm hdct sn sub ab col dd k0 k1 k2 k3 k5 newId)) (hn:h.Ns N mN) (hi:mN "__init__"=some (.ref fI))
  (hfI:h.get? fI=some oI) (hfc:oI.cls = .type "function")
  (hq:∀ h' e,Heap.MadeExcOf h h' e (.ref C) YY→e=h.objs.size+1 →
   wpAny (model prog w) A (call (.ref fI) (.ref e::YY)) (fun r s'=>r = .none∧Q (.done (.ret (.ref e))) s') E ⟨h',g,d,t,os⟩) (hrest:YY.length≤sizeLine) :
  wpAny (model prog w) A (Builtin.«type.__call__» ⟨.ref C::YY,[]⟩) Q E ⟨h,g,d,t,os⟩:=by
 repeat (first | with_reducible refine wpAny_loadPart_at hC ?_ | with_reducible refine wpAny_madeBy_exc hC ?_ | wp_step)
 refine codeAny_call_builtin_code (Code.quiet_builtin _ F.quiet) (wpAny_check_new_subT F T hC ?_)
 refine codeAny_exc_new_subT F T hC ?_ hrest
 show wpAny _ _ _ _ _ _
 have keep:∀ b o,h.get? b=some o→((h.push { cls := .type "tuple",data := .seq YY.toArray }).push { cls := .ref C,data := .fields #[.ref h.objs.size,.none,.none,.none,.bool false,.none] }).get? b=some o :=
  fun b o e=>Heap.get?_push_of_some _ (Heap.get?_push_of_some _ e)
 have hget:((h.push { cls := .type "tuple",data := .seq YY.toArray }).push
   { cls := .ref C,data := .fields #[.ref h.objs.size,.none,.none,.none,.bool false,.none] }).get? (h.objs.size+1)=some
   { cls := .ref C,data := .fields #[.ref h.objs.size,.none,.none,.none,.bool false,.none] }:=by heap_get
 have hC₁:=keep _ _ hC
 have hn₁:=hn.keeps keep
 have hcC:(Value.ref C::bm).contains (.ref C)=true:=by simp
 have T₁:=T.keeps keep
 unfold isInstance
 repeat (first | with_reducible refine wpAny_loadPart_at hget ?_ | (with_reducible refine wpAny_isSubtype_exc hC₁ ?_;rw [hcC]) | wp_step)
 show wpAny _ _ (typeLookup (.ref C) _) _ _ _
 refine wpAny_typeLookup_tail hC₁ hn₁ T₁ F.mroIs F.init.lookup ?_
 rw [hi]
 refine wpAny_holding (wpAny_bind ?_)
 unfold bindSpecial
 refine wpAny_bind (wpAny_typeOf (T:="function") ⟨_,keep _ _ hfI,hfc⟩ ?_)
 rw [if_pos (by decide)]
 refine wpAny_pure (wpAny_bind (wpAny_mono (hq _ (h.objs.size+1) ⟨keep,Heap.get?_none_of_le (Nat.le_succ _),h.objs.size,hget,Heap.get?_none_of_le (Nat.le_refl _),?_⟩ rfl) (fun r s' hr=>?_) fun _ _ x=>x))
 ·exact Heap.get?_push_of_some _ (Heap.get?_push_at rfl rfl)
 ·obtain ⟨rfl,hQ⟩:=hr
  wp_walk
  exact hQ
theorem exc_make_call (F:ExcBaseFacts B newId initId bmB) (T:OwnTail h bmB bm) {mN:Str→Option Value} {YY:List Value} {fI:Addr} {oI:Obj} {Q:Value→Shared→Prop}
  (hC:h.get? C=some (excClassObj nm q C N bs bm hdct sn sub ab col dd k0 k1 k2 k3 k5 newId)) (hn:h.Ns N mN) (hi:mN "__init__"=some (.ref fI))
  (hfI:h.get? fI=some oI) (hfc:oI.cls = .type "function")
  (hq:∀ h' e,Heap.MadeExcOf h h' e (.ref C) YY→e=h.objs.size+1 →
   wpAny (model prog w) (A.under (.builtin "type.__call__" ⟨.ref C::YY,[]⟩)) (call (.ref fI) (.ref e::YY)) (fun r s'=>r = .none∧Q (.ref e) s') E ⟨h',g,d,t,os⟩) (hrest:YY.length≤sizeLine) :
  wpAny (model prog w) A (call (.ref C) YY) Q E ⟨h,g,d,t,os⟩:=by
 have f1:=tc_lookup
 have f2:=tc_bind (.ref C)
 have hT:(⟨h,g,d,t,os⟩:Shared).TypeIs (.ref C) "type":=⟨_,hC,rfl⟩
 refine wpAny_call (codeAny_of_tree ?_)
 show wpAny _ _ (callAny (.ref C) _) _ _ _
 repeat (any_goals (first | assumption | with_reducible refine wpAny_loadPart_at hC ?_ | wp_step))
 refine ⟨rfl,?_⟩
 exact codeAny_call_builtin_at (Code.quiet_builtin _ (by decide +kernel)) entry_typeCall (wpAny_check_type_call_sub hC (Ql F T hC hn hi hfI hfc (fun h' e hm he=>hq h' e hm he) hrest))
theorem exc_base_init (F:ExcBaseFacts B newId initId bmB) (T:OwnTail h bmB bm) {e:Addr} {dc:Option Addr} {sl:Array (Option Value)} {t0:Addr} {m:Value} {Q:Value→Shared→Prop}
  (hC:h.get? C=some (excClassObj nm q C N bs bm hdct sn sub ab col dd k0 k1 k2 k3 k5 newId)) (he:h.get? e=some ⟨.ref C,dc,.fields (WK (.ref t0)),sl⟩)
  (hq:∀ h' T,h'.get? e=some ⟨.ref C,dc,.fields (WK (.ref T)),sl⟩→(∀ b o,b≠e→h.get? b=some o→h'.get? b=some o)→Q .none ⟨h',g,d,t,os⟩) :
  wpAny (model prog w) A (call (.builtin initId) [.ref e,m]) Q E ⟨h,g,d,t,os⟩:=by
 refine wpAny_call (codeAny_call_builtin F.init.plain F.initEntry (wpAny_check_init_subT F T hC he rfl ?_))
 have he1:(h.push { cls := .type "tuple",data := .seq [m].toArray }).get? e=some ⟨.ref C,dc,.fields (WK (.ref t0)),sl⟩:=Heap.get?_push_of_some _ he
 wp_walk
 refine hq _ h.objs.size ((Heap.get?_update_self _ he1 rfl).trans rfl) fun b o hb eb=>?_
 exact (Heap.get?_update_other _ _ (Ne.symm hb)).trans (Heap.get?_push_of_some _ eb)
end
section
variable {M:Model} {A:Around} {E:Value→Shared→Prop} {env:Env}
variable {nm q:Str} {C N:Addr} {bs bm bmB:List Value} {hdct:Bool} {sn:List Str} {sub:List Value} {ab:Bool} {col:Option Bool} {dd:Option Addr} {k0 k1 k2 k3 k5:Option Value} {B newId initId:String}
theorem WX {s:Shared} {x:Sem Value} {Q:Flow→Shared→Prop} (hbase:bm.contains (.type "BaseException")=true) (hh:A.handled=none)
  (h:wpAny M A x (fun v s₁=>∃ e dc t0 sl,v = .ref e∧s₁.heap.get? C=some (excClassObj nm q C N bs bm hdct sn sub ab col dd k0 k1 k2 k3 k5 newId)∧s₁.heap.get? e=some ⟨.ref C,dc,.fields (WK (.ref t0)),sl⟩∧E (.ref e) s₁) E s) :
  wpAny M A (raiseStmt env (some x) none) Q E s:=by
 have hcB:(Value.ref C::bm).contains (.type "BaseException")=true:=by rw [List.contains_cons,hbase,Bool.or_true]
 unfold raiseStmt
 refine wpAny_bind (wpAny_mono h (fun v s₁ h₁=>?_) fun _ _ x=>x)
 obtain ⟨e,dc,t0,sl,rfl,hC,he,hE⟩:=h₁
 obtain ⟨hp,g,d,tk,os⟩:=s₁
 repeat (first | with_reducible refine wpAny_loadPart_at he ?_ | with_reducible refine wpAny_loadPart_at hC ?_ | (with_reducible refine wpAny_isSubtype_exc hC ?_;rw [hcB]) | wp_step)
 exact wpAny_raiseNew_none hh hE
end
section
variable {prog:Program} {w:World} {A:Around} {E:Value→Shared→Prop} {s:Shared} {env:Env}
variable {nm q:Str} {C N:Addr} {bs bm bmB:List Value} {hdct:Bool} {sn:List Str} {sub:List Value} {ab:Bool} {col:Option Bool} {dd:Option Addr} {k0 k1 k2 k3 k5:Option Value} {B newId initId:String}
theorem exc_raise_call {x:Str} {np cpos pos:Pos} {args:List Expr} {Q:Flow→Shared→Prop}
  (hbase:bm.contains (.type "BaseException")=true) (hh:A.handled=none) (hplain:(backTo cpos (starEach args env)).any (·.1)=false)
  (h:wpAny (model prog w) A (eval (.Name x np) env) (fun f s₁=>f = .ref C∧wpAny (model prog w) A (evalArgs (.ref C) true (backTo cpos (starEach args env)) [])
   (fun a s₂=>a.kw=[]∧s₂.heap.get? C=some (excClassObj nm q C N bs bm hdct sn sub ab col dd k0 k1 k2 k3 k5 newId) ∧
    wpAny (model prog w) A (call (.ref C) a.pos) (fun v s₃=>∃ e dc t0 sl,v = .ref e∧s₃.heap.get? C=some (excClassObj nm q C N bs bm hdct sn sub ab col dd k0 k1 k2 k3 k5 newId)∧s₃.heap.get? e=some ⟨.ref C,dc,.fields (WK (.ref t0)),sl⟩∧E (.ref e) s₃) E s₂) E s₁) E s) :
  wpAny (model prog w) A (exec (.Raise (some (.Call (.Name x np) args [] cpos)) none pos) env) Q E s:=by
 rw [arm_exec_Raise]
 first
  | refine wpAny_bind (wpAny_standAt (WX (C:=C) (nm:=nm) (q:=q) (N:=N) (bs:=bs) (bm:=bm) (hdct:=hdct) (sn:=sn) (sub:=sub) (ab:=ab) (col:=col) (dd:=dd) (k0:=k0) (k1:=k1) (k2:=k2) (k3:=k3) (k5:=k5) (newId:=newId) hbase hh (wpAny_bind (wpAny_mono (wpAny_Call_ofName (wpAny_mono h (fun f s₁ h₁=>?_) fun _ _ x=>x)) (fun v s₃ h₃=>wpAny_bind (wpAny_standAt (wpAny_pure h₃))) fun _ _ x=>x))))
  | (refine wpAny_bind (wpAny_standAt (WX (C:=C) (nm:=nm) (q:=q) (N:=N) (bs:=bs) (bm:=bm) (hdct:=hdct) (sn:=sn) (sub:=sub) (ab:=ab) (col:=col) (dd:=dd) (k0:=k0) (k1:=k1) (k2:=k2) (k3:=k3) (k5:=k5) (newId:=newId) hbase hh ?_));refine wpAny_bind (wpAny_mono (wpAny_Call_ofName (wpAny_mono h (fun f s₁ h₁=>?_) fun _ _ x=>x)) (fun v s₃ h₃=>wpAny_bind (wpAny_standAt (wpAny_pure h₃))) fun _ _ x=>x))
 obtain ⟨rfl,h₁⟩:=h₁
 unfold callWith
 refine wpAny_bind (wpAny_holding (wpAny_mono h₁ (fun a s₂ h₂=>wpAny_bind (wpAny_standAt ?_)) fun _ _ x=>x))
 obtain ⟨apos,akw⟩:=a
 obtain ⟨hkw,hC,h₂⟩:=h₂
 obtain rfl:akw=[]:=hkw
 obtain ⟨hp,g,d,tk,os⟩:=s₂
 simp only [hplain]
 refine wpAny_bind (wpAny_keeperOf_exc hC ?_)
 exact wpAny_bind (wpAny_mono h₂ (fun v s₃ h₃=>wpAny_bind (wpAny_holding (wpAny_point (wpAny_pure h₃)))) fun _ _ x=>x)
end
end PySem.W
namespace L2
open PySem PySem.Spec PyProof.Rows
open PySem.W (WK)
def XD (a:Addr) (cls:Value) (dc:Option Addr):HO := .ext fun h=>∃ t0 sl,h.get? a=some ⟨cls,dc,.fields (WK (.ref t0)),sl⟩
def del (H:Hp) (a:Addr):Hp:=fun b=>if b=a then none else H b
theorem Ydg {H:Hp} {a:Addr}:del H a a=none:=by unfold del;rw [if_pos rfl]
theorem WG {H:Hp} {a b:Addr} (h:b≠a):del H a b=H b:=by unfold del;rw [if_neg h]
theorem YeX {H:Hp} {a b:Addr} {o:HO} (h:del H a b=some o):b≠a∧H b=some o:=by
 unfold del at h
 split at h
 ·cases h
 ·exact ⟨‹_›,h⟩
section
variable {P:Program} {w:World} {H:Hp} {h:Heap} {a t0:Addr} {cls:Value} {dc:Option Addr} {sl:Array (Option Value)}
theorem UF (q:h.get? a=some ⟨cls,dc,.fields (WK (.ref t0)),sl⟩):YK P w H h a (XD a cls dc):=⟨⟨t0,sl,q⟩,⟨_,q⟩,fun h1 h2 ⟨t,sl,p⟩ k=>⟨t,sl,k _ p⟩⟩
end
section
variable {X:Cx} {pins:List (Addr×Obj)} {σ:St} {H:Hp} {s:Shared} {e:Addr} {cls:Value} {M:Model} {A:Around} {Q:Unit→Shared→Prop} {EE:Value→Shared→Prop} {dc:Option Addr}
theorem Inv.leave_excN (I:Inv X pins σ H s) (hs:X.stack=X.env::X.outer) (hf:X.env.frame=some X.env.locals) (hex:X.ex=[]) (hA:A.frames=some (X.env::X.outer)) (he:H e=some (XD e cls dc)) (hnew:X.s₀.heap.get? e=none)
  (hQ:∀ h'' B,Fly X.prog X.w X.outer X.H₀ X.s₀.heap e cls (del H e) h'' B→XF h'' e dc→Q () { s with heap:=h'' }):wpAny M A (leaving X.env (.ref e)) Q EE s:=by
 have nx:∀ b:Addr,b∉X.ex:=by
  rw [hex]
  intro b z
  cases z
 have st:=I.stack
 have sf:=I.stkFree
 rw [hs] at st sf
 obtain ⟨⟨t0,sl,q0⟩,_,_⟩:=I.hok e _ he
 have hne:∀ b o,X.s₀.heap.get? b=some o→b≠e:=fun b o q z=>by rw [z,hnew] at q;cases q
 have hd0:XF s.heap e dc:=⟨_,q0,rfl⟩
 have hstays:(PySem.W.hideAll s.heap (e::frs (X.env::X.outer))).StaysIn s.heap:=fun b o q=>PySem.W.of_hideAll _ q
 refine wpAny_mono (QQ (Vo _ _) hd0 (wpAny_leaving_firstW (Q:=fun _ s'=>∃ h'',s'={ s with heap:=h'' }∧Fly X.prog X.w X.outer X.H₀ X.s₀.heap e cls (del H e) h'' (PySem.W.hideAll s.heap (e::frs (X.env::X.outer)))) (a0 := .ref t0) (base:=PySem.W.hideAll s.heap (e::frs (X.env::X.outer))) hA (PySem.W.funFrames_hide st fun env he a ha=>List.mem_cons_of_mem _ (List.mem_filterMap.mpr ⟨env,he,ha⟩)) hf q0 hstays (PySem.W.hideAll_none _ (List.mem_cons_self ..)) rfl rfl rfl fun h'' hL=>⟨h'',rfl,?_⟩)) (fun _ s' z=>by
  obtain ⟨⟨h'',rfl,F⟩,d⟩:=z
  exact hQ h'' _ F d) fun _ _ z=>z.1
 obtain ⟨k1,⟨_,_,k2⟩,k3,k4⟩:=hL
 have notIn:∀ b o,X.s₀.heap.get? b=some o→b∉frs X.outer→b∉e::frs (X.env::X.outer):=fun b o q nb z=>by
  rcases List.mem_cons.mp z with z | z
  ·exact hne b o q z
  ·exact I.notStk hf q nb z
 refine ⟨⟨_,k1,PySem.W.hideAll_none _ (List.mem_cons_self ..),k2,k3⟩,fun b u q=>?_,fun b o q n nb=>PySem.W.hideAll_get _ (I.base.keep b o q n nb (nx b)) (notIn b o q nb),fun b o q n hb=>?_,fun b o q nb=>?_,fun b o q n=>?_,fun b xs q=>?_,fun b o u q=>?_,fun b ps q=>?_⟩
 ·obtain ⟨nb,q⟩:=YeX q
  refine (I.hok b u q).stay (fun c v hc r=>PySem.W.hideAll_get _ r fun z=>?_) (fun c r=>?_) fun c xs r=>?_
  ·rcases List.mem_cons.mp z with z | z
   ·subst z
    rcases hc with hc | hc
    ·exact nb hc.symm
    ·rw [he] at hc;cases hc
   ·have n:=sf c z
    rcases hc with rfl | hc
    ·rw [n] at q;cases q
    ·rw [n] at hc;cases hc
  ·rw [WG fun z=>by rw [z,he] at r;cases r];exact r
  ·rw [WG fun z=>by rw [z,he] at r;cases r];exact r
 ·obtain ⟨sl,e1⟩:=I.base.slot b o q n hb (nx b)
  obtain ⟨_,o',e',d⟩:=I.ok.funs.mem hb
  rw [q] at e'
  cases e'
  obtain ⟨sl',e2⟩:=k4 b _ e1 d
  exact ⟨sl',e2⟩
 ·obtain ⟨o',e1⟩:=I.base.there b o q (nx b)
  exact ⟨o',PySem.W.hideAll_get _ e1 (notIn b o q nb)⟩
 ·rw [WG (hne b o q)];exact I.base.free b o q n (nx b)
 ·have z:=I.base.tups b xs q
  rw [WG fun y=>by rw [y,he] at z;cases z];exact z
 ·have z:=I.base.frzs b o u q
  rw [WG fun y=>by rw [y,he] at z;cases z];exact z
 ·obtain ⟨m,z⟩:=I.base.tbls b ps q
  exact ⟨m,by rw [WG fun y=>by rw [y,he] at z;cases z];exact z⟩
end
def Ya6 (X:Cx) (E:XK):Prop:=∀ (pins:List (Addr×Obj)) (σ:St) (H:Hp) (s:Shared) (e:Addr) (cls:Value) (dc:Option Addr),Inv X pins σ H s→H e=some (XD e cls dc)→(∀ o,X.s₀.heap.get? e=some o→e∈X.ex)→E cls dc (del H e)→X.xe (.ref e) s
section
variable {g:Gx} {N:List Str} {qual:Str} {st:Stmt} {f:Addr} {cdv:Value} {A:Around} {outer:List Env} {s:Shared} {H:Hp} {E:XK}
theorem YeY:Ya6 (g.cxX N qual st f cdv A outer s H E) E:=by
 intro pins σ H1 s1 e cls dc I he hn q
 exact I.leave_excN rfl rfl rfl I.ok.frames he (by
  cases hq:s.heap.get? e with
  | none=>exact hq
  | some o=>exact absurd (hn o hq) (by simp [Wa])) fun h'' B F hd=>⟨e,cls,del H1 e,B,dc,rfl,I.os,I.bare,F,hd,q⟩
end
def Wr (a:Addr) (fs:List (Str×V)):HO := .ext fun h=>∃ mA,h.Ns1 a mA∧(∀ f,Uu (fs.lookup f) (mA f))∧PySem.Within mA (fs.map (·.1))
structure MkX (K:PySem.W.Frag) (C f:Addr):Prop where
 own:PySem.W.excOwn K C Uh "ValueError.__new__" f=true
 fn:PySem.W.isFn K (.ref f)=true
section
variable {X:Cx} {pins:List (Addr×Obj)} {σ:St} {H:Hp} {s:Shared} {C f:Addr} {k:Nat} {fd:FuncData} {ps:List Str} {sp:Sp} {ds:List Value} {dvs:List V} {E:XK} {CX:CXT}
theorem Ydh {Q:VK} {us:List Value} {vs:List V} (M:MkX X.K C f) (F:FnOk X.prog X.w X.K X.mg X.base CX k f fd ps sp) (hr:Room (k+1) X.A) (hb:Xr X.K fd ps ds) (hd:Yl dvs ds)
  (hx:WQ CX X E) (I:Inv X pins σ H s) (r:Yl vs us) (hz:us.length≤sizeLine)
  (h:∀ x,H x=none→s.heap.get? x=none→sp (.ref x::(vs++dvs)) (upd H x (XD x (.ref C) none)) (fun v H2=>v = .non∧Q (.ref x) H2) E) :
  wpAny (model X.prog X.w) X.A (call (.ref C) us) (EP X pins σ Q) X.xe s:=by
 obtain ⟨bm,ns,nm,qn,bs,hdd,sn,sub,ab,col,dd,k0,k1,k2,k3,k5,mN,hO,hN,hi,T⟩:=PySem.W.excOwn_obj I.kIn M.own
 obtain ⟨oI,ho,hoc⟩:=Option.map_eq_some_iff.mp (beq_iff_eq.mp M.fn)
 obtain ⟨hh,gg,dr,tk,os⟩:=s
 refine PySem.W.exc_make_call PySem.F.excBase_ValueError T hO hN hi (I.kIn _ _ ho) hoc (fun h' x hm ex=>?_) hz
 obtain ⟨t0,he,_,_⟩:=hm.there
 have hq:=h x (I.hok.fresh (by rw [ex];exact Nat.le_succ _)) hm.new
 have I2:Inv X pins σ (upd H x (XD x (.ref C) none)) ⟨h',gg,dr,tk,os⟩:=I.laid (t':=tk) (a:=x) (o:=XD x (.ref C) none) (fun b u q=>hm.keeps b u q) (by rw [ex];exact Nat.le_succ _) (UF he)
 have r2:Yl (V.ref x::(vs++dvs)) (Value.ref x::(us++ds)) := .cons rfl (r.append hd)
 have hl:(Value.ref x::us++ds).length=ps.length:=by
  have e:=r2.length
  rw [F.len _ _ _ _ hq] at e
  exact e.symm
 refine wpAny_call (codeAny_mono (F.run _ X.stack _ _ ⟨Value.ref x::us,[]⟩ (Value.ref x::(us++ds)) _ _ E (hr.make C us []) (I2.env0.make C us []) (hb _ (Value.ref x::us) I2.kIn hl) r2 hq) fun r s' hq'=>?_)
 cases r with
 | error e=>exact hx pins σ _ _ e s' I2 hq'
 | ok fl =>
  cases fl with
  | ret u =>
   obtain ⟨v,H',I3,rv,ev,q3⟩:=I2.after hq'
   subst ev
   exact ⟨rv,⟨V.ref x,H',I3,rfl,q3⟩⟩
  | next=>exact False.elim hq'
  | brk=>exact False.elim hq'
  | cont=>exact False.elim hq'
end
structure ExFl (K:PySem.W.Frag) (C C':Addr):Prop where
 hd:PySem.W.hasDictIn K C=true
 ln:PySem.W.excLine K C C'=true
 sa:PySem.W.findIn K (.ref C) "__setattr__"=some (some (.builtin "object.__setattr__"))
section
variable {P:Program} {w:World} {H:Hp} {h:Heap} {a:Addr} {fs:List (Str×V)} {mA:Str→Option Value}
theorem Ya7 (n:h.Ns1 a mA) (r:∀ f,Uu (fs.lookup f) (mA f)) (wi:PySem.Within mA (fs.map (·.1))):YK P w H h a (Wr a fs):=by
 obtain ⟨od,es,ep,e,c⟩:=id n
 exact ⟨⟨mA,n,r,wi⟩,⟨od,e⟩,fun h1 h2 ⟨mB,⟨od,es,ep,e,c⟩,r,wi⟩ k=>⟨mB,⟨od,es,ep,k _ e,c⟩,r,wi⟩⟩
end
section
variable {X:Cx} {pins:List (Addr×Obj)} {σ:St} {H:Hp} {s:Shared} {C C' a d:Addr} {f:Str} {y:V} {u:Value} {Q:Unit→Shared→Prop} {A:Around} {E:Value→Shared→Prop} {fs:List (Str×V)}
theorem Ydi (I:Inv X pins σ H s) (c:ExFl X.K C C') (na:PySem.W.findIn X.K (.ref C) f=some none) (e:H a=some (XD a (.ref C) none)) (ry:Yv y u)
  (h:∀ d s',H d=none→d≠a→Inv X pins σ (upd (upd H d (Wr d [(f,y)])) a (XD a (.ref C) (some d))) s'→Q () s'):wpAny (model X.prog X.w) A (setAttr (.ref a) f u) Q E s:=by
 obtain ⟨⟨t0,sl,q0⟩,_,_⟩:=I.hok a _ e
 refine PySem.W.exset_new I.kIn q0 rfl rfl rfl c.hd c.ln na c.sa fun h' n1 ha hk=>?_
 have hfr:H s.heap.objs.size=none:=I.hok.fresh (Nat.le_refl _)
 have hne:s.heap.objs.size≠a:=fun z=>by rw [z,e] at hfr;cases hfr
 have ned:∀ b o,s.heap.get? b=some o→b≠s.heap.objs.size:=fun b o q=>Nat.ne_of_lt (Heap.lt_size q)
 have nea:∀ b,H b=none→b≠a:=fun b q z=>by rw [z,e] at q;cases q
 have oth:∀ b o,H b=some o→b≠a→(upd (upd H s.heap.objs.size (Wr s.heap.objs.size [(f,y)])) a (XD a (.ref C) (some s.heap.objs.size))) b=some o:=fun b o q n=>by
  rw [Yh n,Yh (Yu q hfr)];exact q
 refine h _ _ hfr hne (I.un (t':=s.toks+2) ⟨fun b o q n _ _=>hk b o (nea b n) q,fun b o q n _ _=>⟨o.slots,hk b o (nea b n) q⟩,fun b o q n _=>?_,fun b o q _=>?_,fun b xs q=>?_,fun b o u q=>?_,fun b ps q=>?_⟩ fun b o q=>?_)
 ·rw [Yh (nea b n),Yh (ned b o q)];exact n
 ·by_cases z:b=a
  ·subst z;exact ⟨_,ha⟩
  ·exact ⟨o,hk b o z q⟩
 ·exact oth b _ q fun z=>by rw [z,e] at q;cases q
 ·exact oth b _ q fun z=>by rw [z,e] at q;cases q
 ·exact ⟨#[],by rw [Array.append_empty];exact oth b _ q fun z=>by rw [z,e] at q;cases q⟩
 ·by_cases z:b=a
  ·subst z
   rw [Yc] at q
   cases q
   exact UF ha
  ·rw [Yh z] at q
   by_cases z2:b=s.heap.objs.size
   ·subst z2
    rw [Yc] at q
    cases q
    refine Ya7 n1 (fun g=>?_) fun g hg=>?_
    ·by_cases eg:g=f
     ·subst eg
      rw [if_pos rfl]
      show Uu (List.lookup g [(g,y)]) _
      simp only [List.lookup,beq_self_eq_true]
      exact ry
     ·rw [if_neg eg]
      have:(g==f)=false:=by simp [eg]
      simp only [List.lookup,this]
      exact True.intro
    ·by_cases eg:g=f
     ·subst eg;simp
     ·rw [if_neg eg] at hg;exact absurd rfl hg
   ·rw [Yh z2] at q
    refine (I.hok b o q).stay (fun c v hc r=>hk c v (fun zc=>?_) r) (fun c r=>?_) fun c xs r=>?_
    ·subst zc
     rcases hc with hc | hc
     ·exact z hc.symm
     ·rw [e] at hc;cases hc
    ·exact oth c _ r fun zc=>by rw [zc,e] at r;cases r
    ·exact oth c _ r fun zc=>by rw [zc,e] at r;cases r
theorem Yct (I:Inv X pins σ H s) (c:ExFl X.K C C') (na:PySem.W.findIn X.K (.ref C) f=some none) (e:H a=some (XD a (.ref C) (some d))) (ed:H d=some (Wr d fs)) (hl:fs.length<1000) (hne:d≠a) (ry:Yv y u)
  (h:∀ s',Inv X pins σ (upd H d (Wr d (Wp f y fs))) s'→Q () s'):wpAny (model X.prog X.w) A (setAttr (.ref a) f u) Q E s:=by
 obtain ⟨⟨t0,sl,q0⟩,_,_⟩:=I.hok a _ e
 obtain ⟨⟨mA,n1,r,wi⟩,_,_⟩:=I.hok d _ ed
 have hz:(fs.map (·.1)).length≤sizeLine:=by rw [List.length_map,sizeLine_eq];omega
 refine PySem.W.exset_more I.kIn q0 rfl rfl rfl n1 hne c.hd c.ln na c.sa wi hz fun h' n2 sb=>?_
 obtain ⟨od,es,ep,eo,co⟩:=id n2
 refine h _ (I.write (t':=s.toks+2) (x:=d) (e:=d) (by rw [ed];exact True.intro) (.inl rfl) (fun b q hb z=>(sb.2 b hb).trans z) ⟨od,eo⟩ (Ya7 n2 (fun g=>?_) fun g hg=>?_))
 ·rw [VF]
  by_cases q:g=f
  ·rw [if_pos q,if_pos q];exact ry
  ·rw [if_neg q,if_neg q];exact r g
 ·by_cases q:g=f
  ·rw [q];exact (Vj f y fs).1
  ·refine (Vj f y fs).2 g (wi g fun z=>hg ?_)
   show (if g=f then some u else mA g)=none
   rw [if_neg q];exact z
end
structure BInit (g:Gx) (x:Str) (B:Addr):Prop where
 bound:g.mg x=some (.ref B)
 ga:PySem.W.specialIn g.K (.ref B) "__getattribute__"=some (some (.builtin "type.__getattribute__"))
 rd:PySem.W.readsIn g.K B (.type "type")=true
 at_:PySem.W.findCls g.K (.ref B) (.type "type") "__init__"=some (.val (.builtin "ValueError.__init__"))
def tBI (C:Addr) (t:TA):TE:=fun σ H Q=>t σ H fun vs H1=>∃ a m dc,vs=[.ref a,m]∧H1 a=some (XD a (.ref C) dc)∧Q .non H1
def sFx (C:Addr) (ta tv:TE) (f:Str):TS:=fun D σ H=>tv σ H fun y H1=>ta σ H1 fun x H2=>∃ a,x = .ref a∧((H2 a=some (XD a (.ref C) none)∧∀ d,H2 d=none→d≠a→D.nx σ (upd (upd H2 d (Wr d [(f,y)])) a (XD a (.ref C) (some d)))) ∨
 ∃ d fs,H2 a=some (XD a (.ref C) (some d))∧H2 d=some (Wr d fs)∧fs.length<1000∧d≠a∧D.nx σ (upd H2 d (Wr d (Wp f y fs))))
def spI (C:Addr) (fs:List Str):Sp:=fun vs H Q _=>∃ e us,vs = .ref e::us∧us.length=fs.length∧H e=some (XD e (.ref C) none)∧∀ d,H d=none→d≠e→Q .non (upd (upd H d (Wr d (fs.zip us))) e (XD e (.ref C) (some d)))
def Gx.RawX (g:Gx) (x:Str) (C:Addr) (qual:Str) (st:Stmt) (ps:List Str):Prop:=∃ f fd,Fun g.K "__init__" qual st f fd∧Xr g.K fd ps []∧MkX g.K C f∧g.mg x=some (.ref C)
def Gx.MaX (g:Gx) (x:Str) (C:Addr) (ps fs:List Str):Prop:=∃ f fd,FnOk g.P g.w g.K g.mg g.base CX0 1 f fd ps (spI C fs)∧Xr g.K fd ps []∧MkX g.K C f∧g.mg x=some (.ref C)
theorem Gx.RawX.maX {g:Gx} {x qual:Str} {C:Addr} {st:Stmt} {N ps fs:List Str} (R:g.RawX x C qual st ps) (S:FnScope N ps (Yi st)) (len:∀ vs H Q E,spI C fs vs H Q E→vs.length=ps.length) (b:QO g 0 N qual st (spI C fs)):g.MaX x C ps fs:=by
 obtain ⟨f,fd,F,bd,hm,hg⟩:=R
 exact ⟨f,fd,F.ok S len fun cdv A outer s H vs Q E hr h=>b f cdv A outer s H vs Q E hr h,bd,hm,hg⟩
theorem Yec {K:PySem.W.Frag} {h:Heap} {mg:Str→Option Value} {f C:Addr} {x qual:Str} {st:Stmt} {oc kV dc pm cd ct:Value} {od an:Option Addr} {sl:Array (Option Value)} (X:K.In h) (G:h.Ns mainGlobals mg) (ps:List Str) (aC:PySem.W.nsIn K mainGlobals x=some (some (.ref C)))
  (a:PySem.W.findIn K (.ref C) "__init__"=some (some (.ref f))) (o:PySem.W.excOwn K C Uh "ValueError.__new__" f=true) (i:PySem.W.isFn K (.ref f)=true) (l:K.lookup f=some ⟨oc,od,.func (PySem.W.fnOf "__init__" qual (Xk st) (YT st) (Yi st) .none kV dc pm an cd ct),sl⟩) (c:PySem.W.codeIn K cd qual=true) (k:PySem.W.keepIn K (.ref f)=true)
  (b:∀ (kV doc pm:Value) (an:Option Addr) (cdv ct:Value) (us:List Value),us.length=ps.length→bindArgs (PySem.W.fnOf "__init__" qual (Xk st) (YT st) (Yi st) .none kV doc pm an cdv ct) ⟨us,[]⟩=pure (ps.zip us)) :
  ∀ P w base,(Gx.mk P w K mg base).RawX x C qual st ps:=fun P w base =>
 have F:=Ua (st:=st) l c k
 ⟨f,_,F,F.binds b,⟨o,i⟩,PySem.W.mg_of X G aC⟩
theorem Gx.RawX.own {g:Gx} {x qual:Str} {C:Addr} {st:Stmt} {ps:List Str} (R:g.RawX x C qual st ps):∃ f,PySem.W.excOwn g.K C Uh "ValueError.__new__" f=true:=by
 obtain ⟨f,_,_,_,M,_⟩:=R
 exact ⟨f,M.own⟩
section
variable {g:Gx} {X:Cx} {k j:Nat} {x m f:Str} {ps:List Str} {sp:Sp} {e o value:Expr} {es:List Expr} {t:TA} {ta tv:TE} {p pos apos pos' np cpos:Pos} {C C' B:Addr} {E:XK} {fs:List Str}
theorem Ydj {pl:Sem Bool} (b:BInit g x B) (M:∃ fI,PySem.W.excOwn g.K C Uh "ValueError.__new__" fI=true) (ha:PA X (e::es) t) (hX:X.gx=g:=by rfl) (hg:Gl X x:=by rfl) (hdb:(x==("__debug__":Str))=false:=by decide)
  (hst:starEach (e::es) X.env=(false,eval e X.env)::starEach es X.env:=by rfl) (hpl:(backTo pos (starEach es X.env)).any (·.1)=false:=by rfl)
  (ht:eval (.Call (.Attribute (.Name x p) "__init__" apos) (e::es) [] pos) X.env=(do
   let ov ← eval (.Name x p) X.env
   standAt apos.atName
   let (f,first) ← holding [ov] (getMethod ov "__init__" pl)
   callWith pos f first (backTo pos (starEach (e::es) X.env)) (backToKw pos (keywordEach [] X.env))):=by rfl):PE X (.Call (.Attribute (.Name x p) "__init__" apos) (e::es) [] pos) (tBI C t):=by
 subst hX
 obtain ⟨fI,M⟩:=M
 intro pins s σ H Q I h
 refine PySem.W.methodCall_KW (pl:=pl) (thn (YeR (g:=X.gx) (pos:=p) b.bound rfl hg hdb pins s σ H (fun v H1=>v = .ref B∧H1=H) I ⟨rfl,rfl⟩) fun u s1 ⟨v,H1,I1,rv,e1,e2⟩=>?_) ht
 subst e1 e2
 obtain rfl:u=Value.ref B:=rv
 refine PySem.W.method_cls I1.kIn b.ga (PySem.W.cls_value I1.kIn b.rd b.at_ rfl ?_)
 have I2:=I1.tok (s1.toks+1)
 refine PyProof.Rows.callWith_builtin1 (thn (ha pos pins _ σ H1 _ I2 h) fun us s2 ⟨vs,H2,I3,r,a,mm,dc,ev,he,q⟩=>?_) hst hpl
 subst ev
 obtain ⟨u1,u2,rfl,r1,r2⟩:=YdE r
 obtain rfl:u1=Value.ref a:=r1
 obtain ⟨bm,ns,nm,qn,bs,hdd,sn,sub,ab,col,dd,k0,k1,k2,k3,k5,mN,hO,hN,hi,T⟩:=PySem.W.excOwn_obj I3.kIn M
 obtain ⟨⟨t0,sl,q0⟩,_,_⟩:=I3.hok a _ he
 obtain ⟨hh,gg,dr,tk,os⟩:=s2
 refine PySem.W.exc_base_init PySem.F.excBase_ValueError T hO q0 fun h' T' e1 hk=>⟨.non,H2,?_,rfl,q⟩
 have I4:=I3.write (t':=tk) (h':=h') (x:=a) (e:=a) (o:=XD a (.ref C) dc) (by rw [he];exact True.intro) (.inl rfl) (fun b u hb z=>hk b u hb z) ⟨_,e1⟩ (UF e1)
 rw [YeK he] at I4
 exact I4
theorem Yed (c:ExFl g.K C C') (na:PySem.W.findIn g.K (.ref C) f=some none) (ha:PE X o ta) (hv:PE X value tv) (hX:X.gx=g:=by rfl) (hs:swapsWith value (some (.Attribute o f pos')) pos.line X.env=pure false:=by rfl):PS X (.Assign [.Attribute o f pos'] value pos) (sFx C ta tv f):=by
 subst hX
 intro pins s σ H D I h
 refine plainObj_wpAny_Assign_Attribute (thn (hv pins s σ H _ I h) fun u s1 ⟨y,H1,I1,ry,q⟩=>thn (ha pins s1 σ H1 _ I1 q) fun ov s2 ⟨x,H2,I2,rx,a,ex,q2⟩=>?_) hs
 subst ex
 obtain rfl:ov=Value.ref a:=rx
 rcases q2 with ⟨e0,q2⟩ | ⟨d,fs,e0,e1,l,ne,q2⟩
 ·exact Ydi I2 c na e0 ry fun d s3 n1 n2 I3=>⟨σ,_,I3,q2 d n1 n2⟩
 ·exact Yct I2 c na e0 e1 l ne ry fun s3 I3=>⟨σ,_,I3,q2⟩
def UG (C:Addr) (fs:List Str) (E:XK) (t:TA):TS:=fun _ σ H=>t σ H fun vs H1=>vs.length=fs.length∧vs.length≤1000∧∀ d,H1 d=none→E (.ref C) (some d) (upd H1 d (Wr d (fs.zip vs)))
theorem Ycu (F:g.MaX x C ps fs) (hr:Room k X.A) (hR:Ya6 X E) (ha:PA X (e::es) t) (hj:2≤k) (hc:X.calm=true) (hX:X.gx=g) (hg:Gl X x) (hdb:(x==("__debug__":Str))=false)
  (he:starEach (e::es) X.env=(false,eval e X.env)::starEach es X.env) (hpl:(backTo cpos (starEach es X.env)).any (·.1)=false) :
  PS X (.Raise (some (.Call (.Name x np) (e::es) [] cpos)) none pos) (UG C fs E t):=by
 subst hX
 obtain ⟨f,fd,F,bd,M,hm⟩:=F
 intro pins s σ H D I h
 obtain ⟨bm,ns,nm,qn,bs,hd,sn,sub,ab,col,dd,k0,k1,k2,k3,k5,mN,hO,hN,hi,T⟩:=PySem.W.excOwn_obj I.mod.kin M.own
 refine PySem.W.exc_raise_call (C:=C) (nm:=nm) (q:=qn) (N:=ns) (bs:=bs) (bm:=bm) (hdct:=hd) (sn:=sn) (sub:=sub) (ab:=ab) (col:=col) (dd:=dd) (k0:=k0) (k1:=k1) (k2:=k2) (k3:=k3) (k5:=k5) (newId:="ValueError.__new__")
  (T.hasType PySem.F.excBase_ValueError.hasBase) (I.ok.hd hc) ?_ (Ww I hg hm ⟨rfl,?_⟩ hdb)
 ·rw [he]
  show (false||(backTo cpos (starEach es X.env)).any (·.1))=false
  rw [hpl];rfl
 ·have a1:=ha cpos pins s σ H _ I h
  rw [he] at a1 ⊢
  refine Calls.evalArgs_plain (wpAny_mono a1 (fun us s2 hz=>?_) fun _ _ y=>y)
  obtain ⟨vs,H2,I2,r,q0,q1,q2⟩:=hz
  refine ⟨rfl,I2.bk _ _ hO,wpAny_mono (Ydh (Q:=fun v H3=>∃ e dc,v = .ref e∧(∀ o,X.s₀.heap.get? e=some o→e∈X.ex)∧H3 e=some (XD e (.ref C) dc)∧E (.ref C) dc (del H3 e)) (dvs:=[]) M F (hr.mono hj) bd .nil Qr I2 r (by rw [← r.length,sizeLine_eq];omega) fun e n1 n2=>?_) (fun v s3 z=>?_) fun _ _ y=>y⟩
  ·have hs0:∀ o,X.s₀.heap.get? e=some o→e∈X.ex:=fun o hq=>Classical.byContradiction fun z=>by
    obtain ⟨o',z⟩:=I2.base.there e o hq z
    rw [n2] at z
    cases z
   refine ⟨e,vs,by rw [List.append_nil],q0,Yc,fun d m1 m2=>⟨rfl,e,some d,rfl,hs0,Yc,?_⟩⟩
   rw [Yh m2] at m1
   have:=q2 d m1
   refine Eq.mp (congrArg (E (.ref C) (some d)) (funext fun b=>?_)) this
   by_cases hb:b=e
   ·subst hb
    rw [Ydg,Yh (Ne.symm m2)]
    exact n1
   ·rw [WG hb,Yh hb]
    by_cases hbd:b=d
    ·subst hbd;rw [Yc,Yc]
    ·rw [Yh hbd,Yh hbd,Yh hb]
  ·obtain ⟨v',H3,I3,rv,e,dc,ev,hs0,he3,q3⟩:=z
   subst ev
   obtain rfl:v=Value.ref e:=rv
   obtain ⟨⟨t0,sl,q5⟩,_,_⟩:=I3.hok e _ he3
   exact ⟨e,dc,t0,sl,rfl,I3.bk _ _ hO,q5,hR pins σ H3 s3 e _ dc I3 he3 hs0 q3⟩
end
theorem Yee {C:Addr} {fs ps:List Str} {vs:List V} {H:Hp} {Q:VK} {E:XK} (h:spI C fs vs H Q E) (hp:ps.length=fs.length+1:=by rfl):vs.length=ps.length:=by
 obtain ⟨e,us,rfl,l,_⟩:=h
 rw [hp,List.length_cons,l]
theorem spI_1 {C:Addr} {f n0 n1 m:Str} {vs:List V} {H:Hp} {Q:VK} {E:XK} (h:spI C [f] vs H Q E) :
  XO (Ybo (tBI C (Wt (Xs 0) (Wt (tC (.str m)) Vk)))) (sFx C (Xs 0) (Xs 1) f) { nx:=fun _ H'=>Q .non H',rt:=Q } (start [n0,n1] vs) H:=by
 obtain ⟨e,us,rfl,l,he,q⟩:=h
 obtain ⟨u,rfl⟩:∃ u,us=[u]:=by
  match us,l with
  | [u],_=>exact ⟨u,rfl⟩
 refine ⟨_,rfl,e,_,_,rfl,he,?_⟩
 refine ⟨_,rfl,_,rfl,e,rfl,.inl ⟨he,fun d m1 m2=>q d m1 m2⟩⟩
end L2
namespace L2
open PySem PySem.Spec PyProof.Rows
section
variable {X:Cx} {k:Nat}
end
theorem Ydk {K:PySem.W.Frag} {h:Heap} {mg:Str→Option Value} {x:Str} {B:Addr} (X:K.In h) (G:h.Ns mainGlobals mg) (a:PySem.W.nsIn K mainGlobals x=some (some (.ref B))) (ga:PySem.W.specialIn K (.ref B) "__getattribute__"=some (some (.builtin "type.__getattribute__"))) (rd:PySem.W.readsIn K B (.type "type")=true) (at_:PySem.W.findCls K (.ref B) (.type "type") "__init__"=some (.val (.builtin "ValueError.__init__"))) :
  ∀ P w base,BInit (Gx.mk P w K mg base) x B:=fun _ _ _=>⟨PySem.W.mg_of X G a,ga,rd,at_⟩
end L2
namespace L2
open PySem PySem.Spec PyProof.Rows
structure Lent (H Hz:Hp) (h:Heap) (cs:List Addr):Prop where
 one:∀ b∈cs,∃ o u,Hz b=some (.frz o u)∧h.get? b=some o∧H b=none
 oth:∀ b,b∉cs→Hz b=H b
section
variable {P:Program} {w:World} {H Hz H':Hp} {h h' B:Heap} {cs fs:List Addr}
theorem Lent.out (L:Lent H Hz h cs) {b:Addr} {o:HO} (e:H b=some o):b∉cs:=fun z=>by
 obtain ⟨_,_,_,_,n⟩:=L.one b z
 rw [n] at e
 cases e
theorem Lent.get (L:Lent H Hz h cs) {b:Addr} {o:HO} (e:H b=some o):Hz b=some o:=by rw [L.oth b (L.out e)];exact e
theorem VU (x:HOk P w H' h') (z:∀ b∈cs,∃ o u,H' b=some (.frz o u)):HOk P w (off H' cs) h':=fun b o e=>by
 obtain ⟨e1,e2⟩:=WU e
 refine (x b o e1).stay (fun _ _ _ q=>q) (fun c q=>?_) fun c xs q=>?_
 ·rw [YD fun hc=>by obtain ⟨_,_,y⟩:=z c hc;rw [y] at q;cases q]
  exact q
 ·rw [YD fun hc=>by obtain ⟨_,_,y⟩:=z c hc;rw [y] at q;cases q]
  exact q
theorem Lent.un (L:Lent H Hz h cs) (u:Un fs [] Hz H' h h') (hok:HOk P w H' h') (nf:∀ b∈cs,b∉fs):Un fs [] H (off H' cs) h h':=by
 have z:∀ {b:Addr} {o:HO},H b=some o→b∉cs:=fun e=>L.out e
 refine ⟨fun b o e n hf hx=>?_,fun b o e n hf hx=>?_,fun b o e n hx=>?_,u.there,fun b xs e=>?_,fun b o x e=>?_,fun b ps e=>?_⟩
 ·by_cases hb:b∈cs
  ·obtain ⟨o1,u1,y1,y2,_⟩:=L.one b hb
   rw [e] at y2
   cases y2
   exact (hok b _ (u.frzs b _ _ y1)).1
  ·exact u.keep b o e ((L.oth b hb).trans n) hf hx
 ·exact u.slot b o e ((L.oth b fun hb=>nf b hb hf).trans n) hf hx
 ·by_cases hb:b∈cs
  ·exact X2 hb
  ·rw [YD hb]
   exact u.free b o e ((L.oth b hb).trans n) hx
 ·rw [YD (z e)]
  exact u.tups b xs (L.get e)
 ·rw [YD (z e)]
  exact u.frzs b o x (L.get e)
 ·rw [YD (z e)]
  exact u.tbls b ps (L.get e)
theorem Lent.behind (L:Lent H Hz h cs) (u:Un fs [] Hz H' h h'):∀ b∈cs,∃ o v,H' b=some (.frz o v):=fun b hb=>by
 obtain ⟨o1,u1,y1,_⟩:=L.one b hb
 exact ⟨o1,u1,u.frzs b _ _ y1⟩
theorem Lent.fly {l:List Env} {e:Addr} {cls:Value} (L:Lent H Hz h cs) (F:Fly P w l Hz h e cls H' h' B) (nf:∀ b∈cs,b∉frs l):Fly P w l H h e cls (off H' cs) h' B:=by
 have z:∀ {b:Addr} {o:HO},H b=some o→b∉cs:=fun e=>L.out e
 have bh:∀ b∈cs,∃ o v,H' b=some (.frz o v):=fun b hb=>by
  obtain ⟨o1,u1,y1,_⟩:=L.one b hb
  exact ⟨o1,u1,F.frzs b _ _ y1⟩
 refine ⟨F.fl,VU F.hok bh,fun b o q n hf=>?_,fun b o q n hf=>F.slot b o q ((L.oth b fun hb=>nf b hb hf).trans n) hf,F.al,fun b o q n=>?_,fun b xs q=>?_,fun b o x q=>?_,fun b ps q=>?_⟩
 ·by_cases hb:b∈cs
  ·obtain ⟨o1,u1,y1,y2,_⟩:=L.one b hb
   rw [q] at y2
   cases y2
   exact (F.hok b _ (F.frzs b _ _ y1)).1
  ·exact F.keep b o q ((L.oth b hb).trans n) hf
 ·by_cases hb:b∈cs
  ·exact X2 hb
  ·rw [YD hb]
   exact F.free b o q ((L.oth b hb).trans n)
 ·rw [YD (z q)]
  exact F.tups b xs (L.get q)
 ·rw [YD (z q)]
  exact F.frzs b o x (L.get q)
 ·rw [YD (z q)]
  exact F.tbls b ps (L.get q)
end
def WL (H Hz:Hp) (l:Ym):Prop:=(∀ p∈l,∃ o,Hz p.2.1=some (.frz o (Wl p.2.1 p.2.2))∧H p.2.1=none)∧∀ b,b∉l.as→Hz b=H b
def We (H:Hp) (h:Heap):Ym→Hp
 | []=>H
 | p::l=>match h.get? p.2.1 with
  | some o=>upd (We H h l) p.2.1 (.frz o (Wl p.2.1 p.2.2))
  | none=>We H h l
section
variable {X:Cx} {pins:List (Addr×Obj)} {σ:St} {H:Hp} {s:Shared}
theorem WH {h:Heap} {b:Addr}:∀ {l:Ym},b∉l.as→We H h l b=H b
 | [],_=>rfl
 | p::l,hb=>by
  have h1:b≠p.2.1:=fun z=>hb (by rw [z];exact .head _)
  have h2:b∉Ym.as l:=fun z=>hb (.tail _ z)
  cases e:h.get? p.2.1 with
  | some o =>
   have hz:We H h (p::l)=upd (We H h l) p.2.1 (.frz o (Wl p.2.1 p.2.2)):=by
    show (match h.get? p.2.1 with | some o=>_ | none=>_)=_
    rw [e]
   rw [hz,Yh h1]
   exact WH h2
  | none =>
   have hz:We H h (p::l)=We H h l:=by
    show (match h.get? p.2.1 with | some o=>_ | none=>_)=_
    rw [e]
   rw [hz]
   exact WH h2
theorem Ya8 (I:Inv X pins σ H s) {l:Ym} (hc:Xz X σ l) {p:Str×Addr×V} (hp:p∈l):H p.2.1=none∧∃ o u,s.heap.get? p.2.1=some o∧Yv p.2.2 u∧s.heap.IsCell p.2.1 (some u):=by
 obtain ⟨i,h1,h2,h3,h4⟩:=hc.2 p hp
 obtain ⟨m,hn,hl⟩:=I.loc
 obtain ⟨u,r,lk⟩:=hl i p.1 p.2.2 h1 h2 (.inr (.inl h3))
 rcases lk with ⟨k,_⟩ | ⟨_,c,hc,hcell⟩
 ·rw [h3] at k;cases k
 ·rw [h4] at hc
  cases hc
  obtain ⟨o,e1,e2⟩:=id hcell
  exact ⟨I.freeC p.1 p.2.1 h4,o,u,e1,r,hcell⟩
theorem Ya9 (I:Inv X pins σ H s):∀ {l:Ym},Xz X σ l→WL H (We H s.heap l) l∧Lent H (We H s.heap l) s.heap l.as∧HOk X.prog X.w (We H s.heap l) s.heap
 | [],_=>⟨⟨(fun p hp=>nomatch hp),fun _ _=>rfl⟩,⟨(fun b hb=>nomatch hb),fun _ _=>rfl⟩,I.hok⟩
 | p::l,h=>by
  have nd':=List.nodup_cons.mp h.1
  obtain ⟨⟨a1,a2⟩,⟨b1,b2⟩,ok⟩:=Ya9 I (l:=l) ⟨nd'.2,fun q hq=>h.2 q (.tail _ hq)⟩
  obtain ⟨n,o,u,e,r,hcell⟩:=Ya8 I h (.head _)
  have hz:We H s.heap (p::l)=upd (We H s.heap l) p.2.1 (.frz o (Wl p.2.1 p.2.2)):=by
   show (match s.heap.get? p.2.1 with | some o=>_ | none=>_)=_
   rw [e]
  have hne:∀ q∈l,q.2.1≠p.2.1:=fun q hq z=>nd'.1 (by
   have:q.2.1∈Ym.as l:=List.mem_map_of_mem (f:=fun p:Str×Addr×V=>p.2.1) hq
   rw [z] at this
   exact this)
  rw [hz]
  refine ⟨⟨fun q hq=>?_,fun b hb=>?_⟩,⟨fun b hb=>?_,fun b hb=>?_⟩,ok.track ((WH nd'.1).trans n) ⟨e,VR r hcell⟩⟩
  ·rcases List.mem_cons.mp hq with rfl | hq
   ·exact ⟨o,Yc,n⟩
   ·obtain ⟨o',y1,y2⟩:=a1 q hq
    exact ⟨o',by rw [Yh (hne q hq)];exact y1,y2⟩
  ·rw [Yh fun z=>hb (by rw [z];exact .head _)]
   exact a2 b fun z=>hb (.tail _ z)
  ·by_cases z:b=p.2.1
   ·subst z
    exact ⟨o,_,Yc,e,n⟩
   ·rw [Yh z]
    have:b∈Ym.as l:=by
     rcases List.mem_cons.mp (show b∈p.2.1::Ym.as l from hb) with y | y
     ·exact absurd y z
     ·exact y
    exact b1 b this
  ·rw [Yh fun z=>hb (by rw [z];exact .head _)]
   exact b2 b fun z=>hb (.tail _ z)
theorem QX (I:Inv X pins σ H s) {l:Ym} (hc:Xz X σ l) (hfn:∀ x,X.fn x=true) {b:Addr} (hb:b∈l.as):X.s₀.heap.objs.size≤b∧b≠X.env.locals:=by
 obtain ⟨p,hp,rfl⟩:=Y1 hb
 obtain ⟨i,h1,h2,h3,h4⟩:=hc.2 p hp
 exact ⟨I.ok.cab _ _ (hfn _) h4,I.cne _ _ h4⟩
theorem Yef (I:Inv X pins σ H s) (hs:X.stack=X.env::X.outer) (hf:X.env.frame=some X.env.locals) {l:Ym} (hc:Xz X σ l) (hfn:∀ x,X.fn x=true):∀ b∈l.as,b∉frs X.stack:=fun b hb z=>by
 obtain ⟨n1,n2⟩:=QX I hc hfn hb
 rw [hs] at z
 unfold frs at z
 rw [List.filterMap_cons,hf] at z
 rcases List.mem_cons.mp z with z | z
 ·exact n2 z
 ·obtain ⟨_,o,e,_⟩:=I.ok.funs.mem z
  exact absurd (Nat.lt_of_lt_of_le (Heap.lt_size e) n1) (Nat.lt_irrefl _)
end
section
variable {X:Cx} {CX:CXT} {k:Nat} {f:Addr} {fd:FuncData} {ps:List Str} {sp:Sp} {E:XK} {pins:List (Addr×Obj)} {σ:St} {H:Hp} {s:Shared} {Q:VK} {us:List Value} {vs:List V} {l:Ym}
theorem Ydl (F:FnOk X.prog X.w X.K X.mg X.base CX k f fd ps sp) (hr:Room k X.A) (hb:Xr X.K fd ps []) (hs:X.stack=X.env::X.outer) (hf:X.env.frame=some X.env.locals) (hfn:∀ x,X.fn x=true)
  (hx:∀ Hz e s',Lent H Hz s.heap l.as→(∀ b∈l.as,b∉frs X.stack)→CX X.stack Hz s (fun c d H'=>E c d (off H' l.as)) e s'→X.xe e s')
  (I:Inv X pins σ H s) (hc:Xz X σ l) (r:Yl vs us) (h:∀ Hz,WL H Hz l→sp vs Hz (fun v H'=>Q v (off H' l.as)) fun c d H'=>E c d (off H' l.as)):wpAny (model X.prog X.w) X.A (call (.ref f) us) (EP X pins σ Q) X.xe s:=by
 obtain ⟨L1,L2,ok⟩:=Ya9 I hc
 have nf:=Yef I hs hf hc hfn
 have hsp:=h _ L1
 have hl:us.length=ps.length:=by rw [← r.length];exact F.len _ _ _ _ hsp
 have e0:Env0 X.prog X.w X.K X.mg X.base X.A X.stack s (We H s.heap l):=by
  have e:=I.env0
  refine ⟨e.frames,e.mod,fun b o q=>⟨(e.bs b o q).1,?_⟩,e.bsz,e.funs,fun b q=>?_,ok,e.bare⟩
  ·rw [WH fun z=>?_]
   ·exact (e.bs b o q).2
   ·have n1:=(QX I hc hfn z).1
    have:=I.ok.bsz
    exact absurd (Nat.lt_of_lt_of_le (Heap.lt_size q) (Nat.le_trans this n1)) (Nat.lt_irrefl _)
  ·rw [WH fun z=>nf b z q]
   exact e.frf b q
 refine wpAny_call (codeAny_mono (F.run X.A X.stack s _ ⟨us,[]⟩ us vs _ _ hr e0 (by have:=hb s us I.kIn (by rw [List.append_nil];exact hl);rwa [List.append_nil] at this) r hsp) fun r s' hq=>?_)
 cases r with
 | error e=>exact hx _ e s' L2 nf hq
 | ok fl =>
  cases fl with
  | ret u =>
   obtain ⟨v,H',os,bare,un,hok,rv,q⟩:=hq
   exact I.after ⟨v,off H' l.as,os,bare,L2.un un hok nf,VU hok (L2.behind un),rv,q⟩
  | next=>exact False.elim hq
  | brk=>exact False.elim hq
  | cont=>exact False.elim hq
end
theorem YbN {g:Gx} {N:List Str} {qual:Str} {st:Stmt} {f:Addr} {cdv:Value} {A:Around} {outer:List Env} {s0:Shared} {H0:Hp} {E:XK} {pins:List (Addr×Obj)} {σ:St} {H:Hp} {s:Shared} {cs:List Addr}
  (I:Inv (g.cxX N qual st f cdv A outer s0 H0 E) pins σ H s):∀ Hz e s',Lent H Hz s.heap cs→(∀ b∈cs,b∉frs (g.cxX N qual st f cdv A outer s0 H0 E).stack)→CXF g.P g.w (g.cxX N qual st f cdv A outer s0 H0 E).stack Hz s (fun c d H'=>E c d (off H' cs)) e s'→(g.cxX N qual st f cdv A outer s0 H0 E).xe e s':=by
 rintro Hz e s' L nf ⟨a,cls,H',B,dc,rfl,os,bare,F,hd,q⟩
 exact YW pins σ H s _ s' I ⟨a,cls,off H' cs,B,dc,rfl,os,bare,L.fly F nf,hd,q⟩
def Ym.Z (l:Ym) (H:Hp):Prop:=∀ p∈l,∃ o,H p.2.1=some (.frz o (Wl p.2.1 p.2.2))
theorem WL.z {H Hz:Hp} {l:Ym} (h:WL H Hz l):l.Z Hz:=fun p hp=>by
 obtain ⟨o,z,_⟩:=h.1 p hp
 exact ⟨o,z⟩
theorem Ym.Z.keep {l:Ym} {H H':Hp} (h:l.Z H) (s:Yd H H'):l.Z H':=fun p hp=>by
 obtain ⟨o,z⟩:=h p hp
 exact ⟨o,s _ _ z⟩
def ClZ (H:Hp) (f c:Addr) (fd:FuncData) (qual:Str) (l:Ym):Prop:=H f=some (FnO f fd)∧H c=some (CdO c qual)∧l.Z H
theorem ClZ.keep {H H':Hp} {f c:Addr} {fd:FuncData} {qual:Str} {l:Ym} (h:ClZ H f c fd qual l) (s:Yd H H'):ClZ H' f c fd qual l:=⟨s _ _ h.1,s _ _ h.2.1,h.2.2.keep s⟩
section
variable {P:Program} {w:World} {K:PySem.W.Frag} {mg:Str→Option Value} {base:Heap} {N ps:List Str} {qual:Str} {scope:Scope} {f c:Addr} {A:Around} {outer:List Env} {s:Shared} {H:Hp} {l:Ym} {cd:Value}
theorem YeZ {Q:VK} {v:V} {u:Value} {σ':St} {H':Hp} {s':Shared} (e0:Env0 P w K mg base A outer s H) (hin:l.Z H) (J:Inv (VS P w K mg base N qual scope f cd l.cl A outer s (off H l.as)) [] σ' H' s') (hlk:∀ p∈l,l.cl.lookup p.1=some p.2.1) (rv:Yv v u) (q:(∀ c∈l.as,H' c=none)→Q v (on H' H l.as)) :
  CE outer P w H s Q u s':=by
 have un:=J.base
 have zc:∀ {b:Addr},b∈l.as→∃ o u,H b=some (.frz o u):=fun hm=>by
  obtain ⟨p,hp,rfl⟩:=Y1 hm
  obtain ⟨o,z⟩:=hin p hp
  exact ⟨o,_,z⟩
 have nin:∀ {b:Addr},H b=none→b∉l.as:=fun hb hm=>by
  obtain ⟨o,u,z⟩:=zc hm
  rw [z] at hb;cases hb
 have out:∀ {b:Addr} {o:HO},H b=some o→(∀ x u,o ≠ .frz x u)→b∉l.as:=fun hb no hm=>by
  obtain ⟨o,u,z⟩:=zc hm
  rw [z] at hb
  exact no _ _ (Option.some.inj hb).symm
 have freeC:∀ c∈l.as,H' c=none:=fun c hc=>by
  obtain ⟨p,hp,rfl⟩:=Y1 hc
  exact J.freeC p.1 p.2.1 (hlk p hp)
 refine ⟨v,on H' H l.as,J.os,J.bare,⟨fun b o e n hb hx=>un.keep b o e (Xp n) hb hx,fun b o e n hb hx=>un.slot b o e (Xp n) hb hx,fun b o e n hx=>?_,fun b o e hx=>un.there b o e hx,fun b xs e=>?_,fun b o u e=>?_,fun b ps e=>?_⟩,fun b o e=>?_,rv,q freeC⟩
 ·rw [Xa (nin n)]
  exact un.free b o e (Xp n) hx
 ·have h1:=out e fun _ _ z=>by cases z
  rw [Xa h1]
  exact un.tups b xs ((YD h1).trans e)
 ·by_cases hb:b∈l.as
  ·rw [Ui hb];exact e
  ·rw [Xa hb]
   exact un.frzs b o u ((YD hb).trans e)
 ·have h1:=out e fun _ _ z=>by cases z
  rw [Xa h1]
  exact un.tbls b ps ((YD h1).trans e)
 ·by_cases hb:b∈l.as
  ·rw [Ui hb] at e
   obtain ⟨p,hp,rfl⟩:=Y1 hb
   obtain ⟨ob,z⟩:=hin p hp
   rw [z] at e
   cases e
   obtain ⟨ho,y1,y2,y3⟩:=e0.hok _ _ z
   have hk:=un.keep _ _ ho (X2 hb) (fun hf=>by have:=e0.frf _ hf;rw [z] at this;cases this) (by intro z;exact absurd (show p.2.1∈([]:List Addr) from z) (by simp))
   exact ⟨hk,y3 _ _ y1 fun o q=>by rw [ho] at q;cases q;exact hk,⟨ob,hk⟩,y3⟩
  ·rw [Xa hb] at e
   refine (J.hok b o e).stay (fun _ _ _ q=>q) (fun c q=>?_) fun c xs q=>?_
   ·rw [Xa fun hc=>?_]
    ·exact q
    ·rw [freeC c hc] at q;cases q
   ·rw [Xa fun hc=>?_]
    ·exact q
    ·rw [freeC c hc] at q;cases q
end
theorem Yeg {P:Program} {w:World} {K:PySem.W.Frag} {mg:Str→Option Value} {base:Heap} {k:Nat} {f c:Addr} {qual:Str} {params:Arguments} {body:Expr} {scope:Scope} {pm ctv:Value} {N ps:List Str} {l:Ym} {sp:List V→Hp→VK→Prop}
  (S:ClScope N ps (l.map (·.1)) scope) (hnd:l.as.Nodup) (len:∀ vs H Q,sp vs H Q→vs.length=ps.length)
  (hbody:∀ (A:Around) (outer:List Env) (s:Shared) (H:Hp) (vs:List V) (Q:VK),Room k (A.deeper (PySem.W.envX qual scope s.heap.objs.size f (.ref c) l.cl))→sp vs H Q →
   ∃ t,PE (VS P w K mg base N qual scope f (.ref c) l.cl A outer s H) body t∧t (WV N vs l.vs) H Q) :
  FnOk P w K mg base CX0 (k+1) f (PySem.W.kla_fn "<lambda>" qual params body scope l.cl pm (.ref c) ctv) ps
   (fun vs H Q _=>ClZ H f c (PySem.W.kla_fn "<lambda>" qual params body scope l.cl pm (.ref c) ctv) qual l∧sp vs (off H l.as) fun v H'=>(∀ c∈l.as,H' c=none)→Q v (on H' H l.as)):=by
 refine ⟨fun vs H Q E h=>len _ _ _ h.2,fun A outer s H args us vs Q E hr e0 hb r hsp=>?_⟩
 obtain ⟨⟨hf,hc,hin⟩,hsp⟩:=hsp
 have hl:=len _ _ _ hsp
 have lim:s.heap.NoLimit:=e0.mod.nolimit.keeps fun b o e=>(e0.bs b o e).1
 have hfo:=(e0.hok _ _ hf).1
 have hco:s.heap.CodeRec (.ref c) qual:=(e0.hok _ _ hc).1
 refine PySem.W.kla_callFunE hr.depth hfo rfl S.co S.gen rfl hco (hb _ _ _ _ ?_)
 refine wpAny_newFunctionEnv S.nocell (fun y hy=>S.par y.1 (List.of_mem_zip hy).1) (fun h₁ hns hsb=>?_) S.kind
 have hk₁:∀ b o,s.heap.get? b=some o→h₁.get? b=some o:=fun b o e=>hsb.extBut b o (Nat.ne_of_lt (Heap.lt_size e)) (Heap.get?_push_of_some _ e)
 refine ⟨lim.keeps hk₁,PySem.W.kla_codeExpr ?_⟩
 obtain ⟨t,ht,hq⟩:=hbody A outer s (off H l.as) vs _ (hr.deeper _) hsp
 have zc:∀ b∈l.as,∃ o u,H b=some (.frz o u):=fun b hm=>by
  obtain ⟨p,hp,rfl⟩:=Y1 hm
  obtain ⟨o,z⟩:=hin p hp
  exact ⟨o,_,z⟩
 have I:=Uk (cd := .ref c) (qual:=qual) (f:=f) (tk:=s.toks+(ps.zip us).length) S hnd hr.hd e0 hl r (fun p hp=>by
  obtain ⟨o,z⟩:=hin p hp
  exact (e0.hok _ _ z).2.1) (VU e0.hok zc) hns hk₁
 have lk:=Uj (l:=l) (by rw [← S.suf];exact S.nd.sublist (List.drop_sublist _ _))
 refine wpAny_mono (ht [] _ _ _ _ I hq) (fun u s' hs=>?_) fun e s' hs=>hs.elim
 obtain ⟨v,H',J,rv,q⟩:=hs
 exact YeZ e0 hin J lk rv q
def YbO (X:Cx) (sp:Sp) (E:XK) (t:TA):TE:=fun σ H Q=>t σ H fun vs H1=>∃ l,Xz X σ l∧((∀ c∈l.as,H1 c=none)→∀ Hz,WL H1 Hz l→sp vs Hz (fun v H'=>Q v (off H' l.as)) fun c d H'=>E c d (off H' l.as))
theorem QY {g:Gx} {N:List Str} {qual:Str} {st:Stmt} {f:Addr} {cdv:Value} {A:Around} {outer:List Env} {s0:Shared} {H0:Hp} {E:XK} {j k:Nat} {x:Str} {ps:List Str} {sp:Sp} {e:Expr} {es:List Expr} {t:TA} {p pos:Pos} (F:g.FnX j x ps sp) (hr:Room k (g.cxX N qual st f cdv A outer s0 H0 E).A) (ha:PA (g.cxX N qual st f cdv A outer s0 H0 E) (e::es) t) (hj:j≤k) (hg:Gl (g.cxX N qual st f cdv A outer s0 H0 E) x) (hdb:(x==("__debug__":Str))=false)
  (he:starEach (e::es) (g.cxX N qual st f cdv A outer s0 H0 E).env=(false,eval e (g.cxX N qual st f cdv A outer s0 H0 E).env)::starEach es (g.cxX N qual st f cdv A outer s0 H0 E).env) (hpl:(backTo pos (starEach es (g.cxX N qual st f cdv A outer s0 H0 E).env)).any (·.1)=false) :
  PE (g.cxX N qual st f cdv A outer s0 H0 E) (.Call (.Name x p) (e::es) [] pos) (YbO (g.cxX N qual st f cdv A outer s0 H0 E) sp E t):=by
 obtain ⟨f',fd,F,b,kp,hm⟩:=F
 intro pins s σ H Q I h
 refine wpAny_Call_Name_kw (Ww I hg hm ?_ hdb)
 refine PySem.W.callWith_K (h₀:=(g.cxX N qual st f cdv A outer s0 H0 E).base) I.ok.mod.kin kp (thn (ha pos pins s σ H _ I h) fun us s1 ⟨vs,H1,I1,r,l,hc,q⟩=>⟨I1.kIn,?_⟩) he hpl
 exact Ydl F (hr.mono hj) b rfl rfl (fun _=>rfl) (YbN I1) I1 hc r (q fun c hcc=>by
  obtain ⟨p,hp,rfl⟩:=Y1 hcc
  exact (Ya8 I1 hc hp).1)
theorem Gx.RawT.fnX {g:Gx} {k:Nat} {x qual:Str} {st:Stmt} {N ps:List Str} {c:Addr} {sp:Sp} (R:g.RawT x qual st ps c) (S:FnScope N ps (Yi st)) (len:∀ vs H Q E,sp vs H Q E→vs.length=ps.length)
  (b:∀ (f:Addr) (A:Around) (outer:List Env) (s:Shared) (H:Hp) (vs:List V) (Q:VK) (E:XK),Room k (g.cxX N qual st f (.ref c) A outer s H E).A→sp vs H Q E →
   ∃ t,PSs (g.cxX N qual st f (.ref c) A outer s H E) (YT st) t∧t { nx:=fun _ H'=>Q .non H',rt:=Q } (start N vs) H):g.FnX (k+1) x ps sp:=by
 obtain ⟨f,fd,F,bd,hm,hc⟩:=R
 refine ⟨f,fd,?_,bd,F.kp,hm⟩
 obtain ⟨oc,od,kV,doc,pm,an,cdv,ct,osl,rfl,lk,hcd⟩:=F.ex
 have hc':cdv = .ref c:=hc
 subst hc'
 exact Ybx lk hcd S len fun A outer s H vs Q E hr h=>b f A outer s H vs Q E hr h
def lendE (s:Stmt):Expr:=match s with
 | .Return (some (.Subscript (.Call _ as _ _) _ _)) _=>as.getLastD (.Constant .none 0 ⟨0,0,0,0⟩)
 | _ => .Constant .none 0 ⟨0,0,0,0⟩
end L2
namespace L2
open PySem
mutual
inductive DL (H:Hp):V→PyData→List Addr→Prop
 | non:DL H .non .none []
 | bl (b:Bool):DL H (.bl b) (.bool b) []
 | int (i:Int):DL H (.int i) (.int i) []
 | str (x:Str) (h:PyData.strOk x=true):DL H (.str x) (.str x) []
 | lst {a:Addr} {vs:List V} {ds:List PyData} {L:List Addr}:H a=some (.lst vs)→vs.length≤10000→DLs H vs ds L→DL H (.ref a) (.list ds) (a::L)
 | tup {a:Addr} {vs:List V} {ds:List PyData} {L:List Addr}:H a=some (.tup vs)→vs.length≤10000→DLs H vs ds L→DL H (.ref a) (.tuple ds) L
inductive DLs (H:Hp):List V→List PyData→List Addr→Prop
 | nil:DLs H [] [] []
 | cons {v:V} {d:PyData} {L:List Addr} {vs:List V} {ds:List PyData} {L':List Addr}:DL H v d L→DLs H vs ds L'→DLs H (v::vs) (d::ds) (L++L')
end
mutual
theorem DL.keepL {H H':Hp} (t:Tps H H'):∀ {v:V} {d:PyData} {L:List Addr},DL H v d L→(∀ a∈L,∀ vs,H a=some (.lst vs)→H' a=some (.lst vs))→DL H' v d L
 | _,_,_,.non,_ => .non
 | _,_,_,.bl b,_ => .bl b
 | _,_,_,.int i,_ => .int i
 | _,_,_,.str x h,_ => .str x h
 | _,_,_,.lst h hn hs,e => .lst (e _ (.head _) _ h) hn (hs.keepL t fun a ha=>e a (.tail _ ha))
 | _,_,_,.tup h hn hs,e => .tup (t _ _ h) hn (hs.keepL t e)
theorem DLs.keepL {H H':Hp} (t:Tps H H'):∀ {vs:List V} {ds:List PyData} {L:List Addr},DLs H vs ds L→(∀ a∈L,∀ vs,H a=some (.lst vs)→H' a=some (.lst vs))→DLs H' vs ds L
 | _,_,_,.nil,_ => .nil
 | _,_,_,.cons h hs,e => .cons (h.keepL t fun a ha=>e a (List.mem_append_left _ ha)) (hs.keepL t fun a ha=>e a (List.mem_append_right _ ha))
end
theorem DL.keep {H H':Hp} {v:V} {d:PyData} {L:List Addr} (h:DL H v d L) (s:Yd H H'):DL H' v d L:=h.keepL s.tps fun a _ vs e=>s _ _ e
theorem DLs.keep {H H':Hp} {vs:List V} {ds:List PyData} {L:List Addr} (h:DLs H vs ds L) (s:Yd H H'):DLs H' vs ds L:=h.keepL s.tps fun a _ vs e=>s _ _ e
mutual
theorem DL.mem {H:Hp}:∀ {v:V} {d:PyData} {L:List Addr},DL H v d L→∀ a∈L,∃ vs,H a=some (.lst vs)∧vs.length≤10000
 | _,_,_,.lst (a:=b) h hn hs,a,ha=>by
  rcases List.mem_cons.mp ha with e | ha
  ·subst e;exact ⟨_,h,hn⟩
  ·exact hs.mem a ha
 | _,_,_,.tup h hn hs,a,ha=>hs.mem a ha
theorem DLs.mem {H:Hp}:∀ {vs:List V} {ds:List PyData} {L:List Addr},DLs H vs ds L→∀ a∈L,∃ vs,H a=some (.lst vs)∧vs.length≤10000
 | _,_,_,.cons h hs,a,ha=>by
  rcases List.mem_append.mp ha with ha | ha
  ·exact h.mem a ha
  ·exact hs.mem a ha
end
mutual
theorem DL.den {K:PySem.W.Frag} {H:Hp}:∀ {v:V} {d:PyData} {L:List Addr},DL H v d L→Den K H v d
 | _,_,_,.non => .non
 | _,_,_,.bl b => .bl b
 | _,_,_,.int i => .int i
 | _,_,_,.str x h => .str x h
 | _,_,_,.lst h _ hs => .lst (SqL.of h) hs.den
 | _,_,_,.tup h _ hs => .tup (SqT.of h) hs.den
theorem DLs.den {K:PySem.W.Frag} {H:Hp}:∀ {vs:List V} {ds:List PyData} {L:List Addr},DLs H vs ds L→Dens K H vs ds
 | _,_,_,.nil => .nil
 | _,_,_,.cons h hs => .cons h.den hs.den
end
theorem DLs.length {H:Hp}:∀ {vs:List V} {ds:List PyData} {L:List Addr},DLs H vs ds L→vs.length=ds.length
 | _,_,_,.nil=>rfl
 | _,_,_,.cons _ hs=>congrArg (·+1) hs.length
theorem DLs.at {H:Hp}:∀ {vs:List V} {ds:List PyData} {L:List Addr} {i:Nat} {v:V},DLs H vs ds L→vs[i]?=some v→∃ d L',ds[i]?=some d∧DL H v d L'
 | _,_,_,0,v,.cons a _,h=>by
  have:_=v:=Option.some.inj h
  subst this
  exact ⟨_,_,rfl,a⟩
 | _,_,_,i+1,v,.cons _ b,h=>b.at (i:=i) h
theorem DLs.append {H:Hp} {vs':List V} {ds':List PyData} {L':List Addr}:∀ {vs:List V} {ds:List PyData} {L:List Addr},DLs H vs ds L→DLs H vs' ds' L'→DLs H (vs++vs') (ds++ds') (L++L')
 | _,_,_,.nil,h=>h
 | _,_,_,.cons a b,h=>by rw [List.append_assoc];exact .cons a (b.append h)
theorem DL.one {H:Hp} {v:V} {d:PyData} {L:List Addr} (h:DL H v d L):DLs H [v] [d] L:=by
 have:=DLs.cons h .nil
 rwa [List.append_nil] at this
structure OwD (H0 H:Hp) (v:V) (d:PyData) (L:List Addr):Prop where
 vl:DL H v d L
 nd:L.Nodup
 new:∀ a∈L,H0 a=none
structure OwDs (H0 H:Hp) (vs:List V) (ds:List PyData) (L:List Addr):Prop where
 vl:DLs H vs ds L
 nd:L.Nodup
 new:∀ a∈L,H0 a=none
theorem OwDs.put {H0 H1 H2:Hp} {vs:List V} {ds:List PyData} {L L':List Addr} {y:V} {d:PyData} {D:Addr} {zs zs':List V} (h:OwDs H0 H1 vs ds L) (hD:∀ a∈L,a≠D) (s0:Yd H0 H1) (s:Yd H1 H2) (o:OwD H1 H2 y d L') (h1:H1 D=some (.lst zs)):OwDs H0 (upd H2 D (.lst zs')) (vs++[y]) (ds++[d]) (L++L')∧∀ a∈L++L',a≠D:=by
 have hD':∀ a∈L',a≠D:=fun a ha e=>by have:=o.new a ha;rw [e,h1] at this;cases this
 have t:Tps H2 (upd H2 D (.lst zs')) := .upd_lst (s _ _ h1)
 refine ⟨⟨((h.vl.keep s).keepL t fun a ha vs e=>by rw [Yh (hD a ha)];exact e).append ((o.vl.keepL t fun a ha vs e=>by rw [Yh (hD' a ha)];exact e).one),?_,fun a ha=>?_⟩,fun a ha=>?_⟩
 ·refine List.nodup_append.mpr ⟨h.nd,o.nd,fun a ha b hb e=>?_⟩
  subst e
  obtain ⟨vs,e1,_⟩:=h.vl.mem a ha
  rw [o.new a hb] at e1
  cases e1
 ·rcases List.mem_append.mp ha with ha | ha
  ·exact h.new a ha
  ·exact s0.free (o.new a ha)
 ·rcases List.mem_append.mp ha with ha | ha
  ·exact hD a ha
  ·exact hD' a ha
theorem OwDs.ext {H0 H1 H2:Hp} {vs:List V} {ds:List PyData} {L L':List Addr} {ys:List V} {es:List PyData} {D:Addr} {zs zs':List V} (h:OwDs H0 H1 vs ds L) (hD:∀ a∈L,a≠D) (s0:Yd H0 H1) (s:Yd H1 H2) (o:OwDs H1 H2 ys es L') (h1:H1 D=some (.lst zs)):OwDs H0 (upd H2 D (.lst zs')) (vs++ys) (ds++es) (L++L')∧∀ a∈L++L',a≠D:=by
 have hD':∀ a∈L',a≠D:=fun a ha e=>by have:=o.new a ha;rw [e,h1] at this;cases this
 have t:Tps H2 (upd H2 D (.lst zs')) := .upd_lst (s _ _ h1)
 refine ⟨⟨((h.vl.keep s).keepL t fun a ha vs e=>by rw [Yh (hD a ha)];exact e).append (o.vl.keepL t fun a ha vs e=>by rw [Yh (hD' a ha)];exact e),?_,fun a ha=>?_⟩,fun a ha=>?_⟩
 ·refine List.nodup_append.mpr ⟨h.nd,o.nd,fun a ha b hb e=>?_⟩
  subst e
  obtain ⟨vs,e1,_⟩:=h.vl.mem a ha
  rw [o.new a hb] at e1
  cases e1
 ·rcases List.mem_append.mp ha with ha | ha
  ·exact h.new a ha
  ·exact s0.free (o.new a ha)
 ·rcases List.mem_append.mp ha with ha | ha
  ·exact hD a ha
  ·exact hD' a ha
theorem OwD.inv {H0 H:Hp} {D:Addr} {ds:List PyData} {L:List Addr} (h:OwD H0 H (.ref D) (.list ds) L):∃ ys L1,L=D::L1∧H D=some (.lst ys)∧ys.length≤10000∧OwDs H0 H ys ds L1∧D∉L1∧H0 D=none:=by
 obtain ⟨vl,nd,new⟩:=h
 cases vl with
 | lst h1 h2 h3 =>
  have:=List.nodup_cons.mp nd
  exact ⟨_,_,rfl,h1,h2,⟨h3,this.2,fun a ha=>new a (.tail _ ha)⟩,this.1,new _ (.head _)⟩
section
variable {src:List (Option Nat)} {te:TE} {σ:St} {H:Hp} {Q:VK}
theorem Ycv {J:It} {P:Hp→Prop} {xs:List V} (hJ:Wk J P xs) {H1:Hp} {D:Addr} (ds:List PyData) (hP:∀ H',Yd H1 H'→P H') (hD:H1 D=none) (hl:ds.length=xs.length) (hlen:xs.length≤10000)
  (step:∀ (i:Nat) x d H',xs[i]?=some x→ds[i]?=some d→Yd H1 H'→∀ R:VK,(∀ y H'' L,Yd H' H''→OwD H' H'' y d L→R y H'')→te (some x::YI src σ) H' R)
  (fin:∀ (ys:List V) H' L,Yd H1 H'→OwD H1 H' (.ref D) (.list ds) L→Q (.ref D) H'):LC (none::src) J (YA 0) XE te σ H1 Q D:=by
 have h6:100000<sizeLine:=by decide
 refine YbE hJ (fun i zs σ' H'=>zs.length=i∧(∃ o,σ'=o::YI src σ)∧Yd H1 H'∧H' D=some (.lst zs)∧∃ L,OwDs H1 H' zs (ds.take i) L∧∀ a∈L,a≠D)
  ⟨rfl,⟨none,rfl⟩,.upd_new hD _,Yc,[],⟨by simp;exact .nil,.nil,fun a h=>by cases h⟩,fun a h=>by cases h⟩ (fun i zs σ' H' ⟨_,_,p1,p2,_⟩=>⟨hP _ p1,p2⟩) (W7 0) ?_ ?_
 ·rintro i zs σ' H' x hx ⟨hi',⟨o,rfl⟩,sm,hd,L,hL,hLD⟩
  have hi:=(List.getElem?_eq_some_iff.mp hx).1
  have hdi:ds[i]?=some (ds[i]'(by omega)):=List.getElem?_eq_getElem _
  show te (some x::YI src σ) H' _
  refine step i x _ H' hx hdi sm _ fun y H'' L' s2 hy=>⟨s2 _ _ hd,by omega,by simp [hi'],⟨_,rfl⟩,.upd_over hD (sm.trans s2) _,Yc,L++L',?_⟩
  rw [XZ hdi]
  exact hL.put hLD sm s2 hy hd
 ·rintro zs σ' H' ⟨hn,_,sm,hd,L,hL,hLD⟩
  rw [← hl,List.take_length] at hL
  refine fin zs H' (D::L) sm ⟨.lst hd (by omega) hL.vl,List.nodup_cons.mpr ⟨fun h=>hLD _ h rfl,hL.nd⟩,fun a ha=>?_⟩
  rcases List.mem_cons.mp ha with e | ha
  ·subst e;exact hD
  ·exact hL.new a ha
theorem Yba {K:PySem.W.Frag} {tl:TE} {xs:List V} {b:Addr} (ds:List PyData) (ha:∀ R:V→Hp→Prop,R (.ref b) H→tl σ H R) (hS:SqL K H b xs) (hl:ds.length=xs.length) (hlen:xs.length≤10000)
  (step:∀ (i:Nat) x d H',xs[i]?=some x→ds[i]?=some d→Yd H H'→∀ R:VK,(∀ y H'' L,Yd H' H''→OwD H' H'' y d L→R y H'')→te (some x::YI src σ) H' R)
  (fin:∀ D H' L,Yd H H'→OwD H H' (.ref D) (.list ds) L→Q (.ref D) H'):tLC (none::src) (W5 K tl) (YA 0) XE te σ H Q :=
 ha _ ⟨b,rfl,⟨xs,hS⟩,fun D hD=>Ycv (Uc.imp fun H' (e:Yd H H')=>e.seq hS) ds (fun _ e=>e) hD hl hlen step fun _ H' L sm=>fin D H' L sm⟩
theorem QZ {K:PySem.W.Frag} {tl:TE} {xs:List V} {b:Addr} (ds:List PyData) (ha:∀ R:V→Hp→Prop,R (.ref b) H→tl σ H R) (hS:SqT K H b xs) (hl:ds.length=xs.length) (hlen:xs.length≤10000)
  (step:∀ (i:Nat) x d H',xs[i]?=some x→ds[i]?=some d→Yd H H'→∀ R:VK,(∀ y H'' L,Yd H' H''→OwD H' H'' y d L→R y H'')→te (some x::YI src σ) H' R)
  (fin:∀ D H' L,Yd H H'→OwD H H' (.ref D) (.list ds) L→Q (.ref D) H'):tLC (none::src) (QE K tl) (YA 0) XE te σ H Q :=
 ha _ ⟨b,rfl,⟨xs,hS⟩,fun D hD=>Ycv (U0.imp fun H' (e:Yd H H')=>e.tup hS) ds (fun _ e=>e) hD hl hlen step fun _ H' L sm=>fin D H' L sm⟩
end
def tn8:PyData→String
 | .none=>"NoneType"
 | .bool _=>"bool"
 | .int _=>"int"
 | .str _=>"str"
 | .list _=>"list"
 | .tuple _=>"tuple"
 | .dict _=>"dict"
theorem dl_ty {K:PySem.W.Frag} {H:Hp} {v:V} {d:PyData} {L:List Addr} (h:DL H v d L):TyOf K H v (.type (tn8 d)):=by
 cases h with
 | non=>exact .non
 | bl b=>exact .bl b
 | int i=>exact .int i
 | str x h=>exact .str _
 | lst h=>exact .lst h
 | tup h=>exact .tup h
theorem Va {H:Hp} {v:V} {d:PyData} (h:DL H v d []):OwD H H v d []:=⟨h,.nil,fun a h=>by cases h⟩
theorem Yeh {H H':Hp} {ys:List V} {ds:List PyData} {L:List Addr} {p:Addr} (h:OwDs H H' ys ds L) (hl:ys.length≤10000) (hp:H' p=none):OwD H (upd H' p (.tup ys)) (.ref p) (.tuple ds) L:=⟨.tup Yc hl (h.vl.keep (.upd_new hp _)),h.nd,h.new⟩
def Kt (H H':Hp):Prop:=∀ a o,(∀ ps,o ≠ .tbl ps)→H a=some o→H' a=some o
theorem Kt.refl (H:Hp):Kt H H:=fun _ _ _ e=>e
theorem Kt.trans {H H1 H2:Hp} (a:Kt H H1) (b:Kt H1 H2):Kt H H2:=fun c o n e=>b c o n (a c o n e)
theorem Y6 {H H':Hp} (s:Yd H H'):Kt H H':=fun c o _ e=>s _ _ e
theorem Kt.lst {H H':Hp} (h:Kt H H') {a:Addr} {xs:List V} (e:H a=some (.lst xs)):H' a=some (.lst xs):=h a _ (by intro ps z;cases z) e
theorem Kt.tup {H H':Hp} (h:Kt H H') {a:Addr} {xs:List V} (e:H a=some (.tup xs)):H' a=some (.tup xs):=h a _ (by intro ps z;cases z) e
theorem DL.kt {H H':Hp} {v:V} {d:PyData} {L:List Addr} (h:DL H v d L) (s:Kt H H'):DL H' v d L:=h.keepL (fun a vs e=>s.tup e) fun a _ vs e=>s.lst e
theorem DLs.kt {H H':Hp} {v:List V} {d:List PyData} {L:List Addr} (h:DLs H v d L) (s:Kt H H'):DLs H' v d L:=h.keepL (fun a vs e=>s.tup e) fun a _ vs e=>s.lst e
def DV (H:Hp) (v:V) (d:PyData):Prop:=∃ L,DL H v d L
def DVs (H:Hp) (vs:List V) (ds:List PyData):Prop:=∃ L,DLs H vs ds L
theorem DV.kt {H H':Hp} {v:V} {d:PyData} (h:DV H v d) (s:Kt H H'):DV H' v d:=by obtain ⟨L,h⟩:=h;exact ⟨L,h.kt s⟩
theorem DV.keep {H H':Hp} {v:V} {d:PyData} (h:DV H v d) (s:Yd H H'):DV H' v d:=h.kt (Y6 s)
theorem DVs.kt {H H':Hp} {v:List V} {d:List PyData} (h:DVs H v d) (s:Kt H H'):DVs H' v d:=by obtain ⟨L,h⟩:=h;exact ⟨L,h.kt s⟩
theorem DVs.keep {H H':Hp} {v:List V} {d:List PyData} (h:DVs H v d) (s:Yd H H'):DVs H' v d:=h.kt (Y6 s)
theorem DVs.nil {H:Hp}:DVs H [] []:=⟨[],.nil⟩
theorem DVs.cons {H:Hp} {v:V} {d:PyData} {vs:List V} {ds:List PyData} (h:DV H v d) (hs:DVs H vs ds):DVs H (v::vs) (d::ds):=by
 obtain ⟨L,h⟩:=h;obtain ⟨L',hs⟩:=hs;exact ⟨_,.cons h hs⟩
theorem DVs.inv {H:Hp} {v:V} {d:PyData} {vs:List V} {ds:List PyData} (h:DVs H (v::vs) (d::ds)):DV H v d∧DVs H vs ds:=by
 obtain ⟨L,h⟩:=h
 cases h with
 | cons a b=>exact ⟨⟨_,a⟩,⟨_,b⟩⟩
theorem DVs.length {H:Hp} {vs:List V} {ds:List PyData} (h:DVs H vs ds):vs.length=ds.length:=by obtain ⟨L,h⟩:=h;exact h.length
theorem DVs.at {H:Hp} {vs:List V} {ds:List PyData} {i:Nat} {v:V} (h:DVs H vs ds) (e:vs[i]?=some v):∃ d,ds[i]?=some d∧DV H v d:=by
 obtain ⟨L,h⟩:=h
 obtain ⟨d,L',e1,e2⟩:=h.at e
 exact ⟨d,e1,_,e2⟩
theorem DVs.append {H:Hp} {vs vs':List V} {ds ds':List PyData} (h:DVs H vs ds) (h':DVs H vs' ds'):DVs H (vs++vs') (ds++ds'):=by
 obtain ⟨L,h⟩:=h;obtain ⟨L',h'⟩:=h';exact ⟨_,h.append h'⟩
theorem DVs.reverse {H:Hp}:∀ {vs:List V} {ds:List PyData},DVs H vs ds→DVs H vs.reverse ds.reverse
 | [],[],_ => .nil
 | [],_::_,h=>absurd h.length (by simp)
 | _::_,[],h=>absurd h.length (by simp)
 | v::vs,d::ds,h=>by
  rw [List.reverse_cons,List.reverse_cons]
  exact h.inv.2.reverse.append (.cons h.inv.1 .nil)
theorem DV.lst {H:Hp} {a:Addr} {vs:List V} {ds:List PyData} (h:H a=some (.lst vs)) (hn:vs.length≤10000) (hs:DVs H vs ds):DV H (.ref a) (.list ds):=by obtain ⟨L,hs⟩:=hs;exact ⟨_,.lst h hn hs⟩
theorem DV.tup {H:Hp} {a:Addr} {vs:List V} {ds:List PyData} (h:H a=some (.tup vs)) (hn:vs.length≤10000) (hs:DVs H vs ds):DV H (.ref a) (.tuple ds):=by obtain ⟨L,hs⟩:=hs;exact ⟨_,.tup h hn hs⟩
theorem DV.ilst {H:Hp} {v:V} {ds:List PyData} (h:DV H v (.list ds)):∃ a vs,v = .ref a∧H a=some (.lst vs)∧vs.length≤10000∧DVs H vs ds:=by
 obtain ⟨L,h⟩:=h
 cases h with
 | lst a b c=>exact ⟨_,_,rfl,a,b,_,c⟩
theorem DV.itup {H:Hp} {v:V} {ds:List PyData} (h:DV H v (.tuple ds)):∃ a vs,v = .ref a∧H a=some (.tup vs)∧vs.length≤10000∧DVs H vs ds:=by
 obtain ⟨L,h⟩:=h
 cases h with
 | tup a b c=>exact ⟨_,_,rfl,a,b,_,c⟩
theorem DV.iint {H:Hp} {v:V} {i:Int} (h:DV H v (.int i)):v = .int i:=by obtain ⟨L,h⟩:=h;cases h;rfl
theorem DV.ibl {H:Hp} {v:V} {b:Bool} (h:DV H v (.bool b)):v = .bl b:=by obtain ⟨L,h⟩:=h;cases h;rfl
theorem DV.istr {H:Hp} {v:V} {x:Str} (h:DV H v (.str x)):v = .str x∧PyData.strOk x=true:=by obtain ⟨L,h⟩:=h;cases h;exact ⟨rfl,‹_›⟩
theorem DV.ty {K:PySem.W.Frag} {H:Hp} {v:V} {d:PyData} (h:DV H v d):TyOf K H v (.type (tn8 d)):=by obtain ⟨L,h⟩:=h;exact dl_ty h
theorem DV.den {K:PySem.W.Frag} {H:Hp} {v:V} {d:PyData} (h:DV H v d):Den K H v d:=by obtain ⟨L,h⟩:=h;exact h.den
end L2
namespace PySem
section
variable {prog:Program} {w:World} {A:Around} {E:Value→Shared→Prop} {s:Shared} {l:Addr} {xs:Array (Int×Tok)}
theorem YaB {Q:Value→Shared→Prop} (hh:A.handled=none) (ht:s.heap.IsTuple l (intItems xs))
  (h:∀ h' tk t',(∀ b o,s.heap.get? b=some o→h'.get? b=some o)→Q (.int (preSum (numAt xs) xs.size) t') { s with heap:=h',toks:=tk }) :
  wpAny (model prog w) A (call (.builtin "sum") [.ref l]) Q E s:=by
 have hlt:l<s.heap.objs.size:=by obtain ⟨_,e,_⟩:=ht;exact Heap.lt_size e
 refine call_sum_walkG (wpAny_pyIter_tuple ht ?_)
 refine ⟨_,[_,l],[_],_,_,_,numAt xs,rfl,Walks.tuple (A:=A.in1) hh _ l (Nat.ne_of_lt hlt) (intItems xs),⟨⟨_,Heap.get?_push_size _ rfl,rfl,rfl⟩,ht.push _⟩,fun c hc=>?_,(fun _ _=>intItems_at),fun h' tk t' hk=>?_⟩
 ·show c<(s.heap.push _).objs.size
  rw [Heap.size_push]
  rcases List.mem_cons.mp hc with rfl | hc
  ·exact Nat.lt_succ_self _
  ·rcases List.mem_cons.mp hc with rfl | hc
   ·exact Nat.lt_succ_of_lt hlt
   ·cases hc
 ·have hold:∀ c o,s.heap.get? c=some o→h'.get? c=some o:=fun c o e=>by
   refine hk c o (fun hm=>?_) (Heap.get?_push_of_some _ e)
   rcases List.mem_cons.mp hm with e1 | hm
   ·have:=Heap.lt_size e;rw [e1] at this;exact Nat.lt_irrefl _ this
   ·cases hm
  have:=h h' tk t' hold
  simpa [intItems] using this
end
end PySem
namespace HT
open PySem PySem.Spec PyProof.Rows
variable {prog:Program} {w:World} {A:Around} {E:Value→Shared→Prop} {s:Shared}
theorem Ydm (items:Array Value):((List.range items.size).filterMap fun (m:Nat)=>items[(((items.size:Int) - 1)+(m:Int)*(-1)).toNat]?).toArray=items.toList.reverse.toArray:=by
 have key:∀ (n:Nat),n≤items.size→((List.range n).filterMap fun (m:Nat)=>items[(((items.size:Int) - 1)+(m:Int)*(-1)).toNat]?)=items.toList.reverse.take n:=by
  intro n
  induction n with
  | zero=>intro _;simp
  | succ n ih =>
   intro hn
   rw [List.range_succ,List.filterMap_append,ih (by omega)]
   have e:(((items.size:Int) - 1)+(n:Int)*(-1)).toNat=items.size - 1 - n:=by omega
   have hx:items.toList.reverse[n]?=some (items[items.size - 1 - n]'(by omega)):=by
    rw [List.getElem?_reverse (by simp;omega)]
    simp
   rw [L2.XZ hx,List.filterMap_cons,e]
   have hlt:items.size - 1 - n<items.size:=by omega
   simp [hlt]
 rw [key items.size (Nat.le_refl _),List.take_of_length_le (by simp)]
theorem getItem_tuple_rev {t sl:Addr} {items:Array Value} {tk:Tok} {Q:Value→Shared→Prop} (ht:IsTup s.heap t items) (hs:s.heap.IsSliceOf sl .none .none (.int (-1) tk))
  (h:Q (.ref s.heap.objs.size) { s with heap:=s.heap.push { cls := .type "tuple",data := .seq items.toList.reverse.toArray } })
  (hsz:items.size≤sizeLine):wpAny (model prog w) A (getItem (.ref t) (.ref sl)) Q E s:=by
 have htake:sizeOk (.seq items.toList.reverse.toArray):=by
  show items.toList.reverse.toArray.size≤sizeLine
  rw [List.size_toArray,List.length_reverse,Array.length_toList]
  exact hsz
 obtain ⟨os,hos,hcs,hds⟩:=id hs
 have hTs:s.TypeIs (.ref sl) "slice":=⟨os,hos,hcs⟩
 unfold getItem
 try with_reducible refine wpAny_holding ?_
 first | refine wpAny_bind (wpAny_pure ?_) | skip
 refine wpAny_bind (wpAny_sequenceKey ht.typeIs (by decide) ?_)
 refine wpAny_bind (wpAny_callSpecial?_slot (name:=Str.ofString "__getitem__") ht.typeIs PyProof.Rows.slot_tuple_getitem
  (wpAny_call_entry PyProof.Rows.slot_tuple_getitem ht.typeIs entry_tuple_getitem ?_ (args_tuple_getitem _ _)))
 show wpAny _ _ (Builtin.Tuple.tupleItemsOf (.ref t) >>= _) _ _ s
 refine wpAny_bind (tupleItemsOf_ ht ?_)
 refine wpAny_bind (wpAny_typeOf hTs ?_)
 rw [if_pos (by decide)]
 have ap:∀ {A:Around} {E:Value→Shared→Prop} {Q:Int×Int×Nat→Shared→Prop},Q ((items.size:Int) - 1,-1,items.size) s→wpAny (model prog w) A (Builtin.Slice.sliceApplied (.ref sl) (pure (items.size:Int))) Q E s:=by
  intro A E Q h
  unfold Builtin.Slice.sliceApplied Builtin.Slice.sliceFields
  refine wpAny_bind (wpAny_bind (wpAny_field hos hds (x := .none) rfl (wpAny_bind (wpAny_field hos hds (x := .none) rfl (wpAny_bind (wpAny_field hos hds (x := .int (-1) tk) rfl (wpAny_pure ?_)))))))
  refine wpAny_bind (slicePart_int ?_)
  show wpAny _ _ (if ((-1:Int)==0)=true then _ else _) _ _ s
  rw [if_neg (by decide)]
  refine wpAny_bind (slicePart_none (wpAny_bind (slicePart_none (wpAny_bind (wpAny_pure ?_)))))
  show wpAny _ _ (match Builtin.Slice.sliceAdjust none none (-1) (items.size:Int) with | (lo,hi)=>pure (lo,(-1:Int),Builtin.Slice.slicePlaces lo hi (-1))) _ _ s
  have e1:Builtin.Slice.sliceAdjust none none (-1) (items.size:Int)=((items.size:Int) - 1,-1):=by simp [Builtin.Slice.sliceAdjust]
  rw [e1]
  have e2:Builtin.Slice.slicePlaces ((items.size:Int) - 1) (-1) (-1)=items.size:=by
   unfold Builtin.Slice.slicePlaces
   simp only [show ¬ ((-1:Int)>0) by decide,if_false]
   split
   ·have:((items.size:Int) - 1 - -1 - 1)=(items.size:Int) - 1:=by omega
    rw [this,show (- -1:Int)=1 from rfl,Int.ediv_one];omega
   ·omega
  show wpAny _ _ (pure ((items.size:Int) - 1,(-1:Int),Builtin.Slice.slicePlaces ((items.size:Int) - 1) (-1) (-1))) _ _ s
  rw [e2]
  exact wpAny_pure h
 refine wpAny_bind (ap ?_)
 show wpAny _ _ (if (((items.size:Int) - 1)==0&&(-1:Int)==1&&items.size==items.size)=true then _ else _) _ _ s
 rw [if_neg (by simp),Ydm]
 first
  | exact wpAny_bind (m:=Builtin.Tuple.tupleExact _) (wpAny_newObj_type (wpAny_pure ⟨_,rfl,wpAny_pure h⟩) htake)
  | exact wpAny_bind (m:=Builtin.Tuple.tupleExact _) (wpAny_newObj_type (wpAny_bind (wpAny_pure (wpAny_pure ⟨_,rfl,wpAny_pure h⟩))) htake)
  | exact wpAny_bind (wpAny_bind (m:=Builtin.Tuple.tupleExact _) (wpAny_newObj_type (wpAny_pure (wpAny_pure ⟨_,rfl,wpAny_pure h⟩)) htake))
  | exact wpAny_bind (wpAny_bind (m:=Builtin.Tuple.tupleExact _) (wpAny_newObj_type (wpAny_pure ⟨_,rfl,wpAny_pure h⟩) htake))
end HT
namespace L2
open PySem PySem.Spec PyProof.Rows
def Vb (z:Str):Str:=⟨z.cps.toList.reverse.toArray⟩
theorem Ycw (n:Nat):Builtin.Str.strSliceIndices none none (-1) n=(List.range n).map fun (k:Nat)=>n - 1 - k:=by
 unfold Builtin.Str.strSliceIndices
 simp
 unfold sliceRange
 simp only [show ¬ ((-1:Int)>0) by decide,if_false]
 have hc:(if (n:Int) - 1 > -1 then ((n:Int) - 1 - -1 - -1 - 1) / - -1 else 0).toNat=n:=by
  split
  ·have:((n:Int) - 1 - -1 - -1 - 1)=n:=by omega
   rw [this,show (- -1:Int)=1 from rfl,Int.ediv_one];omega
  ·omega
 rw [hc]
 apply List.map_congr_left
 intro k hk
 have:k<n:=List.mem_range.mp hk
 omega
theorem Ycx (z:Str):(⟨(((List.range z.length).map fun (k:Nat)=>z.length - 1 - k).filterMap (z.cps[·]?)).toArray⟩:Str)=Vb z:=by
 have hl:z.length=z.cps.size:=rfl
 rw [List.filterMap_map]
 have key:∀ (n:Nat),n≤z.cps.size→(List.filterMap ((fun x=>z.cps[x]?) ∘ fun k=>z.length - 1 - k) (List.range n))=z.cps.toList.reverse.take n:=by
  intro n
  induction n with
  | zero=>intro _;simp
  | succ n ih =>
   intro hn
   rw [List.range_succ,List.filterMap_append,ih (by omega)]
   have hx:z.cps.toList.reverse[n]?=some (z.cps[z.cps.size - 1 - n]'(by omega)):=by
    rw [List.getElem?_reverse (by simp;omega)]
    simp
   rw [XZ hx]
   have hlt:z.cps.size - 1 - n<z.cps.size:=by omega
   simp [hl,hlt]
 rw [hl] at key ⊢
 rw [key z.cps.size (Nat.le_refl _),List.take_of_length_le (by simp)]
 rfl
theorem VH (z:Str):(Vb z).length=z.length:=by simp [Vb,Str.length]
section
variable {X:Cx} {e st:Expr} {te ts:TE} {pos p2:Pos} {K:PySem.W.Frag}
def YdP (K:PySem.W.Frag) (te ts:TE):TE:=fun σ H Q=>te σ H fun x H1=>ts σ H1 fun y H2=>y = .int (-1)∧((∃ a xs,x = .ref a∧SqL K H2 a xs∧∀ p,H2 p=none→Q (.ref p) (upd H2 p (.lst xs.reverse))) ∨
 (∃ a xs,x = .ref a∧SqT K H2 a xs∧∀ p,H2 p=none→Q (.ref p) (upd H2 p (.tup xs.reverse)))∨∃ z,x = .str z∧z.length≤sizeLine∧Q (.str (Vb z)) H2)
theorem Yei (he:PE X e te) (hs:PE X st ts) (hK:X.K=K):PE X (.Subscript e (.Slice none none (some st) p2) pos) (YdP K te ts):=by
 subst hK
 intro pins s σ H Q I h
 refine Subscript_ (thn (he pins s σ H _ I h) fun v s1 ⟨x,H1,I1,r1,q1⟩=>?_)
 refine wpAny_Slice ?_
 rw [evalPart_none]
 refine wpAny_pure (wpAny_pure ?_)
 rw [evalPart_some]
 refine thn (hs pins s1 σ H1 _ I1 q1) fun u s2 ⟨y,H2,I2,r2,q2⟩=>?_
 obtain ⟨rfl,q2⟩:=q2
 obtain ⟨t,rfl⟩:=r2
 have I4:Inv X pins σ H2 { s2 with heap:=s2.heap.push { cls := .type "slice",data := .fields #[.none,.none,.int (-1) t] } }:=I2.kept (t':=s2.toks) fun b ob q=>Heap.get?_push_of_some _ q
 rcases q2 with ⟨a,xs,rfl,hx,q⟩ | ⟨a,xs,rfl,hx,q⟩ | ⟨z,rfl,hz,q⟩
 ·cases r1
  obtain ⟨its,r,ht,hz⟩:=I4.list hx
  have hlen:=r.length
  have hg:=wpAny_getItem_list_slice (prog:=X.prog) (w:=X.w) (A:=X.A) (E:=X.xe) (Q:=EP X pins σ Q) ht.isList (Heap.IsSliceOf.new ..) .none .none (.int (-1) t) (by decide) (by
   rw [Qi]
   refine ⟨.ref _,_,I4.laid (t':=_) (o := .lst xs.reverse) (fun b ob q=>Heap.get?_push_of_some _ q) (Nat.le_refl _) ?_,rfl,q _ (I4.hok.fresh (Nat.le_refl _))⟩
   exact ⟨by rw [List.length_reverse];exact hz,_,0,r.reverse,Heap.get?_push_size _ rfl⟩) (by rw [List.size_toArray]<;>omega)
  exact tail_any (ops:=[.ref a,.ref s2.heap.objs.size]) ht.isList.typeIs slot_list_getitem.lookup hg (by with_unfolding_all rfl)
 ·cases r1
  obtain ⟨its,r,ht,hz⟩:=I4.tuple hx
  have hlen:=r.length
  have hg:=HT.getItem_tuple_rev (prog:=X.prog) (w:=X.w) (A:=X.A) (E:=X.xe) (Q:=EP X pins σ Q) ht (Heap.IsSliceOf.new ..) (by
   refine ⟨.ref _,_,I4.laid (t':=_) (o := .tup xs.reverse) (fun b ob q=>Heap.get?_push_of_some _ q) (Nat.le_refl _) ?_,rfl,q _ (I4.hok.fresh (Nat.le_refl _))⟩
   exact ⟨by rw [List.length_reverse];exact hz,_,r.reverse,IsTup.new _ _⟩) (by rw [List.size_toArray];omega)
  exact tail_any (ops:=[.ref a,.ref s2.heap.objs.size]) ht.typeIs PyProof.Rows.slot_tuple_getitem.lookup hg (by with_unfolding_all rfl)
 ·obtain ⟨tz,rfl⟩:=r1
  have hg:wpAny (model X.prog X.w) X.A (getItem (.str z tz) (.ref s2.heap.objs.size)) (EP X pins σ Q) X.xe { s2 with heap:=s2.heap.push { cls := .type "slice",data := .fields #[.none,.none,.int (-1) t] } }:=by
   refine wpAny_getItem_str_slice (l:=none) (u:=none) (st:=some (-1,t)) ⟨_,Heap.get?_push_size _ rfl,rfl,rfl⟩ rfl ?_
   have e:(if (((some ((-1:Int),t)).map (·.1)).getD 1==1&&(slicePicked z none none (some (-1,t))).length==z.length)=true then z else ⟨((slicePicked z none none (some (-1,t))).filterMap (z.cps[·]?)).toArray⟩)=Vb z:=by
    rw [if_neg (by simp)]
    show (⟨((Builtin.Str.strSliceIndices none none (-1) z.length).filterMap (z.cps[·]?)).toArray⟩:Str)=_
    rw [Ycw]
    exact Ycx z
   refine post_val_or_str ⟨by rw [e,VH];exact hz,fun t' k=>?_⟩
   rw [e]
   exact ⟨.str (Vb z),H2,I4.tok k,⟨t',rfl⟩,q⟩
  exact tail_any (ops:=[.str z tz,.ref s2.heap.objs.size]) (typeIs_str _ _ _) F.slot_str_getitem.lookup hg (by with_unfolding_all rfl)
theorem Q0 (hc:X.calm=true:=by rfl):Xm X (.builtin "sum") (fun xs H Q=>∃ (p:Addr) (ns:List Int),xs=[.ref p]∧SqT X.K H p (ns.map V.int)∧Q (.int ns.sum) H):=by
 intro pins s σ H xs us Q I r h
 obtain ⟨p,ns,rfl,hq,q⟩:=h
 obtain ⟨u,rfl,rx⟩:=Ws r
 cases rx
 obtain ⟨its,r',pl,hz⟩:=I.tuple hq
 have hi:=V8 r'
 have hl:s.heap.IsTuple p its.toArray:=pl
 obtain ⟨xs,ex⟩:=hi.allInts.items
 rw [ex] at hl
 have e:preSum (numAt xs) xs.size=ns.sum:=by
  have h1:=nums_intItems (xs:=xs)
  rw [← ex] at h1
  have h2:=hi.numsOf
  rw [preSum_eq,List.take_of_length_le (by simp)]
  rw [← h1]
  exact congrArg List.sum h2
 refine YaB (I.ok.hd hc) hl fun h' tk t' hk=>?_
 rw [e]
 exact ⟨.int _,H,I.kept (t':=tk) hk,⟨t',rfl⟩,q⟩
theorem Ye0 {f:Value→Value→Sem Value} {r1 r2:R2} (h1:OpR X f r1) (h2:OpR X f r2):OpR X f (fun x y H Q=>r1 x y H Q∨r2 x y H Q):=fun pins s σ H x y v u Q I rx ry h =>
 h.elim (h1 pins s σ H x y v u Q I rx ry) (h2 pins s σ H x y v u Q I rx ry)
end
end L2
namespace L2
open PySem
theorem VI (x y:Str):(x++y).length=x.length+y.length:=by
 show (x.cps++y.cps).size=_
 rw [Array.size_append];rfl
def isB:PyData→Bool
 | .bool _=>true
 | _=>false
def isI:PyData→Bool
 | .int _=>true
 | _=>false
def isS:PyData→Bool
 | .str _=>true
 | _=>false
def isL:PyData→Bool
 | .list _=>true
 | _=>false
def isT:PyData→Bool
 | .tuple _=>true
 | _=>false
noncomputable def sm (a b:PyData):Bool:=@decide (a=b) (Classical.propDecidable _)
theorem Vc {a b:PyData}:sm a b=true↔a=b:=by unfold sm;exact @decide_eq_true_iff _ (Classical.propDecidable _)
theorem Xw (a:PyData):sm a a=true:=Vc.mpr rfl
theorem Wm {a b:PyData} (h:a≠b):sm a b=false:=by
 cases e:sm a b with
 | false=>rfl
 | true=>exact absurd (Vc.mp e) h
theorem Q1 {a b:PyData} {c:Bool} (h:a=b↔c=true):sm a b=c:=by
 cases c with
 | true=>exact Vc.mpr (h.mpr rfl)
 | false=>exact Wm fun e=>by have:=h.mp e;cases this
theorem Ybb (a b:PyData):sm a b=sm b a:=by
 by_cases h:a=b
 ·subst h;rfl
 ·rw [Wm h,Wm (Ne.symm h)]
inductive Tm where
 | num (i:Int) | here | part (t:Tm) (k:Int) | count (t:Tm) | sum (t:Tm) | not (t:Tm) | turned (t:Tm)
 | same (a b:Tm) | both (a b:Tm) | when (a b c:Tm) | each (a b:Tm) | joined (a b:Tm) | plus (a b:Tm) | times (a b:Tm) | less (a b:Tm)
abbrev Say:=Except Str PyData
def Yn:PyData→Option (List PyData)
 | .list xs=>some xs
 | .tuple xs=>some xs
 | _=>none
def Xe:List PyData→Option Int
 | []=>some 0
 | .int i::r=>(Xe r).map (i+·)
 | _::_=>none
def take (mk:Str) (s:Say) (f:PyData→Option α):Except Str α:=match s with
 | .error m => .error m
 | .ok d=>match f d with
  | some a => .ok a
  | none => .error mk
def Wn:PyData→Option Int
 | .int i=>some i
 | _=>none
def Xh:PyData→Option Bool
 | .bool b=>some b
 | _=>none
def Uo:PyData→Option Nat
 | .list xs=>some xs.length
 | .tuple xs=>some xs.length
 | .str x=>some x.length
 | _=>none
def Ycy:PyData→Option PyData
 | .list xs=>some (.list xs.reverse)
 | .tuple xs=>some (.tuple xs.reverse)
 | .str x=>some (.str (Vb x))
 | _=>none
def Xo (mk:Str) (f:PyData→Say):List PyData→Say
 | [] => .ok (.bool true)
 | x::xs=>match take mk (f x) Xh with
  | .error m => .error m
  | .ok true=>Xo mk f xs
  | .ok false => .ok (.bool false)
noncomputable def tell:Tm→PyData→Say
 | .num i,_ => .ok (.int i)
 | .here,d => .ok d
 | .part t k,d=>take "part" (tell t d) fun x=>(Yn x).bind fun xs=>if 0≤k then xs[k.toNat]? else none
 | .count t,d=>(take "count" (tell t d) Uo).map fun (n:Nat)=>PyData.int (n:Int)
 | .sum t,d=>(take "sum" (tell t d) fun x=>(Yn x).bind Xe).map .int
 | .not t,d=>(take "not" (tell t d) Xh).map fun b => .bool (!b)
 | .turned t,d=>take "turned" (tell t d) Ycy
 | .same a b,d=>match tell a d with
  | .error m => .error m
  | .ok x=>(tell b d).map fun y => .bool (sm x y)
 | .both a b,d=>match take "both" (tell a d) Xh with
  | .error m => .error m
  | .ok false => .ok (.bool false)
  | .ok true=>(take "both" (tell b d) Xh).map .bool
 | .when a b c,d=>match take "when" (tell a d) Xh with
  | .error m => .error m
  | .ok true=>tell b d
  | .ok false=>tell c d
 | .each a b,d=>match take "each" (tell a d) Yn with
  | .error m => .error m
  | .ok xs=>Xo "each" (fun x=>tell b x) xs
 | .joined a b,d=>match tell a d with
  | .error m => .error m
  | .ok (.list xs)=>take "joined" (tell b d) fun y=>match y with
   | .list ys=>some (.list (xs++ys))
   | _=>none
  | .ok (.str x)=>take "joined" (tell b d) fun y=>match y with
   | .str z=>some (.str (x++z))
   | _=>none
  | .ok _ => .error "joined"
 | .plus a b,d=>match take "plus" (tell a d) Wn with
  | .error m => .error m
  | .ok i=>(take "plus" (tell b d) Wn).map fun j => .int (i+j)
 | .times a b,d=>match take "times" (tell a d) Wn with
  | .error m => .error m
  | .ok i=>(take "times" (tell b d) Wn).map fun j => .int (i*j)
 | .less a b,d=>match take "less" (tell a d) Wn with
  | .error m => .error m
  | .ok i=>(take "less" (tell b d) Wn).map fun j => .bool (decide (i<j))
def Yw (H:Hp):Tm→V→Prop
 | .num i,v=>∃ a,v = .ref a∧H a=some (.tup [.str "num",.int i])
 | .here,v=>∃ a r,v = .ref a∧H a=some (.tup [.str "here",r])
 | .part t k,v=>∃ a p u,v = .ref a∧H a=some (.tup [.str "part",.ref p])∧H p=some (.tup [u,.int k])∧Yw H t u
 | .count t,v=>∃ a u,v = .ref a∧H a=some (.tup [.str "count",u])∧Yw H t u
 | .sum t,v=>∃ a u,v = .ref a∧H a=some (.tup [.str "sum",u])∧Yw H t u
 | .not t,v=>∃ a u,v = .ref a∧H a=some (.tup [.str "not",u])∧Yw H t u
 | .turned t,v=>∃ a u,v = .ref a∧H a=some (.tup [.str "turned",u])∧Yw H t u
 | .same x y,v=>∃ a p u w,v = .ref a∧H a=some (.tup [.str "same",.ref p])∧H p=some (.tup [u,w])∧Yw H x u∧Yw H y w
 | .both x y,v=>∃ a p u w,v = .ref a∧H a=some (.tup [.str "both",.ref p])∧H p=some (.tup [u,w])∧Yw H x u∧Yw H y w
 | .when x y z,v=>∃ a p u w q,v = .ref a∧H a=some (.tup [.str "when",.ref p])∧H p=some (.tup [u,w,q])∧Yw H x u∧Yw H y w∧Yw H z q
 | .each x y,v=>∃ a p u w,v = .ref a∧H a=some (.tup [.str "each",.ref p])∧H p=some (.tup [u,w])∧Yw H x u∧Yw H y w
 | .joined x y,v=>∃ a p u w,v = .ref a∧H a=some (.tup [.str "joined",.ref p])∧H p=some (.tup [u,w])∧Yw H x u∧Yw H y w
 | .plus x y,v=>∃ a p u w,v = .ref a∧H a=some (.tup [.str "plus",.ref p])∧H p=some (.tup [u,w])∧Yw H x u∧Yw H y w
 | .times x y,v=>∃ a p u w,v = .ref a∧H a=some (.tup [.str "times",.ref p])∧H p=some (.tup [u,w])∧Yw H x u∧Yw H y w
 | .less x y,v=>∃ a p u w,v = .ref a∧H a=some (.tup [.str "less",.ref p])∧H p=some (.tup [u,w])∧Yw H x u∧Yw H y w
theorem Yw.tps {H H':Hp} (h:Tps H H'):∀ {t:Tm} {v:V},Yw H t v→Yw H' t v
 | .num i,v,⟨a,e,z⟩=>⟨a,e,h _ _ z⟩
 | .here,v,⟨a,r,e,z⟩=>⟨a,r,e,h _ _ z⟩
 | .part t k,v,⟨a,p,u,e,z,y,x⟩=>⟨a,p,u,e,h _ _ z,h _ _ y,Yw.tps h x⟩
 | .count t,v,⟨a,u,e,z,x⟩=>⟨a,u,e,h _ _ z,Yw.tps h x⟩
 | .sum t,v,⟨a,u,e,z,x⟩=>⟨a,u,e,h _ _ z,Yw.tps h x⟩
 | .not t,v,⟨a,u,e,z,x⟩=>⟨a,u,e,h _ _ z,Yw.tps h x⟩
 | .turned t,v,⟨a,u,e,z,x⟩=>⟨a,u,e,h _ _ z,Yw.tps h x⟩
 | .same _ _,v,⟨a,p,u,w,e,z,y,x1,x2⟩=>⟨a,p,u,w,e,h _ _ z,h _ _ y,Yw.tps h x1,Yw.tps h x2⟩
 | .both _ _,v,⟨a,p,u,w,e,z,y,x1,x2⟩=>⟨a,p,u,w,e,h _ _ z,h _ _ y,Yw.tps h x1,Yw.tps h x2⟩
 | .when _ _ _,v,⟨a,p,u,w,q,e,z,y,x1,x2,x3⟩=>⟨a,p,u,w,q,e,h _ _ z,h _ _ y,Yw.tps h x1,Yw.tps h x2,Yw.tps h x3⟩
 | .each _ _,v,⟨a,p,u,w,e,z,y,x1,x2⟩=>⟨a,p,u,w,e,h _ _ z,h _ _ y,Yw.tps h x1,Yw.tps h x2⟩
 | .joined _ _,v,⟨a,p,u,w,e,z,y,x1,x2⟩=>⟨a,p,u,w,e,h _ _ z,h _ _ y,Yw.tps h x1,Yw.tps h x2⟩
 | .plus _ _,v,⟨a,p,u,w,e,z,y,x1,x2⟩=>⟨a,p,u,w,e,h _ _ z,h _ _ y,Yw.tps h x1,Yw.tps h x2⟩
 | .times _ _,v,⟨a,p,u,w,e,z,y,x1,x2⟩=>⟨a,p,u,w,e,h _ _ z,h _ _ y,Yw.tps h x1,Yw.tps h x2⟩
 | .less _ _,v,⟨a,p,u,w,e,z,y,x1,x2⟩=>⟨a,p,u,w,e,h _ _ z,h _ _ y,Yw.tps h x1,Yw.tps h x2⟩
theorem Yw.keep {H H':Hp} (h:Kt H H') {t:Tm} {v:V} (x:Yw H t v):Yw H' t v:=x.tps fun a vs e=>h.tup e
structure IB (n:Nat) (i:Int):Prop where
 h:i.natAbs<2^(200*2^n)
theorem VV {a b:Nat} (h:a≤b):(2:Nat)^a≤2^b:=Nat.pow_le_pow_right (by decide) h
theorem IB.mono {n m:Nat} {i:Int} (h:IB n i) (e:n≤m):IB m i:=⟨Nat.lt_of_lt_of_le h.h (VV (Nat.mul_le_mul_left _ (VV e)))⟩
theorem IB.ofNat {n k:Nat} (h:k≤64*2^n):IB n (k:Int):=by
 refine ⟨?_⟩
 rw [Int.natAbs_natCast]
 refine Nat.lt_of_le_of_lt h ?_
 have e:64*2^n=2^(6+n):=by rw [Nat.pow_add]
 rw [e]
 refine Nat.pow_lt_pow_right (by decide) ?_
 have:=Nat.lt_two_pow_self (n:=n)
 omega
theorem YbP (n:Nat):200*2^(n+1)=200*2^n+200*2^n:=by rw [Nat.pow_succ];omega
theorem IB.add {n:Nat} {i j:Int} (h:IB n i) (k:IB n j):IB (n+1) (i+j):=by
 refine ⟨?_⟩
 have h1:=h.h
 have h2:=k.h
 have h3:=Int.natAbs_add_le i j
 have h4:(2:Nat)^(200*2^n+1)≤2^(200*2^(n+1)):=VV (by rw [YbP];have:=Nat.lt_two_pow_self (n:=n);omega)
 rw [Nat.pow_succ] at h4
 omega
theorem IB.mul {n:Nat} {i j:Int} (h:IB n i) (k:IB n j):IB (n+1) (i*j):=by
 refine ⟨?_⟩
 rw [Int.natAbs_mul,YbP,Nat.pow_add]
 exact Nat.mul_lt_mul'' h.h k.h
mutual
def hb:PyData→Prop
 | .list xs=>xs.length≤64∧hbs xs
 | .tuple xs=>xs.length≤64∧hbs xs
 | .str x=>x.length≤64
 | .int i=>IB 0 i
 | .none=>True
 | .bool _=>True
 | .dict _=>False
def hbs:List PyData→Prop
 | []=>True
 | d::ds=>hb d∧hbs ds
end
def Pk (n:Nat):PyData→Prop
 | .list xs=>xs.length≤64*2^n∧hbs xs
 | .tuple xs=>xs.length≤64*2^n∧hbs xs
 | .str x=>x.length≤64*2^n
 | .int i=>IB n i
 | .none=>True
 | .bool _=>True
 | .dict _=>False
theorem Qw {d:PyData} (h:hb d):Pk 0 d:=by
 cases d<;>simp only [hb,Pk] at h ⊢<;>simpa using h
theorem Pk.mono {n m:Nat} {d:PyData} (h:Pk n d) (e:n≤m):Pk m d:=by
 have e2:=Nat.mul_le_mul_left 64 (VV e)
 cases d with
 | list xs=>exact ⟨Nat.le_trans h.1 e2,h.2⟩
 | tuple xs=>exact ⟨Nat.le_trans h.1 e2,h.2⟩
 | str x=>exact Nat.le_trans h e2
 | int i=>exact IB.mono h e
 | none=>trivial
 | bool b=>trivial
 | dict xs=>exact h
theorem Vw:∀ {xs:List PyData} {i:Nat} {d:PyData},hbs xs→xs[i]?=some d→hb d
 | x::xs,0,d,h,e=>by cases (show some x=some d from e);exact h.1
 | x::xs,i+1,d,h,e=>Vw (xs:=xs) (i:=i) h.2 (by simpa using e)
theorem Wf {xs:List PyData} {d:PyData} (h:hbs xs) (e:d∈xs):hb d:=by
 obtain ⟨i,hi⟩:=List.getElem?_of_mem e
 exact Vw h hi
theorem Vp:∀ {xs:List PyData},(∀ d∈xs,hb d)→hbs xs
 | [],_=>trivial
 | x::xs,h=>⟨h x (.head _),Vp fun d hd=>h d (.tail _ hd)⟩
theorem YbQ {xs ys:List PyData} (h:hbs xs) (k:hbs ys):hbs (xs++ys):=Vp fun d hd=>(List.mem_append.mp hd).elim (Wf h) (Wf k)
theorem VJ {xs:List PyData} (h:hbs xs):hbs xs.reverse:=Vp fun d hd=>Wf h (List.mem_reverse.mp hd)
theorem Ycz:∀ {xs:List PyData} {s:Int},hbs xs→Xe xs=some s→s.natAbs≤xs.length*2^200
 | [],s,_,e=>by cases e;simp
 | .int i::xs,s,h,e=>by
  simp only [Xe,Option.map_eq_some_iff] at e
  obtain ⟨z,e1,rfl⟩:=e
  have h1:=Ycz h.2 e1
  have h2:=(show IB 0 i from h.1).h
  have h3:=Int.natAbs_add_le i z
  rw [Nat.pow_zero,Nat.mul_one] at h2
  rw [List.length_cons,Nat.add_mul,Nat.one_mul]
  omega
 | .none::_,_,_,e=>by cases e
 | .bool _::_,_,_,e=>by cases e
 | .str _::_,_,_,e=>by cases e
 | .list _::_,_,_,e=>by cases e
 | .tuple _::_,_,_,e=>by cases e
 | .dict _::_,_,_,e=>by cases e
theorem IB.sum {n:Nat} {xs:List PyData} {s:Int} (h:hbs xs) (hl:xs.length≤64*2^n) (e:Xe xs=some s):IB (n+1) s:=by
 refine ⟨Nat.lt_of_le_of_lt (Ycz h e) ?_⟩
 refine Nat.lt_of_le_of_lt (Nat.mul_le_mul_right _ hl) ?_
 have e1:64*2^n*2^200=2^(6+n+200):=by rw [Nat.pow_add,Nat.pow_add]
 rw [e1]
 refine Nat.pow_lt_pow_right (by decide) ?_
 have:=Nat.lt_two_pow_self (n:=n)
 rw [YbP]
 omega
def Tm.dep:Tm→Nat
 | .num _=>0
 | .here=>0
 | .part t _=>t.dep+1
 | .count t=>t.dep+1
 | .sum t=>t.dep+1
 | .not t=>t.dep+1
 | .turned t=>t.dep+1
 | .same a b=>max a.dep b.dep+1
 | .both a b=>max a.dep b.dep+1
 | .when a b c=>max a.dep (max b.dep c.dep)+1
 | .each a b=>max a.dep b.dep+1
 | .joined a b=>max a.dep b.dep+1
 | .plus a b=>max a.dep b.dep+1
 | .times a b=>max a.dep b.dep+1
 | .less a b=>max a.dep b.dep+1
def Tm.ok:Tm→Prop
 | .num i=>IB 0 i
 | .here=>True
 | .part t k=>0≤k∧t.ok
 | .count t=>t.ok
 | .sum t=>t.ok
 | .not t=>t.ok
 | .turned t=>t.ok
 | .same a b=>a.ok∧b.ok
 | .both a b=>a.ok∧b.ok
 | .when a b c=>a.ok∧b.ok∧c.ok
 | .each a b=>a.ok∧b.ok
 | .joined a b=>a.ok∧b.ok
 | .plus a b=>a.ok∧b.ok
 | .times a b=>a.ok∧b.ok
 | .less a b=>a.ok∧b.ok
theorem Yx {d:PyData}:∀ {ds:List PyData},d∈ds→d.depth≤PyData.depthAll ds
 | e::ds,h=>by
  simp only [PyData.depthAll]
  rcases List.mem_cons.mp h with rfl | h
  ·omega
  ·have:=Yx h
   omega
theorem XR {n:Nat}:∀ {ds:List PyData},(∀ d∈ds,d.depth≤n)→PyData.depthAll ds≤n
 | [],_=>by simp [PyData.depthAll]
 | e::ds,h=>by
  simp only [PyData.depthAll]
  have h1:=h e (.head _)
  have h2:=XR (ds:=ds) fun d hd=>h d (.tail _ hd)
  omega
theorem XA {α:Type} {mk:Str} {s:Say} {f:PyData→Option α} {a:α} (h:take mk s f = .ok a):∃ d,s = .ok d∧f d=some a:=by
 cases s with
 | error m=>cases h
 | ok d =>
  refine ⟨d,rfl,?_⟩
  simp only [take] at h
  cases e:f d with
  | none=>rw [e] at h;cases h
  | some b=>rw [e] at h;cases h;rfl
theorem X7 {α β:Type} {s:Except Str α} {f:α→β} {b:β} (h:s.map f = .ok b):∃ a,s = .ok a∧f a=b:=by
 cases s with
 | error m=>cases h
 | ok a=>cases h;exact ⟨a,rfl,rfl⟩
theorem VM {mk:Str} {f:PyData→Say}:∀ {xs:List PyData} {e:PyData},Xo mk f xs = .ok e→∃ b,e = .bool b
 | [],e,h=>by cases h;exact ⟨_,rfl⟩
 | x::xs,e,h=>by
  simp only [Xo] at h
  split at h
  ·cases h
  ·exact VM h
  ·cases h;exact ⟨_,rfl⟩
theorem YX:∀ {t:Tm} {k:Nat} {d e:PyData},t.ok→Pk k d→tell t d = .ok e→Pk (k+t.dep) e∧e.depth≤d.depth
 | .num i,k,d,e,ho,hp,h=>by
  cases h
  exact ⟨Pk.mono (n:=0) (show IB 0 i from ho) (Nat.zero_le _),by simp [PyData.depth]⟩
 | .here,k,d,e,ho,hp,h=>by cases h;exact ⟨hp,Nat.le_refl _⟩
 | .part t z,k,d,e,ho,hp,h=>by
  obtain ⟨x,h1,h2⟩:=XA h
  obtain ⟨p1,p2⟩:=YX (t:=t) ho.2 hp h1
  obtain ⟨xs,h3,h4⟩:=Option.bind_eq_some_iff.mp h2
  split at h4
  ·cases x with
   | list ys =>
    cases h3
    refine ⟨(Qw (Vw p1.2 h4)).mono (Nat.zero_le _),?_⟩
    have:=Yx (List.mem_of_getElem? h4)
    rw [PyData.depth] at p2
    omega
   | tuple ys =>
    cases h3
    refine ⟨(Qw (Vw p1.2 h4)).mono (Nat.zero_le _),?_⟩
    have:=Yx (List.mem_of_getElem? h4)
    rw [PyData.depth] at p2
    omega
   | _=>cases h3
  ·cases h4
 | .count t,k,d,e,ho,hp,h=>by
  obtain ⟨n,h1,rfl⟩:=X7 h
  obtain ⟨x,h1,h2⟩:=XA h1
  obtain ⟨p1,p2⟩:=YX (t:=t) ho hp h1
  refine ⟨?_,by simp [PyData.depth]⟩
  refine (IB.ofNat (n:=k+t.dep) ?_).mono (by simp only [Tm.dep];omega)
  cases x with
  | list ys=>cases h2;exact p1.1
  | tuple ys=>cases h2;exact p1.1
  | str y=>cases h2;exact p1
  | _=>cases h2
 | .sum t,k,d,e,ho,hp,h=>by
  obtain ⟨n,h1,rfl⟩:=X7 h
  obtain ⟨x,h1,h2⟩:=XA h1
  obtain ⟨p1,p2⟩:=YX (t:=t) ho hp h1
  refine ⟨?_,by simp [PyData.depth]⟩
  obtain ⟨xs,h3,h4⟩:=Option.bind_eq_some_iff.mp h2
  cases x with
  | list ys=>cases h3;exact IB.sum p1.2 p1.1 h4
  | tuple ys=>cases h3;exact IB.sum p1.2 p1.1 h4
  | _=>cases h3
 | .not t,k,d,e,ho,hp,h=>by
  obtain ⟨n,h1,rfl⟩:=X7 h
  exact ⟨trivial,by simp [PyData.depth]⟩
 | .turned t,k,d,e,ho,hp,h=>by
  obtain ⟨x,h1,h2⟩:=XA h
  obtain ⟨p1,p2⟩:=YX (t:=t) ho hp h1
  have rv:∀ ys:List PyData,PyData.depthAll ys.reverse≤PyData.depthAll ys:=fun ys=>XR fun d hd=>Yx (List.mem_reverse.mp hd)
  have up:=Nat.mul_le_mul_left 64 (VV (show k+t.dep≤k+(t.dep+1) by omega))
  cases x with
  | list ys =>
   cases h2
   have:=rv ys
   simp only [PyData.depth] at p2 ⊢
   exact ⟨⟨by rw [List.length_reverse];exact Nat.le_trans p1.1 up,VJ p1.2⟩,by omega⟩
  | tuple ys =>
   cases h2
   have:=rv ys
   simp only [PyData.depth] at p2 ⊢
   exact ⟨⟨by rw [List.length_reverse];exact Nat.le_trans p1.1 up,VJ p1.2⟩,by omega⟩
  | str y=>cases h2;exact ⟨by show (Vb y).length≤_;rw [VH];exact Nat.le_trans p1 up,by simp [PyData.depth]⟩
  | _=>cases h2
 | .same a b,k,d,e,ho,hp,h=>by
  simp only [tell] at h
  split at h
  ·cases h
  ·obtain ⟨y,_,rfl⟩:=X7 h
   exact ⟨trivial,by simp [PyData.depth]⟩
 | .both a b,k,d,e,ho,hp,h=>by
  simp only [tell] at h
  split at h
  ·cases h
  ·cases h;exact ⟨trivial,by simp [PyData.depth]⟩
  ·obtain ⟨y,_,rfl⟩:=X7 h
   exact ⟨trivial,by simp [PyData.depth]⟩
 | .when a b c,k,d,e,ho,hp,h=>by
  simp only [tell] at h
  split at h
  ·cases h
  ·obtain ⟨p1,p2⟩:=YX (t:=b) ho.2.1 hp h
   exact ⟨p1.mono (by simp only [Tm.dep];omega),p2⟩
  ·obtain ⟨p1,p2⟩:=YX (t:=c) ho.2.2 hp h
   exact ⟨p1.mono (by simp only [Tm.dep];omega),p2⟩
 | .each a b,k,d,e,ho,hp,h=>by
  simp only [tell] at h
  split at h
  ·cases h
  ·obtain ⟨y,rfl⟩:=VM h
   exact ⟨trivial,by simp [PyData.depth]⟩
 | .joined a b,k,d,e,ho,hp,h=>by
  simp only [tell] at h
  have up:64*2^(k+(max a.dep b.dep+1))=64*2^(k+max a.dep b.dep)+64*2^(k+max a.dep b.dep):=by rw [← Nat.add_assoc,Nat.pow_succ];omega
  have u1:=Nat.mul_le_mul_left 64 (VV (show k+a.dep≤k+max a.dep b.dep by omega))
  have u2:=Nat.mul_le_mul_left 64 (VV (show k+b.dep≤k+max a.dep b.dep by omega))
  split at h
  ·cases h
  ·next xs hx =>
   obtain ⟨y,h1,h2⟩:=XA h
   obtain ⟨p1,p2⟩:=YX (t:=a) ho.1 hp hx
   obtain ⟨p3,p4⟩:=YX (t:=b) ho.2 hp h1
   cases y with
   | list ys =>
    cases h2
    have p5:=p1.1
    have p6:=p3.1
    refine ⟨⟨?_,YbQ p1.2 p3.2⟩,?_⟩
    ·show (xs++ys).length≤64*2^(k+(max a.dep b.dep+1))
     rw [List.length_append,up]
     omega
    ·simp only [PyData.depth] at p2 p4 ⊢
     have:PyData.depthAll (xs++ys)≤max (PyData.depthAll xs) (PyData.depthAll ys):=XR fun z hz=>by
      rcases List.mem_append.mp hz with hz | hz
      ·have:=Yx hz;omega
      ·have:=Yx hz;omega
     omega
   | _=>cases h2
  ·next x hx =>
   obtain ⟨y,h1,h2⟩:=XA h
   obtain ⟨p1,p2⟩:=YX (t:=a) ho.1 hp hx
   obtain ⟨p3,p4⟩:=YX (t:=b) ho.2 hp h1
   cases y with
   | str z =>
    cases h2
    refine ⟨?_,by simp [PyData.depth]⟩
    have p5:x.length≤64*2^(k+a.dep):=p1
    have p6:z.length≤64*2^(k+b.dep):=p3
    show (x++z).length≤64*2^(k+(max a.dep b.dep+1))
    rw [up,VI]
    omega
   | _=>cases h2
  ·cases h
 | .plus a b,k,d,e,ho,hp,h=>by
  simp only [tell] at h
  split at h
  ·cases h
  ·next i hi =>
   obtain ⟨x,h1,h2⟩:=XA hi
   obtain ⟨j,h3,rfl⟩:=X7 h
   obtain ⟨y,h4,h5⟩:=XA h3
   obtain ⟨p1,_⟩:=YX (t:=a) ho.1 hp h1
   obtain ⟨p2,_⟩:=YX (t:=b) ho.2 hp h4
   cases x<;>cases h2
   cases y<;>cases h5
   refine ⟨?_,by simp [PyData.depth]⟩
   exact IB.add (n:=k+max a.dep b.dep) (IB.mono p1 (by omega)) (IB.mono p2 (by omega))
 | .times a b,k,d,e,ho,hp,h=>by
  simp only [tell] at h
  split at h
  ·cases h
  ·next i hi =>
   obtain ⟨x,h1,h2⟩:=XA hi
   obtain ⟨j,h3,rfl⟩:=X7 h
   obtain ⟨y,h4,h5⟩:=XA h3
   obtain ⟨p1,_⟩:=YX (t:=a) ho.1 hp h1
   obtain ⟨p2,_⟩:=YX (t:=b) ho.2 hp h4
   cases x<;>cases h2
   cases y<;>cases h5
   refine ⟨?_,by simp [PyData.depth]⟩
   exact IB.mul (n:=k+max a.dep b.dep) (IB.mono p1 (by omega)) (IB.mono p2 (by omega))
 | .less a b,k,d,e,ho,hp,h=>by
  simp only [tell] at h
  split at h
  ·cases h
  ·obtain ⟨j,h3,rfl⟩:=X7 h
   exact ⟨trivial,by simp [PyData.depth]⟩
end L2
namespace L2
open PySem PySem.Spec PyProof.Rows
section
variable {X:Cx} {k:Nat}
end
def sb:Nat→Nat
 | 0=>60
 | n+1=>4*sb n+11
end L2
namespace L2
open PySem PySem.Spec PyProof.Rows
section
variable {M:Model} {A:Around} {E:Value→Shared→Prop} {s:Shared} {Q:Value→Shared→Prop}
theorem YaC {v:Value} {d:Bool} (hv:∀ id,v ≠ .builtin id) (h:Q (.bool (v == .bool d)) s):wpAny M A (compareOp .Is v (.bool d)) Q E s:=by
 cases v<;>first | exact wpAny_pure (a:=Value.bool (_==Value.bool d)) h | exact absurd rfl (hv _)
end
section
variable {X:Cx}
theorem Ye1:OpR X (compareOp .Is) (fun x y H Q=>∃ b,y = .bl b∧Q (.bl (decide (x = .bl b))) H):=by
 intro pins s σ H x y v u Q I rx ry h
 obtain ⟨b,rfl,q⟩:=h
 cases ry
 have hv:∀ id,v ≠ .builtin id:=fun id z=>by
  subst z
  cases x<;>first | (cases rx;done) | (obtain ⟨t,e⟩:=rx;cases e;done)
 refine YaC hv (YG I q ?_)
 cases x<;>first
  | (cases rx;cases b<;>rfl)
  | (cases rx;rename_i c;cases b<;>cases c<;>rfl)
  | (obtain ⟨t,rfl⟩:=rx;cases b<;>rfl)
end
def YdQ (K:PySem.W.Frag) (cv:Value) (sp:Sp) (t:TA) (ts:TS):TS:=fun D σ H=>t σ H fun vs H1=>sp (vs++[]) H1 (fun v H2=>D.rt (.bl (decide (v = .bl true))) H2) (fun cls _ H2=>PySem.W.exmOne K cls cv=some true∧ts D σ H2)
section
variable {g:Gx} {X:Cx} {k j:Nat} {f c:Str} {ps:List Str} {sp:Sp} {e:Expr} {es:List Expr} {t:TA} {ts:TS} {b₀:Stmt} {suite:List Stmt} {cv:Value} {kk:Nat} {fp cp hpos apos cpos bpos mpos pos:Pos}
theorem Yej (F:g.FnX j f ps sp) (hr:Room k X.A) (ha:PA X.nox (e::es) t) (hcm:g.mg c=some cv) (hsu:∀ a,PSs (X.caught a) (b₀::suite) ts)
  (hj:j≤k) (hX:X.gx=g) (hs:X.stack=X.env::X.outer) (hf:X.env.frame=some X.env.locals) (hg:Gl X f) (hc:Gl X c) (hdf:(f==("__debug__":Str))=false) (hdb:(c==("__debug__":Str))=false)
  (he:starEach (e::es) X.env=(false,eval e X.env)::starEach es X.env) (hpl:(backTo cpos (starEach es X.env)).any (·.1)=false) (hmk:behindInMarks .Is (.Constant (.bool true) kk bpos)=false) :
  PS X (.Try [.Return (some (.Compare (.Call (.Name f fp) (e::es) [] cpos) [.Is] [.Constant (.bool true) kk bpos] mpos)) apos] [.ExceptHandler (some (.Name c cp)) none (b₀::suite) hpos] [] [] pos) (YdQ X.K cv sp t ts):=by
 subst hX
 intro pins s σ H D I h
 obtain ⟨fa,fd,F,b,kp,hm⟩:=F
 refine wpAny_Try_except ?_
 refine wpAny_execs_cons ?_
 refine wpAny_Return_some ?_
 refine wpAny_Compare1 (thn (Q:=EP X pins σ fun v H2=>D.rt (.bl (decide (v = .bl true))) H2) ?_ fun v s1 hz=>?_) hmk
 ·refine wpAny_Call_Name_kw (Ww I hg hm ?_ hdf)
  refine PySem.W.callWith_K (h₀:=X.base) I.ok.mod.kin kp (wpAny_mono (ha cpos pins s σ H _ (I.wish _) h) (fun us s1 hz=>?_) fun _ _ z=>z.elim) he hpl
  obtain ⟨vs,H1,I1,r,q⟩:=hz
  have I1:=I1.unwish
  refine ⟨I1.kIn,?_⟩
  have r2:Yl (vs++[]) (us++[]):=r.append .nil
  have hl:(us++[]).length=ps.length:=by rw [← r2.length];exact F.len _ _ _ _ q
  refine wpAny_call (codeAny_mono (F.run X.A X.stack s1 H1 ⟨us,[]⟩ (us++[]) (vs++[]) _ _ (hr.mono hj) I1.env0 (b s1 us I1.kIn hl) r2 q) fun r s' hq=>?_)
  cases r with
  | error e=>exact I1.catch hs hf hq hsu hc hcm hdb
  | ok fl =>
   cases fl with
   | ret u=>exact I1.after hq
   | next=>exact False.elim hq
   | brk=>exact False.elim hq
   | cont=>exact False.elim hq
 ·obtain ⟨y,H1,I1,r1,q1⟩:=hz
  refine wpAny_mono (Y4 (X:=X.nox) pins s1 σ H1 (fun x H2=>x = .bl true∧H2=H1) (I1.wish _) ⟨rfl,rfl⟩) (fun u s2 hz=>?_) fun _ _ z=>z.elim
  obtain ⟨x,H2,I2,r2,rfl,rfl⟩:=hz
  refine wpAny_mono (Ye1 (X:=X.nox) pins s2 σ _ y (.bl true) v u (fun x H2=>D.rt x H2) I2 r1 r2 ⟨true,rfl,q1⟩) (fun u2 s3 hz=>?_) fun _ _ z=>z.elim
  obtain ⟨x,H3,I3,r3,q3⟩:=hz
  have I3:=I3.unwish
  exact ⟨x,σ,H3,I3,r3,q3⟩
end
def Vd (K:PySem.W.Frag) (tabs:Tbs):Sp:=fun vs H Q _=>∃ (a:Addr) (ns:List Int),vs=[.ref a]∧SqX K H a (ns.map V.int)∧ns.length≤63∧(∀ q∈tabs,H q.2.2=some (.tbl #[]))∧∀ H',Q (.bl true) H'
theorem YcA {l:PySem.W.OpenLaw} {q:Program} {loose:List Str} {XP:(Str→Option Value)→Heap→Prop} {YP:World→Heap→Prop} {d:DefRec} {K:Params→PySem.W.Frag} (tabs:Tbs) (k:Nat) (x:Str) (st:Stmt) (N:List Str) (hn:l.most=some 63) (hdf:d.params.defaults=[]) (hk:Room (k+1) callerA) (S:FnScope N [x] (Yi st))
  (hY:∀ (w:World) (h:Heap),YP w h→(K w.params).In h)
  (hrec:∀ p∈tabs,∃ d',(recsOf q).find? (fun e=>e.name==p.1)=some d')
  (htab:∀ (w:World),∀ p∈tabs,PySem.W.tabIn (K w.params) p.1=some p.2)
  (hno:∀ (w:World),∀ p∈tabs,(K w.params).lookup p.2.2=none)
  (F:∀ (w:World) (mg:Str→Option Value) (h:Heap),(K w.params).In h→h.Ns mainGlobals mg→Ycj (K w.params) mg st x d.name∧∀ base,Bm mg base→(∀ p∈tabs,PySem.W.CodeHd base p.2.1 p.2.2)→QO (Gx.mk l.prog w (K w.params) mg base) k N d.name st (Vd (K w.params) tabs)) :
  PySem.W.WalkO q loose XP YP l.row.toRowW d [] (fun f vs=>PySem.call f vs):=by
 refine Att.attach_call hn hdf fun w s₀ s₁ mg mb fa o pm cd doc a vs ns G Y ho hd hcd hmg hobj hints hlen hg=>?_
 have KX:=hY w _ Y
 obtain ⟨⟨f,fd,Fu,hb,hm⟩,B⟩:=F w mg _ KX G.T.g
 have e:=hmg.symm.trans hm
 cases e
 refine Ycr (CX:=CX0) (sp:=Vd (K w.params) tabs) tabs KX G.T.g G.T.b G.T.builtins G.T.nolimit hg hobj hints (Nat.le_trans hlen (by decide)) hk (fun p hp=>?_) (hno w) G.T.bmain
  (fun base _ _ hB hC=>Fu.ok S (fun vs H Q E h=>by obtain ⟨a,ns,rfl,_⟩:=h;rfl) fun cdv A outer s H vs Q E hr h=>B base hB hC fa cdv A outer s H vs Q E hr h) hb (fun H hT hS=>⟨a,ns,rfl,(by
  rcases hS with h | ⟨o',its,n,hk',h1,h2,h3,h4,h5⟩
  ·exact .inl h
  ·have e2:=KX a o' hk'
   rw [hobj] at e2
   cases e2
   cases h3
   exact .inr ⟨_,_,hk',h4,h5⟩),hlen,hT,fun _=>rfl⟩) fun H e s' z=>z
 obtain ⟨d',hd'⟩:=hrec p hp
 exact PySem.W.tab_of G.T KX hd' (htab w p hp)
end L2
set_option maxHeartbeats 8000000
namespace KW
open PySem L2
def top (i:Nat):Stmt:=PySem.Challenge.pw_countgen_k56_same_and_judges.main.body.getD i (.Pass ⟨0,0,0,0⟩)
abbrev ZO:Stmt:=top 4
theorem Z0S:FnScope ["thing"] ["thing"] (Yi ZO):=⟨rfl,rfl,rfl,by decide +kernel,rfl,by decide +kernel,by decide +kernel⟩
abbrev Z0p:Stmt:=top 6
theorem Z0h:FnScope ["one","other","mine","others"] ["one","other"] (Yi Z0p):=⟨rfl,rfl,rfl,by decide +kernel,rfl,by decide +kernel,by decide +kernel⟩
abbrev Q3:Stmt:=top 7
theorem Yek:FnScope ["one","other"] ["one","other"] (Yi Q3):=⟨rfl,rfl,rfl,by decide +kernel,rfl,by decide +kernel,by decide +kernel⟩
abbrev Z0E:Stmt:=top 8
theorem YaD:FnScope ["thing"] ["thing"] (Yi Z0E):=⟨rfl,rfl,rfl,by decide +kernel,rfl,by decide +kernel,by decide +kernel⟩
abbrev Z0T:Stmt:=top 9
theorem YbR:FnScope ["thing"] ["thing"] (Yi Z0T):=⟨rfl,rfl,rfl,by decide +kernel,rfl,by decide +kernel,by decide +kernel⟩
abbrev Z0U:Stmt:=top 10
theorem YbS:FnScope ["thing"] ["thing"] (Yi Z0U):=⟨rfl,rfl,rfl,by decide +kernel,rfl,by decide +kernel,by decide +kernel⟩
abbrev ZC:Stmt:=top 11
theorem Z0P:FnScope ["thing"] ["thing"] (Yi ZC):=⟨rfl,rfl,rfl,by decide +kernel,rfl,by decide +kernel,by decide +kernel⟩
abbrev ZP:Stmt:=top 12
theorem Z0V:FnScope ["thing"] ["thing"] (Yi ZP):=⟨rfl,rfl,rfl,by decide +kernel,rfl,by decide +kernel,by decide +kernel⟩
abbrev Zj:Stmt:=top 13
theorem Z0i:FnScope ["thing"] ["thing"] (Yi Zj):=⟨rfl,rfl,rfl,by decide +kernel,rfl,by decide +kernel,by decide +kernel⟩
abbrev Zy:Stmt:=top 14
theorem Z0F:FnScope ["thing"] ["thing"] (Yi Zy):=⟨rfl,rfl,rfl,by decide +kernel,rfl,by decide +kernel,by decide +kernel⟩
abbrev UH:Stmt:=top 15
theorem Q4:FnScope ["mark","term","thing","can_take","found"] ["mark","term","thing","can_take"] (Yi UH):=⟨rfl,rfl,rfl,by decide +kernel,rfl,by decide +kernel,by decide +kernel⟩
abbrev ZT:Stmt:=top 16
theorem Z0W:FnScope ["body","thing","place"] ["body","thing"] (Yi ZT):=⟨rfl,rfl,rfl,by decide +kernel,rfl,by decide +kernel,by decide +kernel⟩
abbrev Z08:Stmt:=top 17
theorem ZZ:FnScope ["mark","body","thing","one","other"] ["mark","body","thing"] (Yi Z08):=⟨rfl,rfl,rfl,by decide +kernel,rfl,by decide +kernel,by decide +kernel⟩
abbrev Z0q:Stmt:=top 18
theorem Q5:FnScope ["body","thing"] ["body","thing"] (Yi Z0q):=⟨rfl,rfl,rfl,by decide +kernel,rfl,by decide +kernel,by decide +kernel⟩
abbrev Z0r:Stmt:=top 19
theorem Q6:FnScope ["body","thing"] ["body","thing"] (Yi Z0r):=⟨rfl,rfl,rfl,by decide +kernel,rfl,by decide +kernel,by decide +kernel⟩
abbrev Z0s:Stmt:=top 20
theorem Q7:FnScope ["body","thing"] ["body","thing"] (Yi Z0s):=⟨rfl,rfl,rfl,by decide +kernel,rfl,by decide +kernel,by decide +kernel⟩
abbrev Z0t:Stmt:=top 21
theorem Z0X:FnScope ["body","thing","inner"] ["body","thing"] (Yi Z0t):=⟨rfl,rfl,rfl,by decide +kernel,rfl,by decide +kernel,by decide +kernel⟩
abbrev Z0c:Stmt:=top 22
theorem Z0D:FnScope ["body","thing","one"] ["body","thing"] (Yi Z0c):=⟨rfl,rfl,rfl,by decide +kernel,rfl,by decide +kernel,by decide +kernel⟩
abbrev Q8:Stmt:=top 23
theorem UI:FnScope ["term","thing","mark","body"] ["term","thing"] (Yi Q8):=⟨rfl,rfl,rfl,by decide +kernel,rfl,by decide +kernel,by decide +kernel⟩
abbrev Z0u:Stmt:=top 24
theorem Q9:FnScope ["term","thing"] ["term","thing"] (Yi Z0u):=⟨rfl,rfl,rfl,by decide +kernel,rfl,by decide +kernel,by decide +kernel⟩
abbrev Z0d:Stmt:=top 25
theorem YaE:FnScope ["term"] ["term"] (Yi Z0d):=⟨rfl,rfl,rfl,by decide +kernel,rfl,by decide +kernel,by decide +kernel⟩
abbrev Z0G:Stmt:=top 27
theorem YaF:FnScope ["_law_cells","_law_many"] ["_law_cells","_law_many"] (Yi Z0G):=⟨rfl,rfl,rfl,by decide +kernel,rfl,by decide +kernel,by decide +kernel⟩
abbrev Z0v:Stmt:=top 28
theorem ZD:FnScope ["_law_cells","_law_left","_law_first","_law_more","_law_kind","_law_some"] ["_law_cells","_law_left"] (Yi Z0v):=⟨rfl,rfl,rfl,by decide +kernel,rfl,by decide +kernel,by decide +kernel⟩
abbrev Z0w:Stmt:=top 29
theorem Yaa:FnScope ["_law_one","_law_other_here"] ["_law_one","_law_other_here"] (Yi Z0w):=⟨rfl,rfl,rfl,by decide +kernel,rfl,by decide +kernel,by decide +kernel⟩
abbrev Z0x:Stmt:=top 30
theorem Z0j:FnScope ["_law_thing_here","_law_cell","_law_at","_law_made"] ["_law_thing_here","_law_cell"] (Yi Z0x):=⟨rfl,rfl,rfl,by decide +kernel,rfl,by decide +kernel,by decide +kernel⟩
abbrev Z0H:Stmt:=top 31
theorem YaG:FnScope ["_law_thing_here"] ["_law_thing_here"] (Yi Z0H):=⟨rfl,rfl,rfl,by decide +kernel,rfl,by decide +kernel,by decide +kernel⟩
abbrev Z0y:Stmt:=top 32
theorem Yab:FnScope ["_law_thing_here"] ["_law_thing_here"] (Yi Z0y):=⟨rfl,rfl,rfl,by decide +kernel,rfl,by decide +kernel,by decide +kernel⟩
abbrev VW:Stmt:=top 33
theorem YcB:FnScope ["_law_found","_law_due"] ["_law_found","_law_due"] (Yi VW):=⟨rfl,rfl,rfl,by decide +kernel,rfl,by decide +kernel,by decide +kernel⟩
abbrev Z0k:Stmt:=top 34
theorem Qm:FnScope ["_law_thing_here"] ["_law_thing_here"] (Yi Z0k):=⟨rfl,rfl,rfl,by decide +kernel,rfl,by decide +kernel,by decide +kernel⟩
abbrev Qx:Stmt:=top 35
theorem YU:FnScope ["_law_script","_law_way","_law_cells","_law_one","_law_other_here","_law_many","_law_k","_law_due","_law_here","_law_first","_law_second","_law_alike_here","_law_less","_law_added","_law_other_way","_law_both","_law_pair","_law_truth"] ["_law_script"] (Yi Qx):=⟨rfl,rfl,rfl,by decide +kernel,rfl,by decide +kernel,by decide +kernel⟩
abbrev ZQ:Stmt:=Yd2 (top 2) 0
theorem Z0Y:FnScope ["self","mark"] ["self","mark"] (Yi ZQ):=⟨rfl,rfl,rfl,by decide +kernel,rfl,by decide +kernel,by decide +kernel⟩
theorem Z0Z {g:Gx} {C B:Addr} (R:g.RawX "Astray" C "Astray.__init__" ZQ ["self","mark"]) (b:BInit g "CountError" B) (xf:ExFl g.K C B) (xn_mark:PySem.W.findIn g.K (.ref C) "mark"=some none):g.MaX "Astray" C ["self","mark"] ["mark"]:=by
 refine R.maX Z0Y (fun vs H Q E h=>Yee h) fun f_ cdv A outer s H vs Q E hr h=>?_
 refine ⟨_,Ye (YdX (Ydj b R.own (Ya (pv 0) (Ya Yy Yb)))) (Yf (Yed xf xn_mark (pv 0) (pv 1))),?_⟩
 exact spI_1 h
abbrev ZA:Expr:=lendE (YdO ZT 1)
theorem Z1c:ClScope ["found","place"] ["found"] ["place"] (W8 ZA):=⟨rfl,rfl,rfl,by decide +kernel,rfl,rfl,by decide,by decide +kernel,by decide +kernel,by decide +kernel,by decide +kernel⟩
abbrev Zd:Str:="part_told.<locals>.<lambda>"
theorem WI:((("part_told":Str)++(".<locals>.":Str))++("<lambda>":Str))=Zd:=by decide +kernel
abbrev Zr (cl:List (Str×Addr)) (c:Addr) (pm ctv:Value):FuncData:=PySem.W.kla_fn "<lambda>" Zd (Ya3 ZA) (Ya4 ZA) (W8 ZA) cl pm (.ref c) ctv
abbrev ZK:Expr:=retE (YdO Z0d 0)
theorem Z1i:ClScope ["thing","term"] ["thing"] ["term"] (W8 ZK):=⟨rfl,rfl,rfl,by decide +kernel,rfl,rfl,by decide,by decide +kernel,by decide +kernel,by decide +kernel,by decide +kernel⟩
abbrev Zc:Str:="judge_of.<locals>.<lambda>"
theorem Up:((("judge_of":Str)++(".<locals>.":Str))++("<lambda>":Str))=Zc:=by decide +kernel
abbrev Zn (cl:List (Str×Addr)) (c:Addr) (pm ctv:Value):FuncData:=PySem.W.kla_fn "<lambda>" Zc (Ya3 ZK) (Ya4 ZK) (W8 ZK) cl pm (.ref c) ctv
variable {g:Gx}
local macro_rules | `(tactic| walk_at "sd")=>`(tactic| simp (config:={ failIfUnchanged:=false,maxSteps:=10000000 }) only [l_num,l_here,l_count,l_sum,l_not,l_turned,l_plus,l_times,l_less,l_same,l_both,l_each,l_joined,l_part,l_when,ms_inj,in_cons,in_nil,Bool.or_false,Bool.false_or,Bool.or_self,Bool.true_or,Bool.or_true,reduceCtorEq,V.str.injEq,List.mem_cons,List.not_mem_nil,or_false,false_or,or_true,true_or,or_self,not_true_eq_false,not_false_eq_true,if_true,if_false,ite_true,ite_false,decide_true,decide_false,Bool.false_eq_true,and_true,true_and,and_false,false_and,false_implies,true_implies])
local macro_rules | `(tactic| walk_at "rd")=>`(tactic| simp (config:={ failIfUnchanged:=false,maxSteps:=10000000 }) only [L2.start,YeM,nox_K,List.map_cons,List.map_nil,List.length_cons,List.length_nil,List.cons_append,List.nil_append,List.replicate_succ,List.replicate_zero,Nat.zero_add,Nat.reduceAdd,Nat.reduceSub,Nat.sub_self,XO,tIfS,YdD,tOp,tC,Xs,rI0,rI,rU,tUn,Ybp,tRetN,Ybo,YdC,YeA,tCont,Ybq,YA,WC,Xb,Wt,Vk,tCB,Qq,tTry,YeQ,YeP,sFld,tFld,tMake,tMeth,Ends.gone,Yc7,tB,tAnd,tOr,tNot,YdA,tOrV,YdB,tIf,Yb8,YdZ,YdF,tSl,YeB,tAug,Yby,Ybz,rSlL,tLst,tTup,WD,tRev,tLZ,tConT,YeN,rBits,rFind,rIn,tBM,tBM0,YaT,Yc0,rEq,rNe,Yd5,Yd6,rCat,YdG,gSub,ipI,YI,List.getD_cons_zero,List.getD_cons_succ,decide_true,not_true_eq_false,not_false_eq_true,
 exists_eq_left',exists_eq_left,exists_eq',exists_eq,exists_and_left,and_assoc,Option.some.injEq,V.int.injEq,V.bl.injEq,V.ref.injEq,V.str.injEq,List.getElem?_cons_zero,List.getElem?_cons_succ,List.set_cons_zero,List.set_cons_succ,List.cons.injEq,and_true,true_and,List.append_nil,decide_eq_true_eq,Bool.not_eq_true',decide_eq_false_iff_not,Bool.not_not,Bool.not_true,Bool.not_false,Bool.true_eq_false,Bool.false_eq_true,if_true,if_false,ite_true,ite_false])
theorem cm {i j:Int} {m n:Nat} (h1:i.natAbs<2^m) (h2:j.natAbs<2^n) (h:m+n≤100000000:=by decide):Qv i j:=⟨m,n,h1,h2,h⟩
theorem YbT {i j:Int} (h:0≤j∧j≤1000000∧i.natAbs<2^64:=by decide):CPow i j:=h
theorem few {n:Nat} (h:n≤100000):n≤sizeLine:=Nat.le_trans h (by decide)
theorem WY (x:Int) {j:Int} (h:0<j):∃ r:Nat,x%j=r∧(r:Int)<j:=⟨(x%j).toNat,by have:=Int.emod_nonneg x (Int.ne_of_gt h);omega,by have:=Int.emod_lt_of_pos x h;have:=Int.emod_nonneg x (Int.ne_of_gt h);omega⟩
def Y2 (f:PyData→Bool):Sp:=fun vs H Q _=>∃ (v:V) (d:PyData),vs=[v]∧DV H v d∧Q (.bl (f d)) H
theorem Z10 {Z0 Z1:Addr} {c_part_told P_part_told:Addr} {c_judge_of P_judge_of:Addr} (R:g.Raw "is_whole_number" "is_whole_number" ZO ["thing"]) (b_bool:g.mg "bool"=none) (b_int:g.mg "int"=none) (Z2:g.mg "isinstance"=none):g.Fn (1) "is_whole_number" ["thing"] (Y2 isI):=by
 refine R.fn Z0S (fun vs H Q E h=>by obtain ⟨v,d,rfl,hd,q⟩:=h;rfl) fun f_ cdv A outer s H vs Q E hr h=>?_
 obtain ⟨v,d,rfl,hd,q⟩:=h
 refine ⟨_,(@Yf _ _ _ (@Yj _ _ _ _ (@Y8 _ _ _ _ _ _ _ (@YE _ _ _ _ _ _ _ _ _ _ Z2 Yt (@Ya _ _ _ _ _ (pv 0) (@Ya _ _ _ _ _ (@YJ _ _ _ _ ("int") b_int (by decide +kernel) (by rfl) (by rfl) (by decide) (by decide)) Yb (by rfl)) (by rfl)) (by decide +kernel) (by rfl) (by rfl) (by decide) (by decide) (by rfl) (by rfl)) (@Xc _ _ _ _ _ (@V1 _ _ _ _ (@YE _ _ _ _ _ _ _ _ _ _ Z2 Yt (@Ya _ _ _ _ _ (pv 0) (@Ya _ _ _ _ _ (@YJ _ _ _ _ ("bool") b_bool (by decide +kernel) (by rfl) (by rfl) (by decide) (by decide)) Yb (by rfl)) (by rfl)) (by decide +kernel) (by rfl) (by rfl) (by decide) (by decide) (by rfl) (by rfl))))))),?_⟩
 walk_at "rd"
 have ty:=hd.ty (K:=g.K)
 cases d with
 | bool b=>exact ⟨_,rfl,_,ty,true,rfl,VN ⟨_,rfl,_,ty,true,rfl,q⟩⟩
 | int i=>exact ⟨_,rfl,_,ty,true,rfl,VN ⟨_,rfl,_,ty,false,rfl,q⟩⟩
 | _=>exact ⟨_,rfl,_,ty,false,rfl,Wq q⟩
theorem YaH {Z0 Z1:Addr} {c_part_told P_part_told:Addr} {c_judge_of P_judge_of:Addr} (R:g.Raw "is_truth" "is_truth" Z0E ["thing"]) (b_bool:g.mg "bool"=none) (Z2:g.mg "isinstance"=none):g.Fn (1) "is_truth" ["thing"] (Y2 isB):=by
 refine R.fn YaD (fun vs H Q E h=>by obtain ⟨v,d,rfl,hd,q⟩:=h;rfl) fun f_ cdv A outer s H vs Q E hr h=>?_
 obtain ⟨v,d,rfl,hd,q⟩:=h
 refine ⟨_,(@Yf _ _ _ (@Yj _ _ _ _ (@YE _ _ _ _ _ _ _ _ _ _ Z2 Yt (@Ya _ _ _ _ _ (pv 0) (@Ya _ _ _ _ _ (@YJ _ _ _ _ ("bool") b_bool (by decide +kernel) (by rfl) (by rfl) (by decide) (by decide)) Yb (by rfl)) (by rfl)) (by decide +kernel) (by rfl) (by rfl) (by decide) (by decide) (by rfl) (by rfl)))),?_⟩
 walk_at "rd"
 have ty:=hd.ty (K:=g.K)
 cases d with
 | bool b=>exact ⟨_,rfl,_,ty,true,rfl,q⟩
 | _=>exact ⟨_,rfl,_,ty,false,rfl,q⟩
theorem YbU {Z0 Z1:Addr} {c_part_told P_part_told:Addr} {c_judge_of P_judge_of:Addr} (R:g.Raw "is_text" "is_text" Z0T ["thing"]) (Z2:g.mg "isinstance"=none) (b_str:g.mg "str"=none):g.Fn (1) "is_text" ["thing"] (Y2 isS):=by
 refine R.fn YbR (fun vs H Q E h=>by obtain ⟨v,d,rfl,hd,q⟩:=h;rfl) fun f_ cdv A outer s H vs Q E hr h=>?_
 obtain ⟨v,d,rfl,hd,q⟩:=h
 refine ⟨_,(@Yf _ _ _ (@Yj _ _ _ _ (@YE _ _ _ _ _ _ _ _ _ _ Z2 Yt (@Ya _ _ _ _ _ (pv 0) (@Ya _ _ _ _ _ (@YJ _ _ _ _ ("str") b_str (by decide +kernel) (by rfl) (by rfl) (by decide) (by decide)) Yb (by rfl)) (by rfl)) (by decide +kernel) (by rfl) (by rfl) (by decide) (by decide) (by rfl) (by rfl)))),?_⟩
 walk_at "rd"
 have ty:=hd.ty (K:=g.K)
 cases d with
 | str b=>exact ⟨_,rfl,_,ty,true,rfl,q⟩
 | _=>exact ⟨_,rfl,_,ty,false,rfl,q⟩
theorem YbV {Z0 Z1:Addr} {c_part_told P_part_told:Addr} {c_judge_of P_judge_of:Addr} (R:g.Raw "is_list" "is_list" Z0U ["thing"]) (Z2:g.mg "isinstance"=none) (b_list:g.mg "list"=none):g.Fn (1) "is_list" ["thing"] (Y2 isL):=by
 refine R.fn YbS (fun vs H Q E h=>by obtain ⟨v,d,rfl,hd,q⟩:=h;rfl) fun f_ cdv A outer s H vs Q E hr h=>?_
 obtain ⟨v,d,rfl,hd,q⟩:=h
 refine ⟨_,(@Yf _ _ _ (@Yj _ _ _ _ (@YE _ _ _ _ _ _ _ _ _ _ Z2 Yt (@Ya _ _ _ _ _ (pv 0) (@Ya _ _ _ _ _ (@YJ _ _ _ _ ("list") b_list (by decide +kernel) (by rfl) (by rfl) (by decide) (by decide)) Yb (by rfl)) (by rfl)) (by decide +kernel) (by rfl) (by rfl) (by decide) (by decide) (by rfl) (by rfl)))),?_⟩
 walk_at "rd"
 have ty:=hd.ty (K:=g.K)
 cases d with
 | list b=>exact ⟨_,rfl,_,ty,true,rfl,q⟩
 | _=>exact ⟨_,rfl,_,ty,false,rfl,q⟩
def Xj (d:PyData):Bool:=(Yn d).isSome
def Yac (d:PyData):Bool:=isL d||isS d
def Vx (d:PyData):Bool:=(Uo d).isSome
def UJ (d:PyData):Bool:=((Yn d).bind Xe).isSome
def XM (f:PyData→Bool):Sp:=fun vs H Q _=>∃ (v:V) (d:PyData),vs=[v]∧DV H v d∧∀ H',Yd H H'→Q (.bl (f d)) H'
theorem Z0Q {Z0 Z1:Addr} {c_part_told P_part_told:Addr} {c_judge_of P_judge_of:Addr} (R:g.Raw "is_list_or_tuple" "is_list_or_tuple" ZC ["thing"]) (Z2:g.mg "isinstance"=none) (b_list:g.mg "list"=none) (Z3:g.mg "tuple"=none):g.Fn (1) "is_list_or_tuple" ["thing"] (XM Xj):=by
 refine R.fn Z0P (fun vs H Q E h=>by obtain ⟨v,d,rfl,hd,q⟩:=h;rfl) fun f_ cdv A outer s H vs Q E hr h=>?_
 obtain ⟨v,d,rfl,hd,q⟩:=h
 refine ⟨_,(@Yf _ _ _ (@Yj _ _ _ _ (@YE _ _ _ _ _ _ _ _ _ _ Z2 Xg (@Ya _ _ _ _ _ (pv 0) (@Ya _ _ _ _ _ (@YN _ _ _ _ _ (@Ya _ _ _ _ _ (@YJ _ _ _ _ ("list") b_list (by decide +kernel) (by rfl) (by rfl) (by decide) (by decide)) (@Ya _ _ _ _ _ (@YJ _ _ _ _ ("tuple") Z3 (by decide +kernel) (by rfl) (by rfl) (by decide) (by decide)) Yb (by rfl)) (by rfl))) Yb (YF _ _ _ _ _)) (by rfl)) (by decide +kernel) (by rfl) (by rfl) (by decide) (by decide) (by rfl) (by rfl)))),?_⟩
 walk_at "rd"
 refine ⟨by decide,fun p hp=>⟨["list","tuple"],Yc,?_⟩⟩
 have s:=Yd.upd_new hp (HO.tup [V.ty "list",V.ty "tuple"])
 have ty:=(hd.keep s).ty (K:=g.K)
 have q':=q _ s
 cases d with
 | list b=>exact ⟨_,ty,true,rfl,q'⟩
 | tuple b=>exact ⟨_,ty,true,rfl,q'⟩
 | _=>exact ⟨_,ty,false,rfl,q'⟩
theorem Z11 {Z0 Z1:Addr} {c_part_told P_part_told:Addr} {c_judge_of P_judge_of:Addr} (R:g.Raw "is_list_or_text" "is_list_or_text" ZP ["thing"]) (Z2:g.mg "isinstance"=none) (b_list:g.mg "list"=none) (b_str:g.mg "str"=none):g.Fn (1) "is_list_or_text" ["thing"] (XM Yac):=by
 refine R.fn Z0V (fun vs H Q E h=>by obtain ⟨v,d,rfl,hd,q⟩:=h;rfl) fun f_ cdv A outer s H vs Q E hr h=>?_
 obtain ⟨v,d,rfl,hd,q⟩:=h
 refine ⟨_,(@Yf _ _ _ (@Yj _ _ _ _ (@YE _ _ _ _ _ _ _ _ _ _ Z2 Xg (@Ya _ _ _ _ _ (pv 0) (@Ya _ _ _ _ _ (@YN _ _ _ _ _ (@Ya _ _ _ _ _ (@YJ _ _ _ _ ("list") b_list (by decide +kernel) (by rfl) (by rfl) (by decide) (by decide)) (@Ya _ _ _ _ _ (@YJ _ _ _ _ ("str") b_str (by decide +kernel) (by rfl) (by rfl) (by decide) (by decide)) Yb (by rfl)) (by rfl))) Yb (YF _ _ _ _ _)) (by rfl)) (by decide +kernel) (by rfl) (by rfl) (by decide) (by decide) (by rfl) (by rfl)))),?_⟩
 walk_at "rd"
 refine ⟨by decide,fun p hp=>⟨["list","str"],Yc,?_⟩⟩
 have s:=Yd.upd_new hp (HO.tup [V.ty "list",V.ty "str"])
 have ty:=(hd.keep s).ty (K:=g.K)
 have q':=q _ s
 cases d with
 | list b=>exact ⟨_,ty,true,rfl,q'⟩
 | str b=>exact ⟨_,ty,true,rfl,q'⟩
 | _=>exact ⟨_,ty,false,rfl,q'⟩
theorem Z0l {Z0 Z1:Addr} {c_part_told P_part_told:Addr} {c_judge_of P_judge_of:Addr} (R:g.Raw "is_list_tuple_or_text" "is_list_tuple_or_text" Zj ["thing"]) (Z2:g.mg "isinstance"=none) (b_list:g.mg "list"=none) (b_str:g.mg "str"=none) (Z3:g.mg "tuple"=none):g.Fn (1) "is_list_tuple_or_text" ["thing"] (XM Vx):=by
 refine R.fn Z0i (fun vs H Q E h=>by obtain ⟨v,d,rfl,hd,q⟩:=h;rfl) fun f_ cdv A outer s H vs Q E hr h=>?_
 obtain ⟨v,d,rfl,hd,q⟩:=h
 refine ⟨_,(@Yf _ _ _ (@Yj _ _ _ _ (@YE _ _ _ _ _ _ _ _ _ _ Z2 Xg (@Ya _ _ _ _ _ (pv 0) (@Ya _ _ _ _ _ (@YN _ _ _ _ _ (@Ya _ _ _ _ _ (@YJ _ _ _ _ ("list") b_list (by decide +kernel) (by rfl) (by rfl) (by decide) (by decide)) (@Ya _ _ _ _ _ (@YJ _ _ _ _ ("tuple") Z3 (by decide +kernel) (by rfl) (by rfl) (by decide) (by decide)) (@Ya _ _ _ _ _ (@YJ _ _ _ _ ("str") b_str (by decide +kernel) (by rfl) (by rfl) (by decide) (by decide)) Yb (by rfl)) (by rfl)) (by rfl))) Yb (YF _ _ _ _ _)) (by rfl)) (by decide +kernel) (by rfl) (by rfl) (by decide) (by decide) (by rfl) (by rfl)))),?_⟩
 walk_at "rd"
 refine ⟨by decide,fun p hp=>⟨["list","tuple","str"],Yc,?_⟩⟩
 have s:=Yd.upd_new hp (HO.tup [V.ty "list",V.ty "tuple",V.ty "str"])
 have ty:=(hd.keep s).ty (K:=g.K)
 have q':=q _ s
 cases d with
 | list b=>exact ⟨_,ty,true,rfl,q'⟩
 | tuple b=>exact ⟨_,ty,true,rfl,q'⟩
 | str b=>exact ⟨_,ty,true,rfl,q'⟩
 | _=>exact ⟨_,ty,false,rfl,q'⟩
theorem Vq:∀ ds:List PyData,(Xe ds).isSome=ds.all isI
 | []=>rfl
 | .int i::ds=>by rw [List.all_cons,← Vq ds];simp [Xe,isI]
 | .none::_=>rfl
 | .bool _::_=>rfl
 | .str _::_=>rfl
 | .list _::_=>rfl
 | .tuple _::_=>rfl
 | .dict _::_=>rfl
theorem YcC (f:PyData→Bool):∀ ds:List PyData,((ds.map f).all id)=ds.all f
 | []=>rfl
 | d::ds=>by rw [List.map_cons,List.all_cons,List.all_cons,YcC f ds];rfl
theorem Vy {src:List (Option Nat)} {a b:TI} {gg:TG} {tt:TT} {te:TE} {σ:St} {H:Hp} {Q:VK} (h:tLC src a gg tt te σ H Q):tLC src (iOr a b) gg tt te σ H Q:=.inl h
theorem Vz {src:List (Option Nat)} {a b:TI} {gg:TG} {tt:TT} {te:TE} {σ:St} {H:Hp} {Q:VK} (h:tLC src b gg tt te σ H Q):tLC src (iOr a b) gg tt te σ H Q:=.inr h
theorem Z0I {k:Nat} {Z0 Z1:Addr} {c_part_told P_part_told:Addr} {c_judge_of P_judge_of:Addr} (R:g.Raw "are_whole_numbers" "are_whole_numbers" Zy ["thing"]) (Z8:g.Fn k "is_whole_number" ["thing"] (Y2 isI)) (Z6:g.Fn k "is_list_or_tuple" ["thing"] (XM Xj)) (b_all:g.mg "all"=none):g.Fn (k+1) "are_whole_numbers" ["thing"] (XM UJ):=by
 refine R.fn Z0F (fun vs H Q E h=>by obtain ⟨v,d,rfl,hd,q⟩:=h;rfl) fun f_ cdv A outer s H vs Q E hr h=>?_
 obtain ⟨v,d,rfl,hd,q⟩:=h
 refine ⟨_,(@Yf _ _ _ (@Yj _ _ _ _ (@Y8 _ _ _ _ _ _ _ (@Yo _ _ _ _ _ _ _ _ _ _ _ _ Z6 hr (@Ya _ _ _ _ _ (pv 0) Yb (by rfl)) (by omega) (by rfl) (by rfl) (by decide) (by rfl) (by rfl)) (@Xc _ _ _ _ _ (@YE _ _ _ _ _ _ _ _ _ _ b_all (WS rfl) (@Ya _ _ _ _ _ (@W6 _ _ _ _ _ _ _ ([none]) ((["each"]:List Str)) _ (YA 0) _ _ (.own .nil) rfl (@Wv _ _ _ _ _ (@XW _ _ _ _ (pv 0)) (@WE _ _ _ _ (pv 0))) (fun cl C s₀ H₀ fp pn=>(@Y0 _ _ (0) _ (show List.Nodup (["each"]:List Str) by decide +kernel) rfl (.inl rfl) (.inr rfl))) (fun cl C s₀ H₀ fp pn=>XL) (fun cl C s₀ H₀ fp pn=>(@Yo _ _ _ _ _ _ _ _ _ _ _ _ Z8 hr (@Ya _ _ _ _ _ (pv 0) Yb (by rfl)) (by omega) (by rfl) (by rfl) (by decide) (by rfl) (by rfl))) (by intro x hx;simp at hx) (by rfl) (by decide) (by decide +kernel) (by intro _;rfl)) Yb (by rfl)) (by decide +kernel) (by rfl) (by rfl) (by decide) (by decide) (by rfl) (by rfl)))))),?_⟩
 walk_at "rd"
 refine ⟨v,d,rfl,hd,fun H1 s1=>⟨_,rfl,?_⟩⟩
 have hd1:=hd.keep s1
 have core:∀ (a:Addr) (vs:List V) (ds:List PyData),Yn d=some ds→DVs H1 vs ds→(∀ D H2,Yd H1 H2→H2 D=some (.lst ((ds.map isI).map V.bl))→∃ p,V.ref D=V.ref p∧∃ x,SqL g.K H2 p (List.map V.bl x)∧Q (V.bl (x.all id)) H2):=fun a vs ds e hds D H2 s2 hD=>by
  refine ⟨D,rfl,ds.map isI,SqL.of hD,?_⟩
  have:=q _ (s1.trans s2)
  have e2:UJ d=(ds.map isI).all id:=by
   unfold UJ
   rw [e,YcC]
   exact Vq ds
  rw [e2] at this
  exact this
 cases d with
 | list ds =>
  obtain ⟨a,vs,rfl,ha,hl,hds⟩:=hd1.ilst
  have hlen:=hds.length
  refine Y3 rfl (Vy (Yc5 (K:=g.K) (a:=a) (xs:=vs) ((ds.map isI).map V.bl) (fun R r=>by walk_at "rd";exact r) (SqL.of ha) (by simp [hlen]) (by omega) (fun i x y H' hx hy sm R r=>by
   obtain ⟨e,he,hv⟩:=hds.at hx
   rw [List.map_map,List.getElem?_map,he] at hy
   cases hy
   walk_at "rd"
   exact ⟨x,e,rfl,hv.keep sm,r H' (.refl _)⟩) fun D H2 _ s2 hD=>core a vs ds rfl hds D H2 s2 hD))
 | tuple ds =>
  obtain ⟨a,vs,rfl,ha,hl,hds⟩:=hd1.itup
  have hlen:=hds.length
  refine Y3 rfl (Vz (Yc8 (K:=g.K) (xs:=vs) ((ds.map isI).map V.bl) (fun R r=>by walk_at "rd";exact r a _ (.refl _) (SqT.of ha)) (by simp [hlen]) (by omega) (fun i x y H' hx hy sm R r=>by
   obtain ⟨e,he,hv⟩:=hds.at hx
   rw [List.map_map,List.getElem?_map,he] at hy
   cases hy
   walk_at "rd"
   exact ⟨x,e,rfl,hv.keep sm,r H' (.refl _)⟩) fun D H2 _ s2 hD=>core a vs ds rfl hds D H2 s2 hD))
 | _=>exact Yq (by simp [Xj,Yn]) (q _ s1)
def Rw (H:Hp) (v:V) (ds:List PyData) (b:Bool) (a:Addr) (vs:List V):Prop:=v = .ref a∧H a=some (if b then .lst vs else .tup vs)∧vs.length≤10000∧DVs H vs ds
def Z00 (K:PySem.W.Frag) (m:Nat):Sp:=fun vs H Q _=>∃ (v w:V) (ds es:List PyData) (b:Bool) (a a':Addr) (us us':List V),vs=[v,w]∧Rw H v ds b a us∧Rw H w es b a' us'∧2*PyData.depthAll ds+2≤m∧∀ H',Yd H H'→Q (.bl (sm (.list ds) (.list es))) H'
def Wg (K:PySem.W.Frag) (m:Nat):Sp:=fun vs H Q _=>∃ (v w:V) (d e:PyData),vs=[v,w]∧DV H v d∧DV H w e∧2*d.depth+1≤m∧∀ H',Yd H H'→Q (.bl (sm d e)) H'
theorem Yad {K:PySem.W.Frag} {vs:List V} {H:Hp} {Q:VK} {E:XK} (h:Z00 K 0 vs H Q E):False:=by
 obtain ⟨v,w,ds,es,b,a,a',us,us',_,_,_,h,_⟩:=h
 omega
theorem Yel {K:PySem.W.Frag} {vs:List V} {H:Hp} {Q:VK} {E:XK} (h:Wg K 0 vs H Q E):False:=by
 obtain ⟨v,w,d,e,_,_,_,h,_⟩:=h
 omega
theorem Z12 {k:Nat} {Z0 Z1:Addr} {c_part_told P_part_told:Addr} {c_judge_of P_judge_of:Addr} (R:g.Raw "same_each" "same_each" Z0p ["one","other"]) (F_same:g.Fn k "same" ["one","other"] (Wg g.K m)) (b_len:g.mg "len"=none) (b_zip:g.mg "zip"=none):g.Fn (k+1) "same_each" ["one","other"] (Z00 g.K (m+1)):=by
 refine R.fn Z0h (fun vs H Q E h=>by obtain ⟨v,w,ds,es,b,a,a',us,us',rfl,⟨rfl,ha,hl,hd⟩,⟨rfl,ha',hl',hd'⟩,hm,q⟩:=h;rfl) fun f_ cdv A outer s H vs Q E hr h=>?_
 obtain ⟨v,w,ds,es,b,a,a',us,us',rfl,⟨rfl,ha,hl,hd⟩,⟨rfl,ha',hl',hd'⟩,hm,q⟩:=h
 refine ⟨_,(@Ye _ _ _ _ _ (@Yr _ _ _ _ _ _ _ _ (@Ys _ _ _ _ _ _ _ _ Qp (@YE _ _ _ _ _ _ _ _ _ _ b_len Y5 (@Ya _ _ _ _ _ (pv 0) Yb (by rfl)) (by decide +kernel) (by rfl) (by rfl) (by decide) (by decide) (by rfl) (by rfl)) (@YE _ _ _ _ _ _ _ _ _ _ b_len Y5 (@Ya _ _ _ _ _ (pv 1) Yb (by rfl)) (by decide +kernel) (by rfl) (by rfl) (by decide) (by decide) (by rfl) (by rfl)) (Yp _)) (@Yf _ _ _ (@Yj _ _ _ _ Y4)) Yk) (@Ye _ _ _ _ _ (@V2 _ _ _ _ _ _ _ _ PassesOwn.never rfl (@Wv _ _ _ _ _ (@YaX _ _ _ _ _ _ _ _ _ rfl b_zip (@Ya _ _ _ _ _ (pv 0) (@Ya _ _ _ _ _ (pv 1) Yb (by rfl)) (by rfl)) (by rfl) (by rfl)) (@YaW _ _ _ _ _ _ _ _ _ rfl b_zip (@Ya _ _ _ _ _ (pv 0) (@Ya _ _ _ _ _ (pv 1) Yb (by rfl)) (by rfl)) (by rfl) (by rfl))) (@QD _ _ _ _ _ (2) rfl (@X8 _ _ _ _ _ (@Y0 _ _ (2) _ Z0h.nd rfl (.inl rfl) (by first | exact .inl rfl | exact .inr rfl | assumption)) (@X8 _ _ _ _ _ (@Y0 _ _ (3) _ Z0h.nd rfl (.inl rfl) (by first | exact .inl rfl | exact .inr rfl | assumption)) Uv (by rfl)) (by rfl)) (by rfl) (by rfl)) (@Yf _ _ _ (@Yr _ _ _ _ _ _ _ _ (@Xt _ _ _ _ (@YH _ _ _ (@Yo _ _ _ _ _ _ _ _ _ _ _ _ F_same hr (@Ya _ _ _ _ _ (pv 2) (@Ya _ _ _ _ _ (pv 3) Yb (by rfl)) (by rfl)) (by omega) (by rfl) (by rfl) (by decide) (by rfl) (by rfl)) (by intro _;rfl))) (@Yf _ _ _ (@Yj _ _ _ _ Y4)) Yk)) (by intro _;rfl)) (@Yf _ _ _ (@Yj _ _ _ _ Y4)))),?_⟩
 have n1:=hd.length
 have n2:=hd'.length
 have key:∀ {H':Hp} {c:Addr} {vs:List V},H' c=some (if b=true then .lst vs else .tup vs)→(if b=true then SqL g.K H' c vs else SqT g.K H' c vs):=fun {H' c vs} h=>by
  cases b with
  | true=>exact SqL.of (by simpa using h)
  | false=>exact SqT.of (by simpa using h)
 have sq:∀ {c:Addr} {vs:List V},H c=some (if b=true then .lst vs else .tup vs)→SqL g.K H c vs∨SqT g.K H c vs:=fun {c vs} h=>by
  have:=key h
  cases b with
  | true=>exact .inl (by simpa using this)
  | false=>exact .inr (by simpa using this)
 walk_at "rd"
 refine ⟨us,sq ha,us',sq ha',YV (fun c=>?_) (fun c=>?_)⟩
 ·rw [Wm fun z=>?_] at q
  ·exact q H (.refl _)
  ·have e:ds=es:=by injection z
   rw [e] at n1
   omega
 ·have hll:us.length=us'.length:=by omega
  refine Ycs (K:=g.K) b 2 3 (xs:=us) (ys:=us') (fun a1 a2 n σ H'=>a1=a∧a2=a'∧(∃ o2 o3,σ=[some (.ref a),some (.ref a'),o2,o3])∧Yd H H'∧∀ (j:Nat) d e,j<n→ds[j]?=some d→es[j]?=some e→d=e) (fun R r=>by walk_at "rd";exact r a a' H ⟨rfl,rfl,⟨_,_,rfl⟩,.refl _,fun j d e hj=>by omega⟩) (fun a1 a2 n σ H' _ ⟨e1,e2,_,s,_⟩=>by subst e1 e2;exact ⟨key (s _ _ ha),key (s _ _ ha')⟩) ?_ ?_
  ·rintro a1 a2 n x y σ H' T hx hy ⟨rfl,rfl,⟨o2,o3,rfl⟩,s1,hall⟩ hT
   have sT:=Yd.upd_new hT (.tup [x,y])
   obtain ⟨d,hd1,hd2⟩:=hd.at hx
   obtain ⟨e,he1,he2⟩:=hd'.at hy
   have hdd:=Yx (List.mem_of_getElem? hd1)
   walk_at "rd"
   refine ⟨x,y,d,e,rfl,hd2.keep (s1.trans sT),he2.keep (s1.trans sT),by omega,fun H2 s2=>⟨_,rfl,?_⟩⟩
   cases hsm:sm d e with
   | false =>
    refine Y3 rfl ?_
    rw [Wm fun z=>?_] at q
    ·exact q H2 ((s1.trans sT).trans s2)
    ·have e1:ds=es:=by injection z
     rw [e1,he1] at hd1
     have:d=e:=(Option.some.inj hd1).symm
     rw [this,Xw] at hsm
     cases hsm
   | true =>
    refine Yq (by decide) ⟨(s1.trans sT).trans s2,fun j d' e' hj h1 h2=>?_⟩
    by_cases c:j<n
    ·exact hall j d' e' c h1 h2
    ·have:j=n:=by omega
     subst this
     rw [hd1] at h1
     rw [he1] at h2
     cases h1
     cases h2
     exact Vc.mp hsm
  ·rintro a1 a2 σ H' ⟨rfl,rfl,⟨o2,o3,rfl⟩,s1,hall⟩
   walk_at "rd"
   have e:ds=es:=by
    refine List.ext_getElem? fun j=>?_
    by_cases c:j<ds.length
    ·have h1:ds[j]?=some ds[j]:=List.getElem?_eq_getElem c
     have h2:es[j]?=some (es[j]'(by omega)):=List.getElem?_eq_getElem _
     rw [h1,h2,hall j _ _ (by omega) h1 h2]
    ·rw [List.getElem?_eq_none (by omega),List.getElem?_eq_none (by omega)]
   rw [e,Xw] at q
   exact q H' s1
theorem WZ {d e:PyData} (f:PyData→Bool) (h:f d≠f e):sm d e=false:=Wm fun z=>h (by rw [z])
theorem Yae (a b:Bool):(PyData.bool a).eqv (.bool b)=sm (.bool a) (.bool b):=by
 cases a<;>cases b<;>first | (rw [Xw];rfl) | (rw [Wm (by intro z;cases z)];rfl)
theorem Ybc (a b:Int):(PyData.int a).eqv (.int b)=sm (.int a) (.int b):=by
 by_cases h:a=b
 ·subst h;rw [Xw];simp [PyData.eqv]
 ·rw [Wm (by intro z;cases z;exact h rfl)];simp [PyData.eqv,h]
theorem Ybd (a b:Str):(PyData.str a).eqv (.str b)=sm (.str a) (.str b):=by
 by_cases h:a=b
 ·subst h;rw [Xw];simp [PyData.eqv]
 ·rw [Wm (by intro z;cases z;exact h rfl)];simp [PyData.eqv,h]
theorem YbW {H:Hp} {v:V} (h:DV H v .none):v = .non:=by obtain ⟨L,h⟩:=h;cases h;rfl
theorem Yem {H:Hp} {v:V} {d:PyData} (h:DV H v d) (n:d ≠ .none):v ≠ .non:=by
 obtain ⟨L,h⟩:=h
 rintro rfl
 cases h
 exact n rfl
theorem Ybe {k:Nat} {Z0 Z1:Addr} {c_part_told P_part_told:Addr} {c_judge_of P_judge_of:Addr} (R:g.Raw "same" "same" Q3 ["one","other"]) (Z8:g.Fn k "is_whole_number" ["thing"] (Y2 isI)) (Z18:g.Fn k "same_each" ["one","other"] (Z00 g.K m)) (Za:g.Fn k "is_truth" ["thing"] (Y2 isB)) (Z0b:g.Fn k "is_text" ["thing"] (Y2 isS)) (Z0o:g.Fn k "is_list" ["thing"] (Y2 isL)) (Z2:g.mg "isinstance"=none) (Z3:g.mg "tuple"=none):g.Fn (k+1) "same" ["one","other"] (Wg g.K (m+1)):=by
 refine R.fn Yek (fun vs H Q E h=>by obtain ⟨v,w,d,e,rfl,hv,hw,hm,q⟩:=h;rfl) fun f_ cdv A outer s H vs Q E hr h=>?_
 obtain ⟨v,w,d,e,rfl,hv,hw,hm,q⟩:=h
 refine ⟨_,(@Ye _ _ _ _ _ (@Yr _ _ _ _ _ _ _ _ (@YH _ _ _ (@Yo _ _ _ _ _ _ _ _ _ _ _ _ Za hr (@Ya _ _ _ _ _ (pv 0) Yb (by rfl)) (by omega) (by rfl) (by rfl) (by decide) (by rfl) (by rfl)) (by intro _;rfl)) (@Yf _ _ _ (@Yj _ _ _ _ (@Y8 _ _ _ _ _ _ _ (@Yo _ _ _ _ _ _ _ _ _ _ _ _ Za hr (@Ya _ _ _ _ _ (pv 1) Yb (by rfl)) (by omega) (by rfl) (by rfl) (by decide) (by rfl) (by rfl)) (@Xc _ _ _ _ _ (@Xu _ _ _ _ _ _ _ _ (Vm hr.units) (pv 0) (pv 1) (Yp _)))))) Yk) (@Ye _ _ _ _ _ (@Yr _ _ _ _ _ _ _ _ (@YH _ _ _ (@Yo _ _ _ _ _ _ _ _ _ _ _ _ Z8 hr (@Ya _ _ _ _ _ (pv 0) Yb (by rfl)) (by omega) (by rfl) (by rfl) (by decide) (by rfl) (by rfl)) (by intro _;rfl)) (@Yf _ _ _ (@Yj _ _ _ _ (@Y8 _ _ _ _ _ _ _ (@Yo _ _ _ _ _ _ _ _ _ _ _ _ Z8 hr (@Ya _ _ _ _ _ (pv 1) Yb (by rfl)) (by omega) (by rfl) (by rfl) (by decide) (by rfl) (by rfl)) (@Xc _ _ _ _ _ (@Xu _ _ _ _ _ _ _ _ (Vm hr.units) (pv 0) (pv 1) (Yp _)))))) Yk) (@Ye _ _ _ _ _ (@Yr _ _ _ _ _ _ _ _ (@YH _ _ _ (@Yo _ _ _ _ _ _ _ _ _ _ _ _ Z0b hr (@Ya _ _ _ _ _ (pv 0) Yb (by rfl)) (by omega) (by rfl) (by rfl) (by decide) (by rfl) (by rfl)) (by intro _;rfl)) (@Yf _ _ _ (@Yj _ _ _ _ (@Y8 _ _ _ _ _ _ _ (@Yo _ _ _ _ _ _ _ _ _ _ _ _ Z0b hr (@Ya _ _ _ _ _ (pv 1) Yb (by rfl)) (by omega) (by rfl) (by rfl) (by decide) (by rfl) (by rfl)) (@Xc _ _ _ _ _ (@Xu _ _ _ _ _ _ _ _ (Vm hr.units) (pv 0) (pv 1) (Yp _)))))) Yk) (@Ye _ _ _ _ _ (@Yr _ _ _ _ _ _ _ _ (@YH _ _ _ (@Yo _ _ _ _ _ _ _ _ _ _ _ _ Z0o hr (@Ya _ _ _ _ _ (pv 0) Yb (by rfl)) (by omega) (by rfl) (by rfl) (by decide) (by rfl) (by rfl)) (by intro _;rfl)) (@Yf _ _ _ (@Yj _ _ _ _ (@Y8 _ _ _ _ _ _ _ (@Yo _ _ _ _ _ _ _ _ _ _ _ _ Z0o hr (@Ya _ _ _ _ _ (pv 1) Yb (by rfl)) (by omega) (by rfl) (by rfl) (by decide) (by rfl) (by rfl)) (@Xc _ _ _ _ _ (@Yo _ _ _ _ _ _ _ _ _ _ _ _ Z18 hr (@Ya _ _ _ _ _ (pv 0) (@Ya _ _ _ _ _ (pv 1) Yb (by rfl)) (by rfl)) (by omega) (by rfl) (by rfl) (by decide) (by rfl) (by rfl)))))) Yk) (@Ye _ _ _ _ _ (@Yr _ _ _ _ _ _ _ _ (@YH _ _ _ (@YE _ _ _ _ _ _ _ _ _ _ Z2 Yt (@Ya _ _ _ _ _ (pv 0) (@Ya _ _ _ _ _ (@YJ _ _ _ _ ("tuple") Z3 (by decide +kernel) (by rfl) (by rfl) (by decide) (by decide)) Yb (by rfl)) (by rfl)) (by decide +kernel) (by rfl) (by rfl) (by decide) (by decide) (by rfl) (by rfl)) (by intro _;rfl)) (@Yf _ _ _ (@Yj _ _ _ _ (@Y8 _ _ _ _ _ _ _ (@YE _ _ _ _ _ _ _ _ _ _ Z2 Yt (@Ya _ _ _ _ _ (pv 1) (@Ya _ _ _ _ _ (@YJ _ _ _ _ ("tuple") Z3 (by decide +kernel) (by rfl) (by rfl) (by decide) (by decide)) Yb (by rfl)) (by rfl)) (by decide +kernel) (by rfl) (by rfl) (by decide) (by decide) (by rfl) (by rfl)) (@Xc _ _ _ _ _ (@Yo _ _ _ _ _ _ _ _ _ _ _ _ Z18 hr (@Ya _ _ _ _ _ (pv 0) (@Ya _ _ _ _ _ (pv 1) Yb (by rfl)) (by rfl)) (by omega) (by rfl) (by rfl) (by decide) (by rfl) (by rfl)))))) Yk) (@Yf _ _ _ (@Yj _ _ _ _ (@Y8 _ _ _ _ _ _ _ (@Xu _ _ _ _ _ _ _ _ QG (pv 0) V0 (Yp _)) (@Xc _ _ _ _ _ (@Xu _ _ _ _ _ _ _ _ QG (pv 1) V0 (Yp _))))))))))),?_⟩
 have tyv:=hv.ty (K:=g.K)
 have tyw:=hw.ty (K:=g.K)
 have q0:=q H (.refl _)
 have hno:∀ f:PyData→Bool,f d=true→f e=false→Q (.bl false) H:=fun f h1 h2=>by
  rw [WZ f (by rw [h1,h2];decide)] at q0
  exact q0
 walk_at "rd"
 cases d with
 | bool b =>
  refine ⟨_,_,rfl,hv,_,rfl,Y3 rfl ⟨_,_,rfl,hw,_,rfl,?_⟩⟩
  cases e with
  | bool b'=>exact Y3 rfl ⟨_,hv.den,_,hw.den,by simp [PyData.depth],by rw [Yae];exact q0⟩
  | _=>exact Yq (by simp [isB]) (hno isB rfl rfl)
 | int i =>
  refine ⟨_,_,rfl,hv,_,rfl,Yq (by simp [isB]) ⟨_,_,rfl,hv,_,rfl,Y3 rfl ⟨_,_,rfl,hw,_,rfl,?_⟩⟩⟩
  cases e with
  | int j=>exact Y3 rfl ⟨_,hv.den,_,hw.den,by simp [PyData.depth],by rw [Ybc];exact q0⟩
  | _=>exact Yq (by simp [isI]) (hno isI rfl rfl)
 | str x =>
  refine ⟨_,_,rfl,hv,_,rfl,Yq (by simp [isB]) ⟨_,_,rfl,hv,_,rfl,Yq (by simp [isI]) ⟨_,_,rfl,hv,_,rfl,Y3 rfl ⟨_,_,rfl,hw,_,rfl,?_⟩⟩⟩⟩
  cases e with
  | str y=>exact Y3 rfl ⟨_,hv.den,_,hw.den,by simp [PyData.depth],by rw [Ybd];exact q0⟩
  | _=>exact Yq (by simp [isS]) (hno isS rfl rfl)
 | list ds =>
  obtain ⟨a,vs,rfl,ha,hl,hds⟩:=hv.ilst
  simp only [PyData.depth] at hm
  refine ⟨_,_,rfl,hv,_,rfl,Yq (by simp [isB]) ⟨_,_,rfl,hv,_,rfl,Yq (by simp [isI]) ⟨_,_,rfl,hv,_,rfl,Yq (by simp [isS]) ⟨_,_,rfl,hv,_,rfl,Y3 rfl ⟨_,_,rfl,hw,_,rfl,?_⟩⟩⟩⟩⟩
  cases e with
  | list es =>
   obtain ⟨a',vs',rfl,ha',hl',hes⟩:=hw.ilst
   exact Y3 rfl ⟨_,_,ds,es,true,a,a',vs,vs',rfl,⟨rfl,by simpa using ha,hl,hds⟩,⟨rfl,by simpa using ha',hl',hes⟩,by omega,fun H' s'=>q H' s'⟩
  | _=>exact Yq (by simp [isL]) (hno isL rfl rfl)
 | tuple ds =>
  obtain ⟨a,vs,rfl,ha,hl,hds⟩:=hv.itup
  simp only [PyData.depth] at hm
  refine ⟨_,_,rfl,hv,_,rfl,Yq (by simp [isB]) ⟨_,_,rfl,hv,_,rfl,Yq (by simp [isI]) ⟨_,_,rfl,hv,_,rfl,Yq (by simp [isS]) ⟨_,_,rfl,hv,_,rfl,Yq (by simp [isL]) ⟨_,rfl,_,tyv,true,rfl,Y3 rfl ?_⟩⟩⟩⟩⟩
  cases e with
  | tuple es =>
   obtain ⟨a',vs',rfl,ha',hl',hes⟩:=hw.itup
   refine ⟨_,rfl,_,tyw,true,rfl,VN ⟨_,_,ds,es,false,a,a',vs,vs',rfl,⟨rfl,by simpa using ha,hl,hds⟩,⟨rfl,by simpa using ha',hl',hes⟩,by omega,fun H' s'=>?_⟩⟩
   rw [show sm (.list ds) (.list es)=sm (.tuple ds) (.tuple es) from Q1 (by rw [Vc];constructor<;>(intro z;injection z with z;rw [z]))]
   exact q H' s'
  | _=>exact ⟨_,rfl,_,tyw,false,rfl,Wq (hno isT rfl rfl)⟩
 | none =>
  refine ⟨_,_,rfl,hv,_,rfl,Yq (by simp [isB]) ⟨_,_,rfl,hv,_,rfl,Yq (by simp [isI]) ⟨_,_,rfl,hv,_,rfl,Yq (by simp [isS]) ⟨_,_,rfl,hv,_,rfl,Yq (by simp [isL]) ⟨_,rfl,_,tyv,false,rfl,Yq (by decide) ?_⟩⟩⟩⟩⟩
  have:=YbW hv
  subst this
  refine Y3 rfl ?_
  by_cases c:e = .none
  ·subst c
   rw [YbW hw]
   rw [Xw] at q0;exact q0
  ·have n:=Yem hw c
   have h:=hno (fun d=>match d with | .none=>true | _=>false) rfl (by cases e<;>first | rfl | exact absurd rfl c)
   rw [decide_eq_false n]
   exact h
 | dict xs=>obtain ⟨L,h⟩:=hv;cases h
def XS (k:Int) (d:PyData):Option PyData:=(Yn d).bind fun xs=>if 0≤k then xs[k.toNat]? else none
def Ye2 (fv vs:List V) (H:Hp) (Q:VK):Prop:=∃ (k:Int) (v:V) (d:PyData),fv=[.int k]∧vs=[v]∧DV H v d∧∀ H',Yd H H'→Q (.bl (XS k d).isSome) H'
theorem Z1d {k:Nat} {Z0 Z1:Addr} {f_ c_:Addr} {pm ctv:Value} {l:Ym} (Z6:g.Fn k "is_list_or_tuple" ["thing"] (XM Xj)) (b_len:g.mg "len"=none) (hl:l.map (·.1)=(["place"]:List Str)) (hnd:l.as.Nodup):FnOk g.P g.w g.K g.mg g.base CX0 (k+1) f_ (Zr l.cl c_ pm ctv) ["found"] (fun vs H Q _=>ClZ H f_ c_ (Zr l.cl c_ pm ctv) Zd l∧(Ye2) l.vs vs (off H l.as) fun v H'=>(∀ c∈l.as,H' c=none)→Q v (on H' H l.as)):=by
 refine Yeg (N:=["found","place"]) (by rw [hl];exact Z1c) hnd (fun vs H Q h=>by obtain ⟨k,v,d,hk,rfl,hd,q⟩:=h;rfl) fun A outer s H vs Q hr h=>?_
 obtain ⟨k,v,d,hk,rfl,hd,q⟩:=h
 refine ⟨_,(@Y8 _ _ _ _ _ _ _ (@Yo _ _ _ _ _ _ _ _ _ _ _ _ Z6 hr (@Ya _ _ _ _ _ (pv 0) Yb (by rfl)) (by omega) (by rfl) (by rfl) (by decide) (by rfl) (by rfl)) (@Xc _ _ _ _ _ (@YcV _ _ _ _ _ _ _ _ _ _ _ _ op_le V6 Yg (pv 1) (@YE _ _ _ _ _ _ _ _ _ _ b_len Y5 (@Ya _ _ _ _ _ (pv 0) Yb (by rfl)) (by decide +kernel) (by rfl) (by rfl) (by decide) (by decide) (by rfl) (by rfl)) (by with_unfolding_all rfl)))),?_⟩
 walk_at "rd"
 rw [hk]
 refine ⟨v,rfl,v,d,rfl,hd,fun H1 s1=>⟨_,rfl,?_⟩⟩
 have hd1:=hd.keep s1
 have q1:=q _ s1
 have key:∀ (ds:List PyData) (n:Nat),n=ds.length→0≤k→decide (k<(n:Int))=(if 0≤k then ds[k.toNat]? else none).isSome:=fun ds n hn h0=>by
  rw [if_pos h0]
  by_cases c:k<(n:Int)
  ·have:k.toNat<ds.length:=by omega
   rw [decide_eq_true c,List.getElem?_eq_getElem this];rfl
  ·rw [decide_eq_false c,List.getElem?_eq_none (by omega)];rfl
 cases d with
 | list ds =>
  obtain ⟨a,vs,rfl,ha,hl,hds⟩:=hd1.ilst
  refine Y3 rfl ⟨_,rfl,k,rfl,YV (fun c=>⟨_,rfl,a,rfl,vs,.inl (SqL.of ha),k,rfl,?_⟩) fun c=>?_⟩
  ·rw [key ds vs.length hds.length c];exact q1
  ·have e:(XS k (.list ds)).isSome=false:=by show (if 0≤k then ds[k.toNat]? else none).isSome=false;rw [if_neg c];rfl
   rw [e] at q1;exact q1
 | tuple ds =>
  obtain ⟨a,vs,rfl,ha,hl,hds⟩:=hd1.itup
  refine Y3 rfl ⟨_,rfl,k,rfl,YV (fun c=>⟨_,rfl,a,rfl,vs,.inr (SqT.of ha),k,rfl,?_⟩) fun c=>?_⟩
  ·rw [key ds vs.length hds.length c];exact q1
  ·have e:(XS k (.tuple ds)).isSome=false:=by show (if 0≤k then ds[k.toNat]? else none).isSome=false;rw [if_neg c];rfl
   rw [e] at q1;exact q1
 | _=>exact Yq (by simp [Xj,Yn]) q1
def Tb (P:Addr) (H:Hp):Prop:=H P=some (.tbl #[])∨∃ c,H P=some (.tbl #[rawInt 53,rawInt 41,.ref c])∧H c=some (CdO c Zd)
theorem Tb.keep {P:Addr} {H H':Hp} (h:Tb P H) (s:Yd H H'):Tb P H':=by
 rcases h with h | ⟨c,h,h1⟩
 ·exact .inl (s _ _ h)
 ·exact .inr ⟨c,s _ _ h,s _ _ h1⟩
theorem Tb.upd {P a:Addr} {H:Hp} {o:HO} (h:Tb P H) (n:H a=none):Tb P (upd H a o):=h.keep (.upd_new n o)
def Out (C P:Addr) (H:Hp) (Q:VK) (E:XK):Say→Prop
 | .ok e=>∀ r H',Kt H H'→Tb P H'→DV H' r e→Q r H'
 | .error mk=>∀ H' d,Kt H H'→Tb P H'→H' d=none→E (.ref C) (some d) (upd H' d (Wr d [("mark",.str mk)]))
theorem Out.keep {C P:Addr} {H H':Hp} {Q:VK} {E:XK} (s:Kt H H') {res:Say} (h:Out C P H Q E res):Out C P H' Q E res:=by
 cases res with
 | ok r=>exact fun r H2 s2=>h r H2 (s.trans s2)
 | error mk=>exact fun H2 d s2=>h H2 d (s.trans s2)
structure Ask (P:Addr) (H:Hp) (m:Nat) (t:Tm) (v:V) (d:PyData) (th:V):Prop where
 at':Yw H t v
 ok:t.ok
 dep:t.dep<m
 dv:DV H th d
 pk:∃ k,Pk k d∧k+t.dep≤7
 dd:d.depth≤60
 tb:Tb P H
theorem Ask.keep {P:Addr} {H H':Hp} {m:Nat} {t:Tm} {v th:V} {d:PyData} (h:Ask P H m t v d th) (s:Kt H H') (b:Tb P H'):Ask P H' m t v d th:=⟨h.at'.keep s,h.ok,h.dep,h.dv.kt s,h.pk,h.dd,b⟩
def Wy (P C:Addr) (m:Nat):Sp:=fun vs H Q E=>∃ v th t d,vs=[v,th]∧Ask P H m t v d th∧Out C P H Q E (tell t d)
theorem UK {P C:Addr} {vs:List V} {H:Hp} {Q:VK} {E:XK} (h:Wy P C 0 vs H Q E):False:=by
 obtain ⟨_,_,_,_,_,h,_⟩:=h
 exact absurd h.dep (by omega)
def Qy (g:Gx) (P:Addr) (H:Hp) (f:Addr) (e:PyData) (b:Bool):Prop:=∀ (H1:Hp) (r:V) (Q':VK),Kt H H1→Tb P H1→DV H1 r e→(∀ H',Yd H1 H'→Q' (.bl b) H') →
 (∃ ps sp,g.FnV 2 f ps sp∧sp [r] H1 Q' E0)∨∃ fd ps sp,FnOk g.P g.w g.K g.mg g.base CX0 4 f fd ps sp∧(∀ us:List Value,us.length=ps.length→bindArgs fd ⟨us,[]⟩=pure (ps.zip us))∧H1 f=some (FnO f fd)∧sp [r] H1 Q' E0
def tk (mk:Str) (s:Say) (f:PyData→Bool):Say:=match s with
 | .error m => .error m
 | .ok d=>if f d then .ok d else .error mk
def Zs (g:Gx) (P C:Addr) (m:Nat):Sp:=fun vs H Q E=>∃ (mk:Str) (v th:V) (f:Addr) (t:Tm) (d:PyData) (fp:PyData→Bool),vs=[.str mk,v,th,.ref f]∧Ask P H m t v d th ∧
 (∀ e,tell t d = .ok e→Qy g P H f e (fp e))∧Out C P H Q E (tk mk (tell t d) fp)
theorem Z0J {k:Nat} {Z0 Z1:Addr} {c_part_told P_part_told:Addr} {c_judge_of P_judge_of:Addr} (R:g.Raw "taken" "taken" UH ["mark","term","thing","can_take"]) (F_told:g.FnX k "told" ["term","thing"] (Wy P_part_told Z1 m)) (hkv:2≤k) (hkc:4≤k) (Z16:g.MaX "Astray" Z1 ["self","mark"] ["mark"]) (hki:2≤k):g.FnX (k+1) "taken" ["mark","term","thing","can_take"] (Zs g P_part_told Z1 m):=by
 refine R.fnX Q4 (fun vs H Q E h=>by obtain ⟨mk,v,th,f,t,d,fp,rfl,hA,hT,hq⟩:=h;rfl) fun f_ cdv A outer s H vs Q E hr h=>?_
 obtain ⟨mk,v,th,f,t,d,fp,rfl,hA,hT,hq⟩:=h
 refine ⟨_,(@Ye _ _ _ _ _ (@YL _ _ (4) _ _ _ _ Q4.nd rfl (.inl rfl) (@YR _ _ _ _ _ _ _ _ _ _ _ _ _ F_told hr YW (@Ya _ _ _ _ _ (pv 1) (@Ya _ _ _ _ _ (pv 2) Yb (by rfl)) (by rfl)) (by omega) (by rfl) (by rfl) (by decide) (by rfl) (by rfl)) (by rfl) (by first | exact .inl rfl | exact .inr rfl | assumption)) (@Ye _ _ _ _ _ (@Yr _ _ _ _ _ _ _ _ (@Xt _ _ _ _ (@YH _ _ _ (@Xn _ _ _ _ (@Yc9 _ (g) _ (2) _ _ _ _ _ _ 3 hr (@Ya _ _ _ _ _ (pv 4) Yb (by rfl)) (by omega) (by rfl) (by rfl) (by first | exact .inl rfl | exact .inr (.inl rfl) | exact .inr (.inr rfl)) (by decide) (by decide) (by rfl) (by rfl)) (@XG _ (g) _ (4) _ _ _ _ _ _ 3 hr (@Ya _ _ _ _ _ (pv 4) Yb (by rfl)) (by omega) (by rfl) (by rfl) (by first | exact .inl rfl | exact .inr (.inl rfl) | exact .inr (.inr rfl)) (by decide) (by decide) (by rfl) (by rfl))) (by intro _;rfl))) (@Yf _ _ _ (@Ycu _ _ _ _ _ _ _ _ _ _ _ _ _ _ Z16 hr YeY (@Ya _ _ _ _ _ (pv 0) Yb (by rfl)) (by omega) (by rfl) (by rfl) (by rfl) (by decide) (by rfl) (by rfl))) Yk) (@Yf _ _ _ (PS.nox (@Yj _ _ _ _ (pv 4)))))),?_⟩
 walk_at "rd"
 refine ⟨v,th,t,d,rfl,hA,?_⟩
 cases e:tell t d with
 | error mk'=>rw [e] at hq;exact hq
 | ok r =>
  rw [e] at hq hT
  intro v' H1 k1 b1 hv
  have fin:∀ H',Yd H1 H'→(fun (x_1:V) (H':Hp)=>∃ c_1,x_1=V.bl c_1∧if c_1=false then
       UG Z1 [Str.ofString "mark"] E (Wt (Xs 0) Vk)
        { nx:=Ybp (Xs 4) { nx:=fun x H'=>Q V.non H',rt:=Q },rt:=Q }
        [some (V.str mk),some v,some th,some (V.ref f),some v'] H'
      else Q v' H') (V.bl (fp r)) H':=fun H' s'=>by
   refine ⟨_,rfl,?_⟩
   simp only [tk] at hq
   cases c:fp r with
   | true =>
    rw [c,if_pos rfl] at hq
    exact Yq (by decide) (hq v' H' (k1.trans (Y6 s')) (b1.keep s') (hv.keep s'))
   | false =>
    rw [c,if_neg (by decide)] at hq
    exact Y3 rfl ⟨_,rfl,rfl,by show (1:Nat)≤1000;omega,fun dd hd=>hq H' dd (k1.trans (Y6 s')) (b1.keep s') hd⟩
  rcases hT r rfl H1 v' (fun (x_1:V) (H':Hp)=>∃ c_1,x_1=V.bl c_1∧if c_1=false then
       UG Z1 [Str.ofString "mark"] E (Wt (Xs 0) Vk)
        { nx:=Ybp (Xs 4) { nx:=fun x H'=>Q V.non H',rt:=Q },rt:=Q }
        [some (V.str mk),some v,some th,some (V.ref f),some v'] H'
      else Q v' H') k1 b1 hv fin with ⟨ps,sp,hF,hs⟩ | ⟨fd,ps,sp,hF,hb,ho,hs⟩
  ·refine .inl ⟨f,ps,sp,rfl,hF,?_⟩
   walk_at "rd"
   exact hs
  ·refine .inr ⟨f,fd,ps,sp,rfl,hF,hb,ho,?_⟩
   walk_at "rd"
   exact ⟨ho,hs⟩
theorem U5 {H Hz:Hp} {l:Ym} (h:WL H Hz l):Yd H Hz:=fun a o e=>by
 rw [h.2 a fun hm=>?_]
 ·exact e
 ·obtain ⟨p,hp,rfl⟩:=Y1 hm
  obtain ⟨_,_,n⟩:=h.1 p hp
  rw [n] at e
  cases e
theorem Uq {l:Ym} {H:Hp} (hz:l.Z H) {a:Addr} {o:HO} (e:H a=some o) (n:∀ x u,o ≠ .frz x u):a∉l.as:=fun hm=>by
 obtain ⟨p,hp,rfl⟩:=Y1 hm
 obtain ⟨x,z⟩:=hz p hp
 rw [z] at e
 exact n _ _ (Option.some.inj e).symm
theorem Yaf {l:Ym} {H:Hp} (hz:l.Z H) {v:V} {d:PyData} (h:DV H v d):DV (off H l.as) v d:=by
 obtain ⟨L,h⟩:=h
 exact ⟨L,h.keepL (fun a vs e=>by rw [YD (Uq hz e fun _ _ z=>by cases z)];exact e) fun a _ vs e=>by rw [YD (Uq hz e fun _ _ z=>by cases z)];exact e⟩
theorem VX {l:Ym} {H H':Hp} (h:l.Z H) (s:Kt H H'):l.Z H':=fun p hp=>by
 obtain ⟨o,z⟩:=h p hp
 exact ⟨o,s _ _ (fun ps q=>by cases q) z⟩
theorem Yag {l:Ym} {H1 Hz H':Hp} (h:WL H1 Hz l) (s:Kt Hz H'):Kt H1 (off H' l.as):=fun a o n e=>by
 rw [YD fun hm=>?_]
 ·exact s a o n (U5 h _ _ e)
 ·obtain ⟨p,hp,rfl⟩:=Y1 hm
  obtain ⟨_,_,n⟩:=h.1 p hp
  rw [n] at e
  cases e
theorem Yah {P:Addr} {l:Ym} {H:Hp} (hz:l.Z H) (h:Tb P H):Tb P (off H l.as):=by
 rcases h with h | ⟨c,h,h1⟩
 ·exact .inl (by rw [YD (Uq hz h fun _ _ z=>by cases z)];exact h)
 ·exact .inr ⟨c,by rw [YD (Uq hz h fun _ _ z=>by cases z)];exact h,by rw [YD (Uq hz h1 fun _ _ z=>by cases z)];exact h1⟩
theorem Yen {l:Ym} {H:Hp} (hz:l.Z H) {d:Addr} {o:HO} (n:H d=none):off (upd H d o) l.as=upd (off H l.as) d o:=by
 have nd:d∉l.as:=fun hm=>by
  obtain ⟨p,hp,rfl⟩:=Y1 hm
  obtain ⟨x,z⟩:=hz p hp
  rw [n] at z;cases z
 funext b
 by_cases hb:b=d
 ·subst hb;rw [YD nd,Yc,Yc]
 ·rw [Yh hb]
  by_cases hm:b∈l.as
  ·rw [X2 hm,X2 hm]
  ·rw [YD hm,YD hm,Yh hb]
theorem Yeo {l:Ym} {H H':Hp} (s:Yd (off H l.as) H'):Yd H (on H' H l.as):=fun a o e=>by
 by_cases hm:a∈l.as
 ·rw [Ui hm];exact e
 ·rw [Xa hm];exact s _ _ (by rw [YD hm];exact e)
theorem Xi {C P:Addr} {H:Hp} {Q Q':VK} {E:XK} {mk:Str} {s:Say} {fp:PyData→Bool} {res:Say} (ho:Out C P H Q E res) (he:∀ m,s = .error m→res = .error m) (hn:∀ x,s = .ok x→fp x=false→res = .error mk)
  (hy:∀ x,s = .ok x→fp x=true→∀ r H',Kt H H'→Tb P H'→DV H' r x→Q' r H'):Out C P H Q' E (tk mk s fp):=by
 cases s with
 | error m=>rw [he m rfl] at ho;exact ho
 | ok x =>
  simp only [tk]
  cases c:fp x with
  | true=>rw [if_pos rfl];exact hy x rfl c
  | false=>rw [if_neg (by decide)];rw [hn x rfl c] at ho;exact ho
theorem Xq {P:Addr} {H:Hp} {f:Addr} {ps:List Str} {p:PyData→Bool} {e:PyData} (hf:g.FnV 2 f ps (Y2 p)):Qy g P H f e (p e):=fun H1 r Q' _ _ hv h => .inl ⟨ps,_,hf,r,e,rfl,hv,h _ (.refl _)⟩
theorem XH {P:Addr} {H:Hp} {f:Addr} {ps:List Str} {p:PyData→Bool} {e:PyData} (hf:g.FnV 2 f ps (XM p)):Qy g P H f e (p e):=fun H1 r Q' _ _ hv h => .inl ⟨ps,_,hf,r,e,rfl,hv,h⟩
theorem YcD {P:Addr} {Hz:Hp} {f c:Addr} {x:Addr} {k:Int} {e:PyData} {pm ctv:Value} (F:g.Fn 3 "is_list_or_tuple" ["thing"] (XM Xj)) (b:g.mg "len"=none) (hf:Hz f=some (FnO f (Zr [("place",x)] c pm ctv))) (hc:Hz c=some (CdO c Zd)) (hz:Ym.Z [("place",x,.int k)] Hz):Qy g P Hz f e (XS k e).isSome:=fun H1 r Q' k1 b1 hv h=>by
 have z1:=VX hz k1
 refine .inr ⟨_,_,_,Z1d (Z0:=0) (Z1:=0) (f_:=f) (c_:=c) (pm:=pm) (ctv:=ctv) (l:=[("place",x,.int k)]) F b rfl (by simp [Ym.as]),(fun us hl=>?_),k1 f _ (fun ps z=>by cases z) hf,⟨k1 f _ (fun ps z=>by cases z) hf,k1 c _ (fun ps z=>by cases z) hc,z1⟩,k,r,e,rfl,rfl,Yaf z1 hv,fun H' s' _=>h _ (Yeo s')⟩
 match us,hl with
 | [u],_=>rfl
def Ybf (g:Gx) (P C:Addr) (m:Nat):Sp:=fun vs H Q E=>∃ (p:Addr) (v th:V) (k:Int) (t:Tm) (d:PyData),vs=[.ref p,th]∧H p=some (.tup [v,.int k])∧Ask P H m t v d th∧Out C P H Q E (take "part" (tell t d) (XS k))
theorem Yep {P f c:Addr} {H:Hp} {ps ps':Array Value} {fd:FuncData} {q:Str} (hP:H P=some (.tbl ps)) (hf:H f=none) (hc:H c=none) (hfc:f≠c):Kt H (upd (upd (upd H P (.tbl ps')) c (CdO c q)) f (FnO f fd)):=fun a o n e=>by
 rw [Yh (Yu e hf),Yh (Yu e hc),Yh (Wj e hP (n _))]
 exact e
theorem Ybg {H:Hp} {xs:List PyData} {vs:List V} {k:Int} {y:PyData} (hv:DVs H vs xs) (h:(if 0≤k then xs[k.toNat]? else none)=some y):∃ n:Nat,k=n∧∃ u,vs[n]?=some u∧DV H u y:=by
 split at h
 ·next c =>
  refine ⟨k.toNat,by omega,?_⟩
  have hl:=hv.length
  have hlt:=(List.getElem?_eq_some_iff.mp h).1
  have hu:vs[k.toNat]?=some (vs[k.toNat]'(by omega)):=List.getElem?_eq_getElem _
  obtain ⟨d,e1,e2⟩:=hv.at hu
  rw [h] at e1
  cases e1
  exact ⟨_,hu,e2⟩
 ·cases h
theorem Z01 {k:Nat} {Z0 Z1:Addr} {c_part_told P_part_told:Addr} {c_judge_of P_judge_of:Addr} (R:g.RawT "part_told" "part_told" ZT ["body","thing"] c_part_told) (bm:Bm g.mg g.base) (Cd_part_told:PySem.W.CodeHd g.base c_part_told P_part_told) (Z6:g.Fn 3 "is_list_or_tuple" ["thing"] (XM Xj)) (Z7:g.FnX k "taken" ["mark","term","thing","can_take"] (Zs g P_part_told Z1 m)) (b_len:g.mg "len"=none):g.FnX (k+1) "part_told" ["body","thing"] (Ybf g P_part_told Z1 m):=by
 refine R.fnX Z0W (fun vs H Q E h=>by obtain ⟨p,v,th,k,t,d,rfl,hp,hA,q⟩:=h;rfl) fun f_ A outer s H vs Q E hr h=>?_
 obtain ⟨p,v,th,k,t,d,rfl,hp,hA,q⟩:=h
 refine ⟨_,(@Ye _ _ _ _ _ (PS.nox (@YL _ _ (2) _ _ _ _ Z0W.nd rfl (.inr rfl) (@YC _ _ _ _ _ _ _ YO (pv 0) Yg (fun _ _=>rfl)) (by rfl) (by first | exact .inl rfl | exact .inr rfl | assumption))) (@Yf _ _ _ (@Yj _ _ _ _ (@Xn _ _ _ _ (@YC _ _ _ _ _ _ _ Xd (@QY _ _ _ _ _ _ _ _ _ _ _ _ _ _ _ _ _ _ _ _ _ Z7 hr (@Ya _ _ _ _ _ Yy (@Ya _ _ _ _ _ (@YC _ _ _ _ _ _ _ YO (pv 0) Yg (fun _ _=>rfl)) (@Ya _ _ _ _ _ (pv 1) (@Ya _ _ _ _ _ (@QT _ _ _ _ _ _ _ _ _ bm Cd_part_told rfl rfl (Eq.trans rfl WI) rfl) Yb (by rfl)) (by rfl)) (by rfl)) (by rfl)) (by omega) (by rfl) (by decide) (by rfl) (by rfl)) (pv 2) (fun _ _=>rfl)) (@YC _ _ _ _ _ _ _ YO (@QY _ _ _ _ _ _ _ _ _ _ _ _ _ _ _ _ _ _ _ _ _ Z7 hr (@Ya _ _ _ _ _ Yy (@Ya _ _ _ _ _ (@YC _ _ _ _ _ _ _ YO (pv 0) Yg (fun _ _=>rfl)) (@Ya _ _ _ _ _ (pv 1) (@Ya _ _ _ _ _ (@QT _ _ _ _ _ _ _ _ _ bm Cd_part_told rfl rfl (Eq.trans rfl WI) rfl) Yb (by rfl)) (by rfl)) (by rfl)) (by rfl)) (by omega) (by rfl) (by decide) (by rfl) (by rfl)) (pv 2) (fun _ _=>rfl)))))),?_⟩
 walk_at "rd"
 refine ⟨_,SqT.of hp,_,rfl,?_⟩
 generalize hT:YbO _ _ _ _=T
 have core:∀ Q2:VK,(∀ x,tell t d = .ok x→(XS k x).isSome=true→∀ r H',Kt H H'→Tb P_part_told H'→DV H' r x→Q2 r H')→T [some (.ref p),some th,some (.int k)] H Q2:=by
  intro Q2 h2
  rw [← hT]
  unfold YbO
  walk_at "rd"
  refine ⟨_,SqT.of hp,_,rfl,?_⟩
  have fin:∀ (f c:Addr) (pm ctv:Value) (H1:Hp),Kt H H1→Tb P_part_told H1→H1 f=some (FnO f (Zr [("place",s.heap.objs.size+1)] c pm ctv))→H1 c=some (CdO c Zd)→∃ l,
   Xz (g.cxX [Str.ofString "body",Str.ofString "thing",Str.ofString "place"] (Str.ofString "part_told") ZT f_ (Value.ref c_part_told) A outer s H E) [some (V.ref p),some th,some (V.int k)] l ∧
    ((∀ (c:Addr),c∈l.as→H1 c=none)→∀ (Hz:Hp),WL H1 Hz l→Zs g P_part_told Z1 m [V.str (Str.ofString "part"),v,th,.ref f] Hz (fun v H'=>Q2 v (off H' l.as)) fun c d H'=>E c d (off H' l.as)):=by
   intro f c pm ctv H1 k1 b1 hf hc
   refine ⟨[("place",s.heap.objs.size+1,.int k)],⟨by simp [Ym.as],fun z hz=>?_⟩,fun _ Hz hL=>?_⟩
   ·cases List.mem_singleton.mp hz
    exact ⟨2,rfl,rfl,rfl,rfl⟩
   ·have sz:=U5 hL
    have zz:=hL.z
    refine ⟨"part",v,th,f,t,d,fun x=>(XS k x).isSome,rfl,hA.keep (k1.trans (Y6 sz)) (b1.keep sz),fun e _=>YcD Z6 b_len (sz _ _ hf) (sz _ _ hc) zz,?_⟩
    have q':Out Z1 P_part_told Hz (fun v H'=>Q v (off H' (Ym.as [("place",s.heap.objs.size+1,.int k)]))) (fun c d H'=>E c d (off H' (Ym.as [("place",s.heap.objs.size+1,.int k)]))) (take "part" (tell t d) (XS k)):=by
     generalize take "part" (tell t d) (XS k)=res at q
     cases res with
     | ok r=>exact fun r H' k2 b2 hv=>q r _ (k1.trans (Yag hL k2)) (Yah (VX zz k2) b2) (Yaf (VX zz k2) hv)
     | error mk =>
      intro H' dd k2 b2 hd
      show E _ _ _
      rw [Yen (VX zz k2) hd]
      exact q _ dd (k1.trans (Yag hL k2)) (Yah (VX zz k2) b2) (Xp hd)
    refine Xi q' (fun m e=>by rw [e];rfl) (fun x e c=>?_) fun x e c r H' k2 b2 hv=>h2 x e c r _ (k1.trans (Yag hL k2)) (Yah (VX zz k2) b2) (Yaf (VX zz k2) hv)
    have c':XS k x=none:=by simpa using c
    rw [e]
    simp only [take,c']
  rcases hA.tb with ht | ⟨c,ht,hc⟩
  ·refine ⟨_,ht,trivial,.inl ⟨rfl,fun f c fd g1 g2 g3 ⟨pm,ctv,e⟩=>?_⟩⟩
   subst e
   have n1:=Yu ht g1
   have n2:=Yu ht g2
   exact fin f c pm ctv _ (Yep ht g1 g2 g3) (.inr ⟨c,by rw [Yh n1,Yh n2,Yc];rfl,by rw [Yh (Ne.symm g3),Yc]⟩) Yc (by rw [Yh (Ne.symm g3),Yc])
  ·refine ⟨_,ht,trivial,.inr ⟨c,rfl,fun f fd g1 ⟨pm,ctv,e⟩=>?_⟩⟩
   subst e
   exact fin f c pm ctv _ (Y6 (.upd_new g1 _)) (hA.tb.upd g1) Yc (by rw [Yh (Yu hc g1)];exact hc)
 have hsel:(∃ ds,tell t d = .ok (.tuple ds))∨¬ ∃ ds,tell t d = .ok (.tuple ds):=Classical.em _
 rcases hsel with ⟨ds,hds⟩ | hsel
 ·refine .inr (core _ fun x hx hs r H' k1 b1 hv=>?_)
  walk_at "rd"
  rw [hds] at hx q
  cases hx
  obtain ⟨a,vs,rfl,ha,hl,hvs⟩:=hv.itup
  obtain ⟨y,hy⟩:=Option.isSome_iff_exists.mp hs
  have hy':=hy
  obtain ⟨n,rfl,u,hu,hv'⟩:=Ybg (xs:=ds) (vs:=vs) hvs hy'
  refine ⟨a,rfl,vs,SqT.of ha,u,XJ hu,?_⟩
  simp only [take,hy] at q
  exact q _ _ k1 b1 hv'
 ·refine .inl (core _ fun x hx hs r H' k1 b1 hv=>?_)
  walk_at "rd"
  obtain ⟨y,hy⟩:=Option.isSome_iff_exists.mp hs
  cases x with
  | list ds =>
   obtain ⟨a,vs,rfl,ha,hl,hvs⟩:=hv.ilst
   have hy':=hy
   obtain ⟨n,rfl,u,hu,hv'⟩:=Ybg (xs:=ds) (vs:=vs) hvs hy'
   refine ⟨a,rfl,vs,SqL.of ha,u,XJ hu,?_⟩
   rw [hx] at q
   simp only [take,hy] at q
   exact q _ _ k1 b1 hv'
  | tuple ds=>exact absurd ⟨ds,hx⟩ hsel
  | _=>cases hy
theorem Wz {x:PyData} (h:isI x=true):∃ i,x = .int i:=by cases x<;>first | exact ⟨_,rfl⟩ | cases h
theorem Wh {x:PyData} (h:isB x=true):∃ i,x = .bool i:=by cases x<;>first | exact ⟨_,rfl⟩ | cases h
theorem Yai {x:PyData} (h:isI x=false):Wn x=none:=by cases x<;>first | rfl | cases h
theorem X0 {x:PyData} (h:isB x=false):Xh x=none:=by cases x<;>first | rfl | cases h
theorem Xf {α:Type} {mk:Str} {x:PyData} {f:PyData→Option α} (h:f x=none):take mk (.ok x) f = .error mk:=by simp only [take,h]
theorem Xy {α:Type} {mk:Str} {x:PyData} {f:PyData→Option α} {a:α} (h:f x=some a):take mk (.ok x) f = .ok a:=by simp only [take,h]
theorem U6 {x y:Str} (h:PyData.strOk x=true) (k:PyData.strOk y=true):PyData.strOk (x++y)=true:=by
 show (x.cps++y.cps).all _=true
 rw [Array.all_append,Bool.and_eq_true]
 exact ⟨h,k⟩
theorem YcE {x:Str} (h:PyData.strOk x=true):PyData.strOk (Vb x)=true:=by
 have h:x.cps.all _=true:=h
 show (x.cps.toList.reverse.toArray).all _=true
 rw [Array.all_eq_true'] at h ⊢
 intro c hc
 exact h c (by simpa using hc)
def Yaj (mk:Str) (f:Int→Int→PyData) (a b:Say):Say:=match take mk a Wn with
 | .error m => .error m
 | .ok i=>(take mk b Wn).map (f i)
def Nf (mk:Str) (f:Int→Int→PyData):Prop:=(mk="plus"∧f=fun i j => .int (i+j))∨(mk="times"∧f=fun i j => .int (i*j))∨(mk="less"∧f=fun i j => .bool (decide (i<j)))
def Ybh (g:Gx) (P C:Addr) (m:Nat):Sp:=fun vs H Q E=>∃ (mk:Str) (f:Int→Int→PyData) (p:Addr) (v1 v2 th:V) (a b:Tm) (d:PyData),vs=[.str mk,.ref p,th]∧H p=some (.tup [v1,v2])∧Nf mk f∧Ask P H m a v1 d th∧Ask P H m b v2 d th∧Out C P H Q E (Yaj mk f (tell a d) (tell b d))
theorem Ask.ib {P:Addr} {H:Hp} {m:Nat} {t:Tm} {v th:V} {d:PyData} {i:Int} (h:Ask P H m t v d th) (e:tell t d = .ok (.int i)):IB 7 i:=by
 obtain ⟨k,hk,hl⟩:=h.pk
 exact IB.mono (YX h.ok hk e).1 hl
theorem ib_cm {i j:Int} (h:IB 7 i) (k:IB 7 j):YbG i j := .inl ⟨200*2^7,200*2^7,h.h,k.h,by decide⟩
theorem ZB {k:Nat} {Z0 Z1:Addr} {c_part_told P_part_told:Addr} {c_judge_of P_judge_of:Addr} (R:g.Raw "numbers_told" "numbers_told" Z08 ["mark","body","thing"]) (Z8:g.Fn 2 "is_whole_number" ["thing"] (Y2 isI)) (Z7:g.FnX k "taken" ["mark","term","thing","can_take"] (Zs g P_part_told Z1 m)) (hkv:2≤k):g.FnX (k+1) "numbers_told" ["mark","body","thing"] (Ybh g P_part_told Z1 m):=by
 refine R.fnX ZZ (fun vs H Q E h=>by obtain ⟨mk,f,p,v1,v2,th,a,b,d,rfl,hp,hf,hA,hB,q⟩:=h;rfl) fun f_ cdv A outer s H vs Q E hr h=>?_
 obtain ⟨mk,f,p,v1,v2,th,a,b,d,rfl,hp,hf,hA,hB,q⟩:=h
 refine ⟨_,(@Ye _ _ _ _ _ (@YL _ _ (3) _ _ _ _ ZZ.nd rfl (.inl rfl) (@YR _ _ _ _ _ _ _ _ _ _ _ _ _ Z7 hr YW (@Ya _ _ _ _ _ (pv 0) (@Ya _ _ _ _ _ (@YC _ _ _ _ _ _ _ YO (pv 1) Yg (fun _ _=>rfl)) (@Ya _ _ _ _ _ (pv 2) (@Ya _ _ _ _ _ (@YZ _ _ _ _ _ _ _ Z8 (by rfl) (by rfl) (by decide)) Yb (by rfl)) (by rfl)) (by rfl)) (by rfl)) (by omega) (by rfl) (by rfl) (by decide) (by rfl) (by rfl)) (by rfl) (by first | exact .inl rfl | exact .inr rfl | assumption)) (@Ye _ _ _ _ _ (@YL _ _ (4) _ _ _ _ ZZ.nd rfl (.inl rfl) (@YR _ _ _ _ _ _ _ _ _ _ _ _ _ Z7 hr YW (@Ya _ _ _ _ _ (pv 0) (@Ya _ _ _ _ _ (@YC _ _ _ _ _ _ _ YO (pv 1) Yg (fun _ _=>rfl)) (@Ya _ _ _ _ _ (pv 2) (@Ya _ _ _ _ _ (@YZ _ _ _ _ _ _ _ Z8 (by rfl) (by rfl) (by decide)) Yb (by rfl)) (by rfl)) (by rfl)) (by rfl)) (by omega) (by rfl) (by rfl) (by decide) (by rfl) (by rfl)) (by rfl) (by first | exact .inl rfl | exact .inr rfl | assumption)) (@Ye _ _ _ _ _ (PS.nox (@Yr _ _ _ _ _ _ _ _ (@Ys _ _ _ _ _ _ _ _ YS (pv 0) Yy (Yp _)) (@Yf _ _ _ (@Yj _ _ _ _ (@YB _ _ _ _ _ _ _ _ V3 (pv 3) (pv 4)))) Yk)) (@Ye _ _ _ _ _ (PS.nox (@Yr _ _ _ _ _ _ _ _ (@Ys _ _ _ _ _ _ _ _ YS (pv 0) Yy (Yp _)) (@Yf _ _ _ (@Yj _ _ _ _ (@YB _ _ _ _ _ _ _ _ YaZ (pv 3) (pv 4)))) Yk)) (@Yf _ _ _ (PS.nox (@Yj _ _ _ _ (@Xu _ _ _ _ _ _ _ _ V6 (pv 3) (pv 4) (Yp _))))))))),?_⟩
 walk_at "rd"
 refine ⟨_,SqT.of hp,_,rfl,fun f1 hf1=>⟨mk,v1,th,f1,a,d,isI,rfl,hA,fun e _=>Xq hf1,Xi q (fun m e=>by rw [e];rfl) (fun x e c=>by rw [e];simp only [Yaj,take,Yai c]) fun x ex c r H1 k1 b1 hv=>?_⟩⟩
 obtain ⟨i,rfl⟩:=Wz c
 cases hv.iint
 refine ⟨_,SqT.of (k1.tup hp),_,rfl,fun f2 hf2=>⟨mk,v2,th,f2,b,d,isI,rfl,hB.keep k1 b1,fun e _=>Xq hf2,Xi (q.keep k1) (fun m e=>by rw [ex,e];rfl) (fun x e c=>by rw [ex,e];show (take mk (.ok x) Wn).map (f i)=_;rw [Xf (Yai c)];rfl) fun x ey c r H2 k2 b2 hv2=>?_⟩⟩
 obtain ⟨j,rfl⟩:=Wz c
 cases hv2.iint
 have q2:=q.keep (k1.trans k2)
 rw [ex,ey] at q2
 rcases hf with ⟨rfl,rfl⟩ | ⟨rfl,rfl⟩ | ⟨rfl,rfl⟩
 ·exact Y3 rfl ⟨_,rfl,_,rfl,q2 _ _ (.refl _) b2 ⟨[],.int _⟩⟩
 ·refine Yq (by decide) (Y3 rfl ⟨_,rfl,_,rfl,ib_cm (hA.ib ex) (hB.ib ey),q2 _ _ (.refl _) b2 ⟨[],.int _⟩⟩)
 ·refine Yq (by decide) (Yq (by decide) ⟨_,rfl,_,rfl,q2 _ _ (.refl _) b2 ⟨[],.bl _⟩⟩)
noncomputable def sameRes (a b:Say):Say:=match a with
  | .error m => .error m
  | .ok x=>b.map fun y => .bool (sm x y)
def Yak (P C:Addr) (m:Nat):Sp:=fun vs H Q E=>∃ (p:Addr) (v1 v2 th:V) (a b:Tm) (d:PyData),vs=[.ref p,th]∧H p=some (.tup [v1,v2])∧Ask P H m a v1 d th∧Ask P H m b v2 d th∧Out C P H Q E (sameRes (tell a d) (tell b d))
theorem YcF {C P:Addr} {H:Hp} {Q Q':VK} {E:XK} {s res:Say} (ho:Out C P H Q E res) (he:∀ m,s = .error m→res = .error m) (hy:∀ x,s = .ok x→∀ r H',Kt H H'→Tb P H'→DV H' r x→Q' r H'):Out C P H Q' E s:=by
 cases s with
 | error m=>rw [he m rfl] at ho;exact ho
 | ok x=>exact hy x rfl
theorem Ask.depth {P:Addr} {H:Hp} {m:Nat} {t:Tm} {v th:V} {d e:PyData} (h:Ask P H m t v d th) (ht:tell t d = .ok e):e.depth≤60:=by
 obtain ⟨k,hk,hl⟩:=h.pk
 have:=(YX h.ok hk ht).2
 have:=h.dd
 omega
theorem Z02 {k:Nat} {Z0 Z1:Addr} {c_part_told P_part_told:Addr} {c_judge_of P_judge_of:Addr} (R:g.Raw "same_told" "same_told" Z0q ["body","thing"]) (F_same:g.Fn k "same" ["one","other"] (Wg g.K 122)) (F_told:g.FnX k "told" ["term","thing"] (Wy P_part_told Z1 m)):g.FnX (k+1) "same_told" ["body","thing"] (Yak P_part_told Z1 m):=by
 refine R.fnX Q5 (fun vs H Q E h=>by obtain ⟨p,v1,v2,th,a,b,d,rfl,hp,hA,hB,q⟩:=h;rfl) fun f_ cdv A outer s H vs Q E hr h=>?_
 obtain ⟨p,v1,v2,th,a,b,d,rfl,hp,hA,hB,q⟩:=h
 refine ⟨_,(@Yf _ _ _ (@Yj _ _ _ _ (@Yo _ _ _ _ _ _ _ _ _ _ _ _ F_same hr (@Ya _ _ _ _ _ (@YR _ _ _ _ _ _ _ _ _ _ _ _ _ F_told hr YW (@Ya _ _ _ _ _ (@YC _ _ _ _ _ _ _ YO (pv 0) Yg (fun _ _=>rfl)) (@Ya _ _ _ _ _ (pv 1) Yb (by rfl)) (by rfl)) (by omega) (by rfl) (by rfl) (by decide) (by rfl) (by rfl)) (@Ya _ _ _ _ _ (@YR _ _ _ _ _ _ _ _ _ _ _ _ _ F_told hr YW (@Ya _ _ _ _ _ (@YC _ _ _ _ _ _ _ YO (pv 0) Yg (fun _ _=>rfl)) (@Ya _ _ _ _ _ (pv 1) Yb (by rfl)) (by rfl)) (by omega) (by rfl) (by rfl) (by decide) (by rfl) (by rfl)) Yb (by rfl)) (by rfl)) (by omega) (by rfl) (by rfl) (by decide) (by rfl) (by rfl)))),?_⟩
 walk_at "rd"
 refine ⟨_,SqT.of hp,_,rfl,v1,th,a,d,rfl,hA,YcF q (fun m e=>by rw [e];rfl) fun x ex r H1 k1 b1 hv=>?_⟩
 refine ⟨_,SqT.of (k1.tup hp),_,rfl,v2,th,b,d,rfl,hB.keep k1 b1,YcF (q.keep k1) (fun m e=>by rw [ex,e];rfl) fun y ey r2 H2 k2 b2 hv2=>?_⟩
 have q2:=q.keep (k1.trans k2)
 rw [ex,ey] at q2
 have:=hA.depth ex
 exact ⟨r,r2,x,y,rfl,hv.kt k2,hv2,by omega,fun H' s'=>q2 _ _ (Y6 s') (b2.keep s') ⟨[],.bl _⟩⟩
def Ybi (a b:Say):Say:=match take "both" a Xh with
  | .error m => .error m
  | .ok false => .ok (.bool false)
  | .ok true=>(take "both" b Xh).map .bool
def Yal (g:Gx) (P C:Addr) (m:Nat):Sp:=fun vs H Q E=>∃ (p:Addr) (v1 v2 th:V) (a b:Tm) (d:PyData),vs=[.ref p,th]∧H p=some (.tup [v1,v2])∧Ask P H m a v1 d th∧Ask P H m b v2 d th∧Out C P H Q E (Ybi (tell a d) (tell b d))
theorem Z03 {k:Nat} {Z0 Z1:Addr} {c_part_told P_part_told:Addr} {c_judge_of P_judge_of:Addr} (R:g.Raw "both_told" "both_told" Z0r ["body","thing"]) (Za:g.Fn 2 "is_truth" ["thing"] (Y2 isB)) (Z7:g.FnX k "taken" ["mark","term","thing","can_take"] (Zs g P_part_told Z1 m)) (hkv:2≤k):g.FnX (k+1) "both_told" ["body","thing"] (Yal g P_part_told Z1 m):=by
 refine R.fnX Q6 (fun vs H Q E h=>by obtain ⟨p,v1,v2,th,a,b,d,rfl,hp,hA,hB,q⟩:=h;rfl) fun f_ cdv A outer s H vs Q E hr h=>?_
 obtain ⟨p,v1,v2,th,a,b,d,rfl,hp,hA,hB,q⟩:=h
 refine ⟨_,(@Yf _ _ _ (@Yj _ _ _ _ (@Y8 _ _ _ _ _ _ _ (@YR _ _ _ _ _ _ _ _ _ _ _ _ _ Z7 hr YW (@Ya _ _ _ _ _ Yy (@Ya _ _ _ _ _ (@YC _ _ _ _ _ _ _ YO (pv 0) Yg (fun _ _=>rfl)) (@Ya _ _ _ _ _ (pv 1) (@Ya _ _ _ _ _ (@YZ _ _ _ _ _ _ _ Za (by rfl) (by rfl) (by decide)) Yb (by rfl)) (by rfl)) (by rfl)) (by rfl)) (by omega) (by rfl) (by rfl) (by decide) (by rfl) (by rfl)) (@Xc _ _ _ _ _ (@YR _ _ _ _ _ _ _ _ _ _ _ _ _ Z7 hr YW (@Ya _ _ _ _ _ Yy (@Ya _ _ _ _ _ (@YC _ _ _ _ _ _ _ YO (pv 0) Yg (fun _ _=>rfl)) (@Ya _ _ _ _ _ (pv 1) (@Ya _ _ _ _ _ (@YZ _ _ _ _ _ _ _ Za (by rfl) (by rfl) (by decide)) Yb (by rfl)) (by rfl)) (by rfl)) (by rfl)) (by omega) (by rfl) (by rfl) (by decide) (by rfl) (by rfl)))))),?_⟩
 walk_at "rd"
 refine ⟨_,SqT.of hp,_,rfl,fun f1 hf1=>⟨_,v1,th,f1,a,d,isB,rfl,hA,fun e _=>Xq hf1,Xi q (fun m e=>by rw [e];rfl) (fun x e c=>by rw [e];simp only [Ybi,take,X0 c]) fun x ex c r H1 k1 b1 hv=>?_⟩⟩
 obtain ⟨i,rfl⟩:=Wh c
 cases hv.ibl
 have q1:=q.keep k1
 rw [ex] at q1
 refine ⟨i,rfl,?_⟩
 cases i with
 | false=>exact Yq (by decide) (q1 _ _ (.refl _) b1 ⟨[],.bl _⟩)
 | true =>
  refine Y3 rfl ⟨_,SqT.of (k1.tup hp),_,rfl,fun f2 hf2=>⟨_,v2,th,f2,b,d,isB,rfl,hB.keep k1 b1,fun e _=>Xq hf2,Xi q1 (fun m e=>by rw [e];rfl) (fun x e c=>by rw [e];show (take "both" (.ok x) Xh).map PyData.bool=_;rw [Xf (X0 c)];rfl) fun x ey c r H2 k2 b2 hv2=>?_⟩⟩
  obtain ⟨j,rfl⟩:=Wh c
  rw [ey] at q1
  exact q1 r H2 k2 b2 hv2
def Yam (g:Gx) (P C:Addr) (m:Nat):Sp:=fun vs H Q E=>∃ (p:Addr) (v1 v2 v3 th:V) (a b c:Tm) (d:PyData),vs=[.ref p,th]∧H p=some (.tup [v1,v2,v3])∧Ask P H m a v1 d th∧Ask P H m b v2 d th∧Ask P H m c v3 d th∧Out C P H Q E (tell (.when a b c) d)
theorem Z04 {k:Nat} {Z0 Z1:Addr} {c_part_told P_part_told:Addr} {c_judge_of P_judge_of:Addr} (R:g.Raw "when_told" "when_told" Z0s ["body","thing"]) (Za:g.Fn 2 "is_truth" ["thing"] (Y2 isB)) (Z7:g.FnX k "taken" ["mark","term","thing","can_take"] (Zs g P_part_told Z1 m)) (F_told:g.FnX k "told" ["term","thing"] (Wy P_part_told Z1 m)) (hkv:2≤k):g.FnX (k+1) "when_told" ["body","thing"] (Yam g P_part_told Z1 m):=by
 refine R.fnX Q7 (fun vs H Q E h=>by obtain ⟨p,v1,v2,v3,th,a,b,c,d,rfl,hp,hA,hB,hC,q⟩:=h;rfl) fun f_ cdv A outer s H vs Q E hr h=>?_
 obtain ⟨p,v1,v2,v3,th,a,b,c,d,rfl,hp,hA,hB,hC,q⟩:=h
 refine ⟨_,(@Yf _ _ _ (@Yj _ _ _ _ (@YR _ _ _ _ _ _ _ _ _ _ _ _ _ F_told hr YW (@Ya _ _ _ _ _ (@QC _ _ _ _ _ _ _ _ (@YH _ _ _ (@YR _ _ _ _ _ _ _ _ _ _ _ _ _ Z7 hr YW (@Ya _ _ _ _ _ Yy (@Ya _ _ _ _ _ (@YC _ _ _ _ _ _ _ YO (pv 0) Yg (fun _ _=>rfl)) (@Ya _ _ _ _ _ (pv 1) (@Ya _ _ _ _ _ (@YZ _ _ _ _ _ _ _ Za (by rfl) (by rfl) (by decide)) Yb (by rfl)) (by rfl)) (by rfl)) (by rfl)) (by omega) (by rfl) (by rfl) (by decide) (by rfl) (by rfl)) (by intro _;rfl)) (@YC _ _ _ _ _ _ _ YO (pv 0) Yg (fun _ _=>rfl)) (@YC _ _ _ _ _ _ _ YO (pv 0) Yg (fun _ _=>rfl))) (@Ya _ _ _ _ _ (pv 1) Yb (by rfl)) (by rfl)) (by omega) (by rfl) (by rfl) (by decide) (by rfl) (by rfl)))),?_⟩
 walk_at "rd"
 refine ⟨_,SqT.of hp,_,rfl,fun f1 hf1=>⟨_,v1,th,f1,a,d,isB,rfl,hA,fun e _=>Xq hf1,Xi q (fun m e=>by simp only [tell,e];rfl) (fun x e c=>by simp only [tell,e,Xf (X0 c)]) fun x ex c r H1 k1 b1 hv=>?_⟩⟩
 obtain ⟨i,rfl⟩:=Wh c
 cases hv.ibl
 have q1:=q.keep k1
 simp only [tell,ex,Xy (show Xh (.bool i)=some i from rfl)] at q1
 refine ⟨i,rfl,?_⟩
 cases i with
 | false=>exact Yq (by decide) ⟨_,SqT.of (k1.tup hp),_,rfl,v3,th,_,d,rfl,hC.keep k1 b1,q1⟩
 | true=>exact Y3 rfl ⟨_,SqT.of (k1.tup hp),_,rfl,v2,th,_,d,rfl,hB.keep k1 b1,q1⟩
def Yan (g:Gx) (P C:Addr) (m:Nat):Sp:=fun vs H Q E=>∃ (p:Addr) (v1 v2 th:V) (a b:Tm) (d:PyData),vs=[.ref p,th]∧H p=some (.tup [v1,v2])∧Ask P H m a v1 d th∧Ask P H m b v2 d th∧(∃ k,Pk k d∧k+(max a.dep b.dep+1)≤7)∧Out C P H Q E (tell (.joined a b) d)
theorem pk6 {t:Tm} {k:Nat} {d e:PyData} (ho:t.ok) (hp:Pk k d) (hk:k+t.dep≤6) (h:tell t d = .ok e):Pk 6 e:=(YX ho hp h).1.mono hk
theorem ZL {k:Nat} {Z0 Z1:Addr} {c_part_told P_part_told:Addr} {c_judge_of P_judge_of:Addr} (R:g.Raw "joined_told" "joined_told" Z0c ["body","thing"]) (Z0b:g.Fn 2 "is_text" ["thing"] (Y2 isS)) (Z0o:g.Fn 2 "is_list" ["thing"] (Y2 isL)) (Z17:g.Fn 2 "is_list_or_text" ["thing"] (XM Yac)) (Z7:g.FnX k "taken" ["mark","term","thing","can_take"] (Zs g P_part_told Z1 m)) (hkv:2≤k):g.FnX (k+1) "joined_told" ["body","thing"] (Yan g P_part_told Z1 m):=by
 refine R.fnX Z0D (fun vs H Q E h=>by obtain ⟨p,v1,v2,th,a,b,d,rfl,hp,hA,hB,⟨k,hk,hkd⟩,q⟩:=h;rfl) fun f_ cdv A outer s H vs Q E hr h=>?_
 obtain ⟨p,v1,v2,th,a,b,d,rfl,hp,hA,hB,⟨k,hk,hkd⟩,q⟩:=h
 refine ⟨_,(@Ye _ _ _ _ _ (@YL _ _ (2) _ _ _ _ Z0D.nd rfl (.inl rfl) (@YR _ _ _ _ _ _ _ _ _ _ _ _ _ Z7 hr YW (@Ya _ _ _ _ _ Yy (@Ya _ _ _ _ _ (@YC _ _ _ _ _ _ _ YO (pv 0) Yg (fun _ _=>rfl)) (@Ya _ _ _ _ _ (pv 1) (@Ya _ _ _ _ _ (@YZ _ _ _ _ _ _ _ Z17 (by rfl) (by rfl) (by decide)) Yb (by rfl)) (by rfl)) (by rfl)) (by rfl)) (by omega) (by rfl) (by rfl) (by decide) (by rfl) (by rfl)) (by rfl) (by first | exact .inl rfl | exact .inr rfl | assumption)) (@Yf _ _ _ (@Yj _ _ _ _ (@YB _ _ _ _ _ _ _ _ (Ye0 YeI V7) (pv 2) (@YR _ _ _ _ _ _ _ _ _ _ _ _ _ Z7 hr YW (@Ya _ _ _ _ _ Yy (@Ya _ _ _ _ _ (@YC _ _ _ _ _ _ _ YO (pv 0) Yg (fun _ _=>rfl)) (@Ya _ _ _ _ _ (pv 1) (@Ya _ _ _ _ _ (@QC _ _ _ _ _ _ _ _ (@YH _ _ _ (@Yo _ _ _ _ _ _ _ _ _ _ _ _ Z0b hr (@Ya _ _ _ _ _ (pv 2) Yb (by rfl)) (by omega) (by rfl) (by rfl) (by decide) (by rfl) (by rfl)) (by intro _;rfl)) (@YZ _ _ _ _ _ _ _ Z0b (by rfl) (by rfl) (by decide)) (@YZ _ _ _ _ _ _ _ Z0o (by rfl) (by rfl) (by decide))) Yb (by rfl)) (by rfl)) (by rfl)) (by rfl)) (by omega) (by rfl) (by rfl) (by decide) (by rfl) (by rfl)))))),?_⟩
 walk_at "rd"
 refine ⟨_,SqT.of hp,_,rfl,fun f1 hf1=>⟨_,v1,th,f1,a,d,Yac,rfl,hA,fun e _=>XH hf1,Xi q (fun m e=>by simp only [tell,e]) (fun x e c=>by cases x<;>first | (simp only [tell,e];done) | (simp [Yac,isL,isS] at c)) fun x ex c r H1 k1 b1 hv=>?_⟩⟩
 have q1:=q.keep k1
 have px:=pk6 hA.ok hk (by omega) ex
 refine ⟨_,SqT.of (k1.tup hp),_,rfl,r,x,rfl,hv,_,rfl,?_⟩
 cases x with
 | list xs =>
  simp only [tell,ex] at q1
  refine Yq (by simp [isS]) fun f2 hf2=>⟨_,v2,th,f2,b,d,isL,rfl,hB.keep k1 b1,fun e _=>Xq hf2,Xi q1 (fun m e=>by rw [e];rfl) (fun y e c=>by rw [e];exact Xf (by cases y<;>first | rfl | cases c)) fun y ey c r2 H2 k2 b2 hv2 => .inl ?_⟩
  cases y with
  | list ys =>
   have py:=pk6 hB.ok hk (by omega) ey
   obtain ⟨a1,us,rfl,h1,l1,d1⟩:=(hv.kt k2).ilst
   obtain ⟨a2,ws,rfl,h2,l2,d2⟩:=hv2.ilst
   have e1:=d1.length
   have e2:=d2.length
   have p1:=px.1
   have p2:=py.1
   rw [ey] at q1
   refine ⟨a1,rfl,a2,rfl,us,h1,ws,h2,few (by omega),fun pp hpp=>?_⟩
   have s3:=Yd.upd_new hpp (HO.lst (us++ws))
   exact q1 _ _ (k2.trans (Y6 s3)) (b2.keep s3) (.lst Yc (by rw [List.length_append];omega) ((d1.append d2).keep s3))
  | _=>cases c
 | str x =>
  simp only [tell,ex] at q1
  refine Y3 (by simp [isS]) fun f2 hf2=>⟨_,v2,th,f2,b,d,isS,rfl,hB.keep k1 b1,fun e _=>Xq hf2,Xi q1 (fun m e=>by rw [e];rfl) (fun y e c=>by rw [e];exact Xf (by cases y<;>first | rfl | cases c)) fun y ey c r2 H2 k2 b2 hv2 => .inr ?_⟩
  cases y with
  | str z =>
   have py:=pk6 hB.ok hk (by omega) ey
   obtain ⟨rfl,o1⟩:=hv.istr
   obtain ⟨rfl,o2⟩:=hv2.istr
   have p1:x.length≤64*2^6:=px
   have p2:z.length≤64*2^6:=py
   rw [ey] at q1
   exact ⟨x,rfl,z,rfl,few (by omega),q1 _ _ k2 b2 ⟨[],.str _ (U6 o1 o2)⟩⟩
  | _=>cases c
 | _=>simp [Yac,isL,isS] at c
def Yao (g:Gx) (P C:Addr) (m:Nat):Sp:=fun vs H Q E=>∃ (p:Addr) (v1 v2 th:V) (a b:Tm) (d:PyData),vs=[.ref p,th]∧H p=some (.tup [v1,v2])∧Ask P H m a v1 d th∧Ask P H m b v2 d th∧Out C P H Q E (tell (.each a b) d)
theorem Ur {K:PySem.W.Frag} {tl:TE} {g:TG} {tb:TS} {D:Ends} {σ:St} {H:Hp} (Pv:Addr→List V→Nat→St→Hp→Prop) (ha:∀ R:V→Hp→Prop,(∀ c xs H1,Pv c xs 0 σ H1→R (.ref c) H1)→tl σ H R) (hl:∀ c xs i σ H,i≤xs.length→Pv c xs i σ H→SqL K H c xs)
  (hs:∀ c xs (i:Nat) x σ H,xs[i]?=some x→Pv c xs i σ H→g x σ H fun σ2 H2=>tb { D with nx:=Pv c xs (i+1),ct:=Pv c xs (i+1),bk:=D.nx } σ2 H2) (hd:∀ c xs σ H,Pv c xs xs.length σ H→D.nx σ H):X9 (W5 K tl) g tb D σ H:=by
 refine ha _ fun c xs H1 h0=>⟨c,rfl,⟨xs,hl c xs 0 σ H1 (Nat.zero_le _) h0⟩,?_⟩
 exact YcU (Pv c xs) h0 (hl c xs) (hs c xs) (hd c xs)
theorem YcG {K:PySem.W.Frag} {tl:TE} {g:TG} {tb:TS} {D:Ends} {σ:St} {H:Hp} (Pv:Addr→List V→Nat→St→Hp→Prop) (ha:∀ R:V→Hp→Prop,(∀ c xs H1,Pv c xs 0 σ H1→R (.ref c) H1)→tl σ H R) (hl:∀ c xs i σ H,i≤xs.length→Pv c xs i σ H→SqT K H c xs)
  (hs:∀ c xs (i:Nat) x σ H,xs[i]?=some x→Pv c xs i σ H→g x σ H fun σ2 H2=>tb { D with nx:=Pv c xs (i+1),ct:=Pv c xs (i+1),bk:=D.nx } σ2 H2) (hd:∀ c xs σ H,Pv c xs xs.length σ H→D.nx σ H):X9 (QE K tl) g tb D σ H:=by
 refine ha _ fun c xs H1 h0=>⟨c,rfl,⟨xs,hl c xs 0 σ H1 (Nat.zero_le _) h0⟩,?_⟩
 exact YdY (Pv c xs) h0 (hl c xs) (hs c xs) (hd c xs)
theorem U7 {P:Addr} {H:Hp} {m:Nat} {a b:Tm} {v1 v2 th:V} {d x:PyData} {ds:List PyData} (hA:Ask P H m a v1 d th) (hB:Ask P H m b v2 d th) (ex:tell a d = .ok x) (hx:Yn x=some ds) (y:PyData) (hy:y∈ds) (H':Hp) (u:V) (k1:Kt H H') (b1:Tb P H') (hv:DV H' u y):Ask P H' m b v2 y u:=by
 have hB':=hB.keep k1 b1
 obtain ⟨k,hk,hl⟩:=hA.pk
 obtain ⟨k',hk',hl'⟩:=hB.pk
 obtain ⟨p1,p2⟩:=YX hA.ok hk ex
 have dd:=hA.dd
 have hyy:hb y∧y.depth≤60:=by
  cases x with
  | list zs =>
   cases hx
   have:=Yx hy
   rw [PyData.depth] at p2
   exact ⟨Wf p1.2 hy,by omega⟩
  | tuple zs =>
   cases hx
   have:=Yx hy
   rw [PyData.depth] at p2
   exact ⟨Wf p1.2 hy,by omega⟩
  | _=>cases hx
 exact ⟨hB'.at',hB'.ok,hB'.dep,hv,⟨0,Qw hyy.1,by omega⟩,hyy.2,b1⟩
theorem Z05 {k:Nat} {Z0 Z1:Addr} {c_part_told P_part_told:Addr} {c_judge_of P_judge_of:Addr} (R:g.Raw "each_told" "each_told" Z0t ["body","thing"]) (Za:g.Fn 2 "is_truth" ["thing"] (Y2 isB)) (Z6:g.Fn 2 "is_list_or_tuple" ["thing"] (XM Xj)) (Z7:g.FnX k "taken" ["mark","term","thing","can_take"] (Zs g P_part_told Z1 m)) (hkv:2≤k):g.FnX (k+1) "each_told" ["body","thing"] (Yao g P_part_told Z1 m):=by
 refine R.fnX Z0X (fun vs H Q E h=>by obtain ⟨p,v1,v2,th,a,b,d,rfl,hp,hA,hB,q⟩:=h;rfl) fun f_ cdv A outer s H vs Q E hr h=>?_
 obtain ⟨p,v1,v2,th,a,b,d,rfl,hp,hA,hB,q⟩:=h
 refine ⟨_,(@Ye _ _ _ _ _ (@V2 _ _ _ _ _ _ _ _ PassesOwn.leaving rfl (@Wv _ _ _ _ _ (@XW _ _ _ _ (@YR _ _ _ _ _ _ _ _ _ _ _ _ _ Z7 hr YW (@Ya _ _ _ _ _ Yy (@Ya _ _ _ _ _ (@YC _ _ _ _ _ _ _ YO (pv 0) Yg (fun _ _=>rfl)) (@Ya _ _ _ _ _ (pv 1) (@Ya _ _ _ _ _ (@YZ _ _ _ _ _ _ _ Z6 (by rfl) (by rfl) (by decide)) Yb (by rfl)) (by rfl)) (by rfl)) (by rfl)) (by omega) (by rfl) (by rfl) (by decide) (by rfl) (by rfl))) (@WE _ _ _ _ (@YR _ _ _ _ _ _ _ _ _ _ _ _ _ Z7 hr YW (@Ya _ _ _ _ _ Yy (@Ya _ _ _ _ _ (@YC _ _ _ _ _ _ _ YO (pv 0) Yg (fun _ _=>rfl)) (@Ya _ _ _ _ _ (pv 1) (@Ya _ _ _ _ _ (@YZ _ _ _ _ _ _ _ Z6 (by rfl) (by rfl) (by decide)) Yb (by rfl)) (by rfl)) (by rfl)) (by rfl)) (by omega) (by rfl) (by rfl) (by decide) (by rfl) (by rfl)))) (@Y0 _ _ (2) _ Z0X.nd rfl (.inl rfl) (by first | exact .inl rfl | exact .inr rfl | assumption)) (@Yf _ _ _ (@Yr _ _ _ _ _ _ _ _ (@Xt _ _ _ _ (@YH _ _ _ (@YR _ _ _ _ _ _ _ _ _ _ _ _ _ Z7 hr YW (@Ya _ _ _ _ _ Yy (@Ya _ _ _ _ _ (@YC _ _ _ _ _ _ _ YO (pv 0) Yg (fun _ _=>rfl)) (@Ya _ _ _ _ _ (pv 2) (@Ya _ _ _ _ _ (@YZ _ _ _ _ _ _ _ Za (by rfl) (by rfl) (by decide)) Yb (by rfl)) (by rfl)) (by rfl)) (by rfl)) (by omega) (by rfl) (by rfl) (by decide) (by rfl) (by rfl)) (by intro _;rfl))) (@Yf _ _ _ (PS.nox (@Yj _ _ _ _ Y4))) Yk)) (by intro _;rfl)) (@Yf _ _ _ (PS.nox (@Yj _ _ _ _ Y4)))),?_⟩
 walk_at "rd"
 cases ex:tell a d with
 | error mk =>
  refine VQ ?_
  unfold X9 W5
  walk_at "rd"
  refine ⟨_,SqT.of hp,_,rfl,fun f1 hf1=>⟨_,v1,th,f1,a,d,Xj,rfl,hA,fun e _=>XH hf1,?_⟩⟩
  simp only [tell,ex] at q
  rw [ex]
  exact q
 | ok x =>
 cases x with
 | list ds =>
  have hitem:=U7 hA hB ex rfl
  simp only [tell,ex,Xy (show Yn (.list ds)=some ds from rfl)] at q
  refine VQ (Ur (fun c xs i σ H'=>Kt H H'∧Tb P_part_told H'∧(∃ w,σ=[some (.ref p),some th,w])∧H' c=some (.lst xs)∧DVs H' xs ds∧Xo "each" (fun x=>tell b x) (ds.drop i)=Xo "each" (fun x=>tell b x) ds) (fun R hR=>?_) (fun c xs i σ H' _ z=>SqL.of z.2.2.2.1) (fun c xs i x σ H' hx z=>?_) fun c xs σ H' z=>?_)
  ·walk_at "rd"
   refine ⟨_,SqT.of hp,_,rfl,fun f1 hf1=>⟨_,v1,th,f1,a,d,Xj,rfl,hA,fun e _=>XH hf1,?_⟩⟩
   rw [ex]
   intro r H1 k1 b1 hv
   obtain ⟨a1,us,rfl,h1,l1,d1⟩:=hv.ilst
   exact hR a1 us H1 ⟨k1,b1,⟨none,rfl⟩,h1,d1,rfl⟩
  ·obtain ⟨k1,b1,⟨w,rfl⟩,hc,hds,he⟩:=z
   obtain ⟨y,hy,hv⟩:=hds.at hx
   obtain ⟨hi,ei⟩:=List.getElem?_eq_some_iff.mp hy
   have ed:ds.drop i=y::ds.drop (i+1):=by rw [← ei];exact List.drop_eq_getElem_cons hi
   rw [ed] at he
   have hBy:Ask P_part_told H' m b v2 y x:=hitem y (List.mem_of_getElem? hy) H' x k1 b1 hv
   walk_at "rd"
   refine ⟨_,SqT.of (k1.tup hp),_,rfl,fun f2 hf2=>⟨_,v2,x,f2,b,y,isB,rfl,hBy,fun e _=>Xq hf2,Xi (q.keep k1) (fun m e=>?_) (fun z e c=>?_) fun z ez c r H2 k2 b2 hv2=>?_⟩⟩
   ·rw [← he];simp only [Xo,e];rfl
   ·rw [← he];simp only [Xo,e,Xf (X0 c)]
   ·obtain ⟨i',rfl⟩:=Wh c
    cases hv2.ibl
    simp only [Xo,ez,Xy (show Xh (.bool i')=some i' from rfl)] at he
    refine ⟨i',rfl,?_⟩
    cases i' with
    | true=>exact Yq (by decide) ⟨k1.trans k2,b2,k2.lst hc,hds.kt k2,he⟩
    | false =>
     rw [← he] at q
     exact Y3 rfl (q _ _ (k1.trans k2) b2 ⟨[],.bl _⟩)
  ·obtain ⟨k1,b1,⟨w,rfl⟩,hc,hds,he⟩:=z
   rw [hds.length,List.drop_length] at he
   rw [← he] at q
   exact q _ _ k1 b1 ⟨[],.bl _⟩
 | tuple ds =>
  have hitem:=U7 hA hB ex rfl
  simp only [tell,ex,Xy (show Yn (.tuple ds)=some ds from rfl)] at q
  refine Ydc (YcG (fun c xs i σ H'=>Kt H H'∧Tb P_part_told H'∧(∃ w,σ=[some (.ref p),some th,w])∧H' c=some (.tup xs)∧DVs H' xs ds∧Xo "each" (fun x=>tell b x) (ds.drop i)=Xo "each" (fun x=>tell b x) ds) (fun R hR=>?_) (fun c xs i σ H' _ z=>SqT.of z.2.2.2.1) (fun c xs i x σ H' hx z=>?_) fun c xs σ H' z=>?_)
  ·walk_at "rd"
   refine ⟨_,SqT.of hp,_,rfl,fun f1 hf1=>⟨_,v1,th,f1,a,d,Xj,rfl,hA,fun e _=>XH hf1,?_⟩⟩
   rw [ex]
   intro r H1 k1 b1 hv
   obtain ⟨a1,us,rfl,h1,l1,d1⟩:=hv.itup
   exact hR a1 us H1 ⟨k1,b1,⟨none,rfl⟩,h1,d1,rfl⟩
  ·obtain ⟨k1,b1,⟨w,rfl⟩,hc,hds,he⟩:=z
   obtain ⟨y,hy,hv⟩:=hds.at hx
   obtain ⟨hi,ei⟩:=List.getElem?_eq_some_iff.mp hy
   have ed:ds.drop i=y::ds.drop (i+1):=by rw [← ei];exact List.drop_eq_getElem_cons hi
   rw [ed] at he
   have hBy:Ask P_part_told H' m b v2 y x:=hitem y (List.mem_of_getElem? hy) H' x k1 b1 hv
   walk_at "rd"
   refine ⟨_,SqT.of (k1.tup hp),_,rfl,fun f2 hf2=>⟨_,v2,x,f2,b,y,isB,rfl,hBy,fun e _=>Xq hf2,Xi (q.keep k1) (fun m e=>?_) (fun z e c=>?_) fun z ez c r H2 k2 b2 hv2=>?_⟩⟩
   ·rw [← he];simp only [Xo,e];rfl
   ·rw [← he];simp only [Xo,e,Xf (X0 c)]
   ·obtain ⟨i',rfl⟩:=Wh c
    cases hv2.ibl
    simp only [Xo,ez,Xy (show Xh (.bool i')=some i' from rfl)] at he
    refine ⟨i',rfl,?_⟩
    cases i' with
    | true=>exact Yq (by decide) ⟨k1.trans k2,b2,k2.tup hc,hds.kt k2,he⟩
    | false =>
     rw [← he] at q
     exact Y3 rfl (q _ _ (k1.trans k2) b2 ⟨[],.bl _⟩)
  ·obtain ⟨k1,b1,⟨w,rfl⟩,hc,hds,he⟩:=z
   rw [hds.length,List.drop_length] at he
   rw [← he] at q
   exact q _ _ k1 b1 ⟨[],.bl _⟩
 | _ =>
  refine VQ ?_
  unfold X9 W5
  walk_at "rd"
  refine ⟨_,SqT.of hp,_,rfl,fun f1 hf1=>⟨_,v1,th,f1,a,d,Xj,rfl,hA,fun e _=>XH hf1,?_⟩⟩
  simp only [tell,ex] at q
  rw [ex]
  exact q
theorem Ask.sub {P:Addr} {H:Hp} {m:Nat} {T t:Tm} {v th u:V} {d:PyData} (h:Ask P H (m+1) T v d th) (ht:Yw H t u) (ho:t.ok) (hd:t.dep+1≤T.dep):Ask P H m t u d th:=by
 obtain ⟨k,hk,hl⟩:=h.pk
 have:=h.dep
 exact ⟨ht,ho,by omega,h.dv,⟨k,hk,by omega⟩,h.dd,h.tb⟩
theorem UL:∀ {H:Hp} {vs:List V} {ds:List PyData} {s:Int},DVs H vs ds→Xe ds=some s→∃ ns:List Int,vs=ns.map V.int∧ns.sum=s
 | H,[],[],s,_,e=>by cases e;exact ⟨[],rfl,rfl⟩
 | H,[],_::_,s,h,_=>absurd h.length (by simp)
 | H,_::_,[],s,h,_=>absurd h.length (by simp)
 | H,v::vs,d::ds,s,h,e=>by
  cases d with
  | int i =>
   simp only [Xe,Option.map_eq_some_iff] at e
   obtain ⟨z,e1,rfl⟩:=e
   obtain ⟨ns,rfl,e2⟩:=UL h.inv.2 e1
   cases h.inv.1.iint
   exact ⟨i::ns,rfl,by rw [List.sum_cons,e2]⟩
  | _=>cases e
theorem Ybj {t:Tm} {d:PyData} {z:Str} (h:∃ k,Pk k d∧k+(t.dep+1)≤7) (ho:t.ok) (e:tell t d = .ok (.str z)):z.length≤sizeLine:=by
 obtain ⟨k,hk,hl⟩:=h
 have p:z.length≤64*2^6:=pk6 ho hk (by omega) e
 exact few (by omega)
theorem VA {k:Nat} {Z0 Z1:Addr} {c_part_told P_part_told:Addr} {c_judge_of P_judge_of:Addr} (R:g.Raw "told" "told" Q8 ["term","thing"]) (Za:g.Fn 2 "is_truth" ["thing"] (Y2 isB)) (ZN:g.Fn 2 "is_list_tuple_or_text" ["thing"] (XM Vx)) (Z0R:g.Fn 2 "are_whole_numbers" ["thing"] (XM UJ)) (Z7:g.FnX k "taken" ["mark","term","thing","can_take"] (Zs g P_part_told Z1 m)) (F_part_told:g.FnX k "part_told" ["body","thing"] (Ybf g P_part_told Z1 m)) (Z1p:g.FnX k "numbers_told" ["mark","body","thing"] (Ybh g P_part_told Z1 m)) (F_same_told:g.FnX k "same_told" ["body","thing"] (Yak P_part_told Z1 m)) (F_both_told:g.FnX k "both_told" ["body","thing"] (Yal g P_part_told Z1 m)) (F_when_told:g.FnX k "when_told" ["body","thing"] (Yam g P_part_told Z1 m)) (F_each_told:g.FnX k "each_told" ["body","thing"] (Yao g P_part_told Z1 m)) (F_joined_told:g.FnX k "joined_told" ["body","thing"] (Yan g P_part_told Z1 m)) (hkv:2≤k) (b_len:g.mg "len"=none) (b_sum:g.mg "sum"=none):g.FnX (k+1) "told" ["term","thing"] (Wy P_part_told Z1 (m+1)):=by
 refine R.fnX UI (fun vs H Q E h=>by obtain ⟨v,th,t,d,rfl,hA,q⟩:=h;rfl) fun f_ cdv A outer s H vs Q E hr h=>?_
 obtain ⟨v,th,t,d,rfl,hA,q⟩:=h
 refine ⟨_,(@Ye _ _ _ _ _ (PS.nox (@YL _ _ (2) _ _ _ _ UI.nd rfl (.inl rfl) (@YC _ _ _ _ _ _ _ YO (pv 0) Yg (fun _ _=>rfl)) (by rfl) (by first | exact .inl rfl | exact .inr rfl | assumption))) (@Ye _ _ _ _ _ (PS.nox (@YL _ _ (3) _ _ _ _ UI.nd rfl (.inl rfl) (@YC _ _ _ _ _ _ _ YO (pv 0) Yg (fun _ _=>rfl)) (by rfl) (by first | exact .inl rfl | exact .inr rfl | assumption))) (@Ye _ _ _ _ _ (PS.nox (@Yr _ _ _ _ _ _ _ _ (@Ys _ _ _ _ _ _ _ _ YS (pv 2) Yy (Yp _)) (@Yf _ _ _ (@Yj _ _ _ _ (pv 3))) Yk)) (@Ye _ _ _ _ _ (PS.nox (@Yr _ _ _ _ _ _ _ _ (@Ys _ _ _ _ _ _ _ _ YS (pv 2) Yy (Yp _)) (@Yf _ _ _ (@Yj _ _ _ _ (pv 1))) Yk)) (@Ye _ _ _ _ _ (@Yr _ _ _ _ _ _ _ _ (@Ys _ _ _ _ _ _ _ _ YS (pv 2) Yy (Yp _)) (@Yf _ _ _ (@Yj _ _ _ _ (@YR _ _ _ _ _ _ _ _ _ _ _ _ _ F_part_told hr YW (@Ya _ _ _ _ _ (pv 3) (@Ya _ _ _ _ _ (pv 1) Yb (by rfl)) (by rfl)) (by omega) (by rfl) (by rfl) (by decide) (by rfl) (by rfl)))) Yk) (@Ye _ _ _ _ _ (@Yr _ _ _ _ _ _ _ _ (@Ys _ _ _ _ _ _ _ _ YS (pv 2) Yy (Yp _)) (@Yf _ _ _ (@Yj _ _ _ _ (@YE _ _ _ _ _ _ _ _ _ _ b_len (QS Y5 QK) (@Ya _ _ _ _ _ (@YR _ _ _ _ _ _ _ _ _ _ _ _ _ Z7 hr YW (@Ya _ _ _ _ _ (pv 2) (@Ya _ _ _ _ _ (pv 3) (@Ya _ _ _ _ _ (pv 1) (@Ya _ _ _ _ _ (@YZ _ _ _ _ _ _ _ ZN (by rfl) (by rfl) (by decide)) Yb (by rfl)) (by rfl)) (by rfl)) (by rfl)) (by omega) (by rfl) (by rfl) (by decide) (by rfl) (by rfl)) Yb (by rfl)) (by decide +kernel) (by rfl) (by rfl) (by decide) (by decide) (by rfl) (by rfl)))) Yk) (@Ye _ _ _ _ _ (@Yr _ _ _ _ _ _ _ _ (@Ys _ _ _ _ _ _ _ _ YS (pv 2) Yy (Yp _)) (@Yf _ _ _ (@Yj _ _ _ _ (@YE _ _ _ _ _ _ _ _ _ _ b_sum (QS Qh Q0) (@Ya _ _ _ _ _ (@YR _ _ _ _ _ _ _ _ _ _ _ _ _ Z7 hr YW (@Ya _ _ _ _ _ (pv 2) (@Ya _ _ _ _ _ (pv 3) (@Ya _ _ _ _ _ (pv 1) (@Ya _ _ _ _ _ (@YZ _ _ _ _ _ _ _ Z0R (by rfl) (by rfl) (by decide)) Yb (by rfl)) (by rfl)) (by rfl)) (by rfl)) (by omega) (by rfl) (by rfl) (by decide) (by rfl) (by rfl)) Yb (by rfl)) (by decide +kernel) (by rfl) (by rfl) (by decide) (by decide) (by rfl) (by rfl)))) Yk) (@Ye _ _ _ _ _ (@Yr _ _ _ _ _ _ _ _ (@Ys _ _ _ _ _ _ _ _ YS (pv 2) Yy (Yp _)) (@Yf _ _ _ (@Yj _ _ _ _ (@V1 _ _ _ _ (@YR _ _ _ _ _ _ _ _ _ _ _ _ _ Z7 hr YW (@Ya _ _ _ _ _ (pv 2) (@Ya _ _ _ _ _ (pv 3) (@Ya _ _ _ _ _ (pv 1) (@Ya _ _ _ _ _ (@YZ _ _ _ _ _ _ _ Za (by rfl) (by rfl) (by decide)) Yb (by rfl)) (by rfl)) (by rfl)) (by rfl)) (by omega) (by rfl) (by rfl) (by decide) (by rfl) (by rfl))))) Yk) (@Ye _ _ _ _ _ (@Yr _ _ _ _ _ _ _ _ (@Ys _ _ _ _ _ _ _ _ YS (pv 2) Yy (Yp _)) (@Yf _ _ _ (@Yj _ _ _ _ (@Yei _ _ _ _ _ _ _ (g.K) (@YR _ _ _ _ _ _ _ _ _ _ _ _ _ Z7 hr YW (@Ya _ _ _ _ _ (pv 2) (@Ya _ _ _ _ _ (pv 3) (@Ya _ _ _ _ _ (pv 1) (@Ya _ _ _ _ _ (@YZ _ _ _ _ _ _ _ ZN (by rfl) (by rfl) (by decide)) Yb (by rfl)) (by rfl)) (by rfl)) (by rfl)) (by omega) (by rfl) (by rfl) (by decide) (by rfl) (by rfl)) (@pe_un _ _ _ _ _ _ YeE Yg) (by rfl)))) Yk) (@Ye _ _ _ _ _ (@Yr _ _ _ _ _ _ _ _ (@Ys _ _ _ _ _ _ _ _ YS (pv 2) Yy (Yp _)) (@Yf _ _ _ (@Yj _ _ _ _ (@YR _ _ _ _ _ _ _ _ _ _ _ _ _ F_same_told hr YW (@Ya _ _ _ _ _ (pv 3) (@Ya _ _ _ _ _ (pv 1) Yb (by rfl)) (by rfl)) (by omega) (by rfl) (by rfl) (by decide) (by rfl) (by rfl)))) Yk) (@Ye _ _ _ _ _ (@Yr _ _ _ _ _ _ _ _ (@Ys _ _ _ _ _ _ _ _ YS (pv 2) Yy (Yp _)) (@Yf _ _ _ (@Yj _ _ _ _ (@YR _ _ _ _ _ _ _ _ _ _ _ _ _ F_both_told hr YW (@Ya _ _ _ _ _ (pv 3) (@Ya _ _ _ _ _ (pv 1) Yb (by rfl)) (by rfl)) (by omega) (by rfl) (by rfl) (by decide) (by rfl) (by rfl)))) Yk) (@Ye _ _ _ _ _ (@Yr _ _ _ _ _ _ _ _ (@Ys _ _ _ _ _ _ _ _ YS (pv 2) Yy (Yp _)) (@Yf _ _ _ (@Yj _ _ _ _ (@YR _ _ _ _ _ _ _ _ _ _ _ _ _ F_when_told hr YW (@Ya _ _ _ _ _ (pv 3) (@Ya _ _ _ _ _ (pv 1) Yb (by rfl)) (by rfl)) (by omega) (by rfl) (by rfl) (by decide) (by rfl) (by rfl)))) Yk) (@Ye _ _ _ _ _ (@Yr _ _ _ _ _ _ _ _ (@Ys _ _ _ _ _ _ _ _ YS (pv 2) Yy (Yp _)) (@Yf _ _ _ (@Yj _ _ _ _ (@YR _ _ _ _ _ _ _ _ _ _ _ _ _ F_each_told hr YW (@Ya _ _ _ _ _ (pv 3) (@Ya _ _ _ _ _ (pv 1) Yb (by rfl)) (by rfl)) (by omega) (by rfl) (by rfl) (by decide) (by rfl) (by rfl)))) Yk) (@Ye _ _ _ _ _ (@Yr _ _ _ _ _ _ _ _ (@Ys _ _ _ _ _ _ _ _ YS (pv 2) Yy (Yp _)) (@Yf _ _ _ (@Yj _ _ _ _ (@YR _ _ _ _ _ _ _ _ _ _ _ _ _ F_joined_told hr YW (@Ya _ _ _ _ _ (pv 3) (@Ya _ _ _ _ _ (pv 1) Yb (by rfl)) (by rfl)) (by omega) (by rfl) (by rfl) (by decide) (by rfl) (by rfl)))) Yk) (@Yf _ _ _ (@Yj _ _ _ _ (@YR _ _ _ _ _ _ _ _ _ _ _ _ _ Z1p hr YW (@Ya _ _ _ _ _ (pv 2) (@Ya _ _ _ _ _ (pv 3) (@Ya _ _ _ _ _ (pv 1) Yb (by rfl)) (by rfl)) (by rfl)) (by omega) (by rfl) (by rfl) (by decide) (by rfl) (by rfl)))))))))))))))))),?_⟩
 have hat:=hA.at'
 have hok:=hA.ok
 have hpk:=hA.pk
 cases t with
 | num i =>
  obtain ⟨a,rfl,h⟩:=hat
  walk_at "rd"
  refine ⟨_,SqT.of h,_,rfl,?_⟩
  walk_at "rd"
  exact ⟨_,SqT.of h,_,rfl,q _ _ (.refl _) hA.tb ⟨[],.int _⟩⟩
 | here =>
  obtain ⟨a,r,rfl,h⟩:=hat
  walk_at "rd"
  refine ⟨_,SqT.of h,_,rfl,?_⟩
  walk_at "rd"
  refine ⟨_,SqT.of h,_,rfl,?_⟩
  repeat refine Yq (by decide) ?_
  exact q _ _ (.refl _) hA.tb hA.dv
 | part t k =>
  obtain ⟨a,p,u,rfl,h,hp,ht⟩:=hat
  walk_at "rd"
  refine ⟨_,SqT.of h,_,rfl,?_⟩
  walk_at "rd"
  refine ⟨_,SqT.of h,_,rfl,?_⟩
  repeat refine Yq (by decide) ?_
  exact ⟨p,u,th,k,t,d,rfl,hp,hA.sub ht hok.2 (Nat.le_refl _),q⟩
 | count t =>
  obtain ⟨a,u,rfl,h,ht⟩:=hat
  walk_at "rd"
  refine ⟨_,SqT.of h,_,rfl,?_⟩
  walk_at "rd"
  refine ⟨_,SqT.of h,_,rfl,?_⟩
  repeat refine Yq (by decide) ?_
  walk_at "rd"
  refine fun f1 hf1=>⟨_,u,th,f1,t,d,Vx,rfl,hA.sub ht hok (Nat.le_refl _),fun e _=>XH hf1,Xi q (fun m e=>by simp only [tell,e];rfl) (fun x e c=>?_) fun x ex c r H1 k1 b1 hv=>?_⟩
  ·have:Uo x=none:=by simpa [Vx] using c
   simp only [tell,e,Xf this];rfl
  ·obtain ⟨n,hn⟩:=Option.isSome_iff_exists.mp (show (Uo x).isSome=true from c)
   have e2:tell (.count t) d = .ok (.int n):=by simp only [tell,ex,Xy hn];rfl
   rw [e2] at q
   cases x with
   | list ds =>
    obtain ⟨a1,vs,rfl,h1,l1,d1⟩:=hv.ilst
    cases hn
    exact .inl ⟨a1,rfl,vs,.inl (SqL.of h1),by rw [d1.length];exact q _ _ k1 b1 ⟨[],.int _⟩⟩
   | tuple ds =>
    obtain ⟨a1,vs,rfl,h1,l1,d1⟩:=hv.itup
    cases hn
    exact .inl ⟨a1,rfl,vs,.inr (SqT.of h1),by rw [d1.length];exact q _ _ k1 b1 ⟨[],.int _⟩⟩
   | str z =>
    obtain ⟨rfl,_⟩:=hv.istr
    cases hn
    exact .inr ⟨z,rfl,Ybj hpk hok ex,q _ _ k1 b1 ⟨[],.int _⟩⟩
   | _=>cases hn
 | sum t =>
  obtain ⟨a,u,rfl,h,ht⟩:=hat
  walk_at "rd"
  refine ⟨_,SqT.of h,_,rfl,?_⟩
  walk_at "rd"
  refine ⟨_,SqT.of h,_,rfl,?_⟩
  repeat refine Yq (by decide) ?_
  walk_at "rd"
  refine fun f1 hf1=>⟨_,u,th,f1,t,d,UJ,rfl,hA.sub ht hok (Nat.le_refl _),fun e _=>XH hf1,Xi q (fun m e=>by simp only [tell,e];rfl) (fun x e c=>?_) fun x ex c r H1 k1 b1 hv=>?_⟩
  ·have:(fun x=>(Yn x).bind Xe) x=none:=by simpa [UJ] using c
   simp only [tell,e];rw [Xf this];rfl
  ·obtain ⟨s,hs⟩:=Option.isSome_iff_exists.mp (show ((Yn x).bind Xe).isSome=true from c)
   have e2:tell (.sum t) d = .ok (.int s):=by simp only [tell,ex];rw [Xy (f:=fun x=>(Yn x).bind Xe) hs];rfl
   rw [e2] at q
   cases x with
   | list ds =>
    obtain ⟨a1,vs,rfl,h1,l1,d1⟩:=hv.ilst
    obtain ⟨ns,rfl,hn⟩:=UL d1 hs
    exact .inl ⟨a1,rfl,ns,SqL.of h1,q _ _ k1 b1 (by rw [hn];exact ⟨[],.int _⟩)⟩
   | tuple ds =>
    obtain ⟨a1,vs,rfl,h1,l1,d1⟩:=hv.itup
    obtain ⟨ns,rfl,hn⟩:=UL d1 hs
    exact .inr ⟨a1,rfl,ns,SqT.of h1,q _ _ k1 b1 (by rw [hn];exact ⟨[],.int _⟩)⟩
   | _=>cases hs
 | not t =>
  obtain ⟨a,u,rfl,h,ht⟩:=hat
  walk_at "rd"
  refine ⟨_,SqT.of h,_,rfl,?_⟩
  walk_at "rd"
  refine ⟨_,SqT.of h,_,rfl,?_⟩
  repeat refine Yq (by decide) ?_
  walk_at "rd"
  refine fun f1 hf1=>⟨_,u,th,f1,t,d,isB,rfl,hA.sub ht hok (Nat.le_refl _),fun e _=>Xq hf1,Xi q (fun m e=>by simp only [tell,e];rfl) (fun x e c=>by simp only [tell,e,Xf (X0 c)];rfl) fun x ex c r H1 k1 b1 hv=>?_⟩
  obtain ⟨i,rfl⟩:=Wh c
  cases hv.ibl
  simp only [tell,ex,Xy (show Xh (.bool i)=some i from rfl)] at q
  exact ⟨i,rfl,q _ _ k1 b1 ⟨[],.bl _⟩⟩
 | turned t =>
  obtain ⟨a,u,rfl,h,ht⟩:=hat
  walk_at "rd"
  refine ⟨_,SqT.of h,_,rfl,?_⟩
  walk_at "rd"
  refine ⟨_,SqT.of h,_,rfl,?_⟩
  repeat refine Yq (by decide) ?_
  unfold YdP
  walk_at "rd"
  refine fun f1 hf1=>⟨_,u,th,f1,t,d,Vx,rfl,hA.sub ht hok (Nat.le_refl _),fun e _=>XH hf1,Xi q (fun m e=>by simp only [tell,e];rfl) (fun x e c=>?_) fun x ex c r H1 k1 b1 hv=>?_⟩
  ·have:Ycy x=none:=by cases x<;>first | rfl | (simp [Vx,Uo] at c)
   simp only [tell,e,Xf this]
  ·simp only [tell,ex] at q
   cases x with
   | list ds =>
    obtain ⟨a1,vs,rfl,h1,l1,d1⟩:=hv.ilst
    refine .inl ⟨a1,rfl,vs,SqL.of h1,fun p hp=>?_⟩
    have s3:=Yd.upd_new hp (HO.lst vs.reverse)
    exact q _ _ (k1.trans (Y6 s3)) (b1.keep s3) (.lst Yc (by rw [List.length_reverse];exact l1) (d1.reverse.keep s3))
   | tuple ds =>
    obtain ⟨a1,vs,rfl,h1,l1,d1⟩:=hv.itup
    refine .inr (.inl ⟨a1,rfl,vs,SqT.of h1,fun p hp=>?_⟩)
    have s3:=Yd.upd_new hp (HO.tup vs.reverse)
    exact q _ _ (k1.trans (Y6 s3)) (b1.keep s3) (.tup Yc (by rw [List.length_reverse];exact l1) (d1.reverse.keep s3))
   | str z =>
    obtain ⟨rfl,o1⟩:=hv.istr
    exact .inr (.inr ⟨z,rfl,Ybj hpk hok ex,q _ _ k1 b1 ⟨[],.str _ (YcE o1)⟩⟩)
   | _=>cases c
 | same a b =>
  obtain ⟨c,p,u,w,rfl,h,hp,h1,h2⟩:=hat
  walk_at "rd"
  refine ⟨_,SqT.of h,_,rfl,?_⟩
  walk_at "rd"
  refine ⟨_,SqT.of h,_,rfl,?_⟩
  repeat refine Yq (by decide) ?_
  exact ⟨p,u,w,th,a,b,d,rfl,hp,hA.sub h1 hok.1 (by simp only [Tm.dep];omega),hA.sub h2 hok.2 (by simp only [Tm.dep];omega),q⟩
 | both a b =>
  obtain ⟨c,p,u,w,rfl,h,hp,h1,h2⟩:=hat
  walk_at "rd"
  refine ⟨_,SqT.of h,_,rfl,?_⟩
  walk_at "rd"
  refine ⟨_,SqT.of h,_,rfl,?_⟩
  repeat refine Yq (by decide) ?_
  exact ⟨p,u,w,th,a,b,d,rfl,hp,hA.sub h1 hok.1 (by simp only [Tm.dep];omega),hA.sub h2 hok.2 (by simp only [Tm.dep];omega),q⟩
 | when a b c =>
  obtain ⟨z,p,u,w,y,rfl,h,hp,h1,h2,h3⟩:=hat
  walk_at "rd"
  refine ⟨_,SqT.of h,_,rfl,?_⟩
  walk_at "rd"
  refine ⟨_,SqT.of h,_,rfl,?_⟩
  repeat refine Yq (by decide) ?_
  exact ⟨p,u,w,y,th,a,b,c,d,rfl,hp,hA.sub h1 hok.1 (by simp only [Tm.dep];omega),hA.sub h2 hok.2.1 (by simp only [Tm.dep];omega),hA.sub h3 hok.2.2 (by simp only [Tm.dep];omega),q⟩
 | each a b =>
  obtain ⟨c,p,u,w,rfl,h,hp,h1,h2⟩:=hat
  walk_at "rd"
  refine ⟨_,SqT.of h,_,rfl,?_⟩
  walk_at "rd"
  refine ⟨_,SqT.of h,_,rfl,?_⟩
  repeat refine Yq (by decide) ?_
  exact ⟨p,u,w,th,a,b,d,rfl,hp,hA.sub h1 hok.1 (by simp only [Tm.dep];omega),hA.sub h2 hok.2 (by simp only [Tm.dep];omega),q⟩
 | joined a b =>
  obtain ⟨c,p,u,w,rfl,h,hp,h1,h2⟩:=hat
  walk_at "rd"
  refine ⟨_,SqT.of h,_,rfl,?_⟩
  walk_at "rd"
  refine ⟨_,SqT.of h,_,rfl,?_⟩
  repeat refine Yq (by decide) ?_
  exact ⟨p,u,w,th,a,b,d,rfl,hp,hA.sub h1 hok.1 (by simp only [Tm.dep];omega),hA.sub h2 hok.2 (by simp only [Tm.dep];omega),hpk,q⟩
 | plus a b =>
  obtain ⟨c,p,u,w,rfl,h,hp,h1,h2⟩:=hat
  walk_at "rd"
  refine ⟨_,SqT.of h,_,rfl,?_⟩
  walk_at "rd"
  refine ⟨_,SqT.of h,_,rfl,?_⟩
  repeat refine Yq (by decide) ?_
  exact ⟨_,_,p,u,w,th,a,b,d,rfl,hp,.inl ⟨rfl,rfl⟩,hA.sub h1 hok.1 (by simp only [Tm.dep];omega),hA.sub h2 hok.2 (by simp only [Tm.dep];omega),q⟩
 | times a b =>
  obtain ⟨c,p,u,w,rfl,h,hp,h1,h2⟩:=hat
  walk_at "rd"
  refine ⟨_,SqT.of h,_,rfl,?_⟩
  walk_at "rd"
  refine ⟨_,SqT.of h,_,rfl,?_⟩
  repeat refine Yq (by decide) ?_
  exact ⟨_,_,p,u,w,th,a,b,d,rfl,hp,.inr (.inl ⟨rfl,rfl⟩),hA.sub h1 hok.1 (by simp only [Tm.dep];omega),hA.sub h2 hok.2 (by simp only [Tm.dep];omega),q⟩
 | less a b =>
  obtain ⟨c,p,u,w,rfl,h,hp,h1,h2⟩:=hat
  walk_at "rd"
  refine ⟨_,SqT.of h,_,rfl,?_⟩
  walk_at "rd"
  refine ⟨_,SqT.of h,_,rfl,?_⟩
  repeat refine Yq (by decide) ?_
  exact ⟨_,_,p,u,w,th,a,b,d,rfl,hp,.inr (.inr ⟨rfl,rfl⟩),hA.sub h1 hok.1 (by simp only [Tm.dep];omega),hA.sub h2 hok.2 (by simp only [Tm.dep];omega),q⟩
noncomputable def says (t:Tm) (d:PyData):Bool:=@decide (tell t d = .ok (.bool true)) (Classical.propDecidable _)
theorem W0 {t:Tm} {d e:PyData} (h:tell t d = .ok e) (b:Bool) (hb:b=true↔e = .bool true):says t d=b:=by
 unfold says
 rw [h]
 cases b with
 | true=>rw [hb.mp rfl];exact @decide_eq_true _ (Classical.propDecidable _) rfl
 | false=>exact @decide_eq_false _ (Classical.propDecidable _) fun z=>by cases z;exact absurd (hb.mpr rfl) (by decide)
theorem XB {t:Tm} {d:PyData} {m:Str} (h:tell t d = .error m):says t d=false:=by
 unfold says
 rw [h]
 exact @decide_eq_false _ (Classical.propDecidable _) fun z=>by cases z
def W1 (P C:Addr):Sp:=fun vs H Q _=>∃ v th t d,vs=[v,th]∧Ask P H 4 t v d th∧∀ H',Kt H H'→Tb P H'→Q (.bl (says t d)) H'
theorem Yap {k:Nat} {Z0 Z1:Addr} {c_part_told P_part_told:Addr} {c_judge_of P_judge_of:Addr} (R:g.Raw "says_true" "says_true" Z0u ["term","thing"]) (F_told:g.FnX k "told" ["term","thing"] (Wy P_part_told Z1 4)) (x_Astray:g.mg "Astray"=some (.ref Z1)) (m_Astray_Astray:PySem.W.exmOne g.K (.ref Z1) (.ref Z1)=some true):g.Fn (k+1) "says_true" ["term","thing"] (W1 P_part_told Z1):=by
 refine R.fn Q9 (fun vs H Q E h=>by obtain ⟨v,th,t,d,rfl,hA,q⟩:=h;rfl) fun f_ cdv A outer s H vs Q E hr h=>?_
 obtain ⟨v,th,t,d,rfl,hA,q⟩:=h
 refine ⟨_,(@Yf _ _ _ (@Yej _ _ _ _ _ _ _ _ _ _ _ _ _ _ _ _ _ _ _ _ _ _ _ _ F_told hr (@Ya _ _ _ _ _ (pv 0) (@Ya _ _ _ _ _ (pv 1) Yb (by rfl)) (by rfl)) x_Astray (fun _=>(@Yf _ _ _ (@Yj _ _ _ _ Y4))) (by omega) (by rfl) (by rfl) (by rfl) (by rfl) (by rfl) (by decide) (by decide) (by rfl) (by rfl) (by rfl))),?_⟩
 walk_at "rd"
 unfold YdQ
 walk_at "rd"
 refine ⟨v,th,t,d,rfl,hA,?_⟩
 cases e:tell t d with
 | error mk =>
  intro H1 dd k1 b1 hd
  refine ⟨m_Astray_Astray,?_⟩
  have s1:=Yd.upd_new hd (Wr dd [("mark",.str mk)])
  have:=q _ (k1.trans (Y6 s1)) (b1.keep s1)
  rw [XB e] at this
  exact this
 | ok x =>
  intro r H1 k1 b1 hv
  have:=q _ k1 b1
  rw [W0 e (decide (r = .bl true)) ?_] at this
  ·exact this
  ·rw [decide_eq_true_eq]
   constructor
   ·rintro rfl
    obtain ⟨L,h⟩:=hv
    cases h
    rfl
   ·rintro rfl
    exact hv.ibl
def Yeq (P C:Addr) (fv vs:List V) (H:Hp) (Q:VK):Prop:=∃ u th t d,fv=[u]∧vs=[th]∧Ask P H 4 t u d th∧∀ H',Kt H H'→Tb P H'→Q (.bl (says t d)) H'
theorem Z1j {k:Nat} {Z0 Z1:Addr} {f_ c_:Addr} {pm ctv:Value} {l:Ym} (Z09:g.Fn k "says_true" ["term","thing"] (W1 P_part_told Z1)) (hl:l.map (·.1)=(["term"]:List Str)) (hnd:l.as.Nodup):FnOk g.P g.w g.K g.mg g.base CX0 (k+1) f_ (Zn l.cl c_ pm ctv) ["thing"] (fun vs H Q _=>VT H f_ c_ (Zn l.cl c_ pm ctv) Zc l∧(Yeq P_part_told Z1) l.vs vs (off H l.as) fun v H'=>(∀ c∈l.as,H' c=none)→Q v (on H' H l.as)):=by
 refine YeW (N:=["thing","term"]) (by rw [hl];exact Z1i) hnd (fun vs H Q h=>by obtain ⟨u,th,t,d,hfv,rfl,hA,q⟩:=h;rfl) fun A outer s H vs Q hr h=>?_
 obtain ⟨u,th,t,d,hfv,rfl,hA,q⟩:=h
 refine ⟨_,(@Yo _ _ _ _ _ _ _ _ _ _ _ _ Z09 hr (@Ya _ _ _ _ _ (pv 1) (@Ya _ _ _ _ _ (pv 0) Yb (by rfl)) (by rfl)) (by omega) (by rfl) (by rfl) (by decide) (by rfl) (by rfl)),?_⟩
 rw [hfv]
 show (_:TE) [some th,some u] H _
 walk_at "rd"
 exact ⟨u,th,t,d,rfl,hA,q⟩
theorem Yer {c:Addr} {q:Str} {v:V} (h:CdO c q=Wl c v):False:=by
 have e:=HO.ext.inj h
 let ob:Obj:={ cls := .type "code",data := .fields #[.none,.str q 0] }
 let h0:Heap:={ objs:=Array.replicate (c+1) ob }
 have g:h0.get? c=some ob:=by
  show (match (Array.replicate (c+1) ob)[c]? with | some ⟨_,_,.freed,_⟩=>none | x=>x)=some ob
  rw [Array.getElem?_replicate,if_pos (by omega)]
 have z:(fun h:Heap=>h.CodeRec (.ref c) q) h0:=⟨c,ob,_,0,rfl,g,rfl,rfl⟩
 rw [e] at z
 obtain ⟨u,_,o,g2,d⟩:=z
 rw [g] at g2
 cases g2
 cases d
theorem Ye3 {P:Addr} {H:Hp} {x:Str} {a:Addr} {u:V} (h:Tb P H) (hin:Ym.In [(x,a,u)] H):Tb P (off H (Ym.as [(x,a,u)])):=by
 have ha:H a=some (Wl a u):=hin _ (.head _)
 rcases h with h | ⟨c,h,h1⟩
 ·exact .inl (Wx hin h fun φ z=>by cases z)
 ·refine .inr ⟨c,Wx hin h (fun φ z=>by cases z),?_⟩
  rw [YD fun hm=>?_]
  ·exact h1
  ·have e:c=a:=by simpa [Ym.as] using hm
   subst e
   rw [h1] at ha
   exact Yer (Option.some.inj ha)
theorem kt_on {l:Ym} {H H':Hp} (k:Kt (off H l.as) H'):Kt H (on H' H l.as):=fun a o n e=>by
 by_cases hm:a∈l.as
 ·rw [Ui hm];exact e
 ·rw [Xa hm];exact k a o n (by rw [YD hm];exact e)
theorem tb_on {P:Addr} {l:Ym} {H H':Hp} (b:Tb P H') (hc:∀ c∈l.as,H' c=none):Tb P (on H' H l.as):=by
 have out:∀ {a:Addr} {o:HO},H' a=some o→on H' H l.as a=some o:=fun {a o} e=>by
  rw [Xa fun hm=>?_]
  ·exact e
  ·rw [hc a hm] at e;cases e
 rcases b with h | ⟨c,h,h1⟩
 ·exact .inl (out h)
 ·exact .inr ⟨c,out h,out h1⟩
def Xl (g:Gx) (P:Addr) (H:Hp) (f:Addr) (t:Tm):Prop:=∃ fd sp,FnOk g.P g.w g.K g.mg g.base CX0 170 f fd ["thing"] sp∧(∀ us:List Value,us.length=(["thing"]:List Str).length→bindArgs fd ⟨us,[]⟩=pure ((["thing"]:List Str).zip us))∧H f=some (FnO f fd) ∧
 ∀ (H1:Hp) (th:V) (d:PyData) (Q:VK),Kt H H1→Tb P H1→DV H1 th d→(∃ k,Pk k d∧k+t.dep≤7)→d.depth≤60→(∀ H',Kt H1 H'→Tb P H'→Q (.bl (says t d)) H')→H1 f=some (FnO f fd)∧sp [th] H1 Q E0
theorem Xl.kt {g:Gx} {P:Addr} {H H':Hp} {f:Addr} {t:Tm} (h:Xl g P H f t) (k:Kt H H'):Xl g P H' f t:=by
 obtain ⟨fd,sp,h1,h2,h3,h4⟩:=h
 exact ⟨fd,sp,h1,h2,k _ _ (fun ps z=>by cases z) h3,fun H1 th d Q k1=>h4 H1 th d Q (k.trans k1)⟩
theorem Ydn {g:Gx} {P C:Addr} {H:Hp} {f c x:Addr} {u:V} {t:Tm} {pm ctv:Value} (F0:g.Fn 169 "says_true" ["term","thing"] (W1 P C)) (h:VT H f c (Zn [("term",x)] c pm ctv) Zc [("term",x,u)]) (ht:Yw H t u) (ho:t.ok) (hd:t.dep<4):Xl g P H f t:=by
 have F:=Z1j (g:=g) (k:=169) (Z0:=0) (Z1:=C) (f_:=f) (c_:=c) (pm:=pm) (ctv:=ctv) (l:=[("term",x,u)]) F0 rfl (by simp [Ym.as])
 refine ⟨_,_,F,fun us hl=>?_,h.1,fun H1 th d Q k1 b1 hv hp hdd q=>?_⟩
 ·match us,hl with
  | [_],_=>rfl
 ·have nt:∀ {φ:Heap→Prop} (ps:Array Value),HO.ext φ ≠ .tbl ps:=fun ps z=>by cases z
  have hin:Ym.In [("term",x,u)] H1:=fun p hp=>k1 _ _ (fun ps z=>by cases z) (h.2.2 p hp)
  have hcl:VT H1 f c (Zn [("term",x)] c pm ctv) Zc [("term",x,u)]:=⟨k1 _ _ (fun ps z=>by cases z) h.1,k1 _ _ (fun ps z=>by cases z) h.2.1,hin⟩
  have tp:Tps H1 (off H1 (Ym.as [("term",x,u)])):=fun a vs e=>UD hin e
  obtain ⟨L,hv⟩:=hv
  refine ⟨hcl.1,hcl,u,th,t,d,rfl,rfl,⟨(ht.keep k1).tps tp,ho,hd,⟨L,hv.keepL tp fun a _ vs e=>Wx hin e fun φ z=>by cases z⟩,hp,hdd,Ye3 b1 hin⟩,fun H' k' b' hc=>q _ (kt_on k') (tb_on b' hc)⟩
def Ve (H:Hp) (P:Addr):Prop:=H P=some (.tbl #[])∨∃ c,H P=some (.tbl #[rawInt 110,rawInt 11,.ref c])∧H c=some (CdO c Zc)
def Z19 (g:Gx) (P PJ C:Addr):Sp:=fun vs H Q _=>∃ (u:V) (t:Tm),vs=[u]∧Yw H t u∧t.ok∧t.dep<4∧Ve H PJ∧∀ f H',Xl g P H' f t→Ve H' PJ→(∀ a o,a≠PJ→H a=some o→H' a=some o)→Q (.ref f) H'
theorem U8 {g:Gx} {H H3:Hp} {P PJ C f cf x:Addr} {u:V} {t:Tm} {ps:Array Value} {pm ctv:Value} (F0:g.Fn 169 "says_true" ["term","thing"] (W1 P C)) (ht:Yw H t u) (ho:t.ok) (hd:t.dep<4) (hT:H PJ=some (.tbl ps)) (kf:H3 f=some (FnO f (Zn [("term",x)] cf pm ctv))) (kcf:H3 cf=some (CdO cf Zc))
  (kT:H3 PJ=some (.tbl #[rawInt 110,rawInt 11,.ref cf])) (keep:∀ a o,a≠PJ→H a=some o→H3 a=some o) (hc:∀ c∈Ym.as [("term",x,u)],H3 c=none) :
  Xl g P (lay H3 [("term",x,u)]) f t∧Ve (lay H3 [("term",x,u)]) PJ∧∀ a o,a≠PJ→H a=some o→lay H3 [("term",x,u)] a=some o:=by
 have hin:=Ycq (H:=H3) (l:=[("term",x,u)]) (by simp [Ym.as])
 have out:∀ {a:Addr} {o:HO},H3 a=some o→lay H3 [("term",x,u)] a=some o:=fun {a o} e=>by
  rw [WW fun hm=>?_]
  ·exact e
  ·rw [hc a hm] at e;cases e
 have kk:∀ a o,a≠PJ→H a=some o→lay H3 [("term",x,u)] a=some o:=fun a o h1 h2=>out (keep a o h1 h2)
 exact ⟨Ydn F0 ⟨out kf,out kcf,hin⟩ (ht.tps fun a vs e=>kk _ _ (Wj e hT (by intro z;cases z)) e) ho hd,.inr ⟨cf,out kT,out kcf⟩,kk⟩
theorem YaI {k:Nat} {Z0 Z1:Addr} {c_part_told P_part_told:Addr} {c_judge_of P_judge_of:Addr} (R:g.RawT "judge_of" "judge_of" Z0d ["term"] c_judge_of) (bm:Bm g.mg g.base) (Cd_judge_of:PySem.W.CodeHd g.base c_judge_of P_judge_of) (Z09:g.Fn 169 "says_true" ["term","thing"] (W1 P_part_told Z1)):g.Fn (k+1) "judge_of" ["term"] (Z19 g P_part_told P_judge_of Z1):=by
 refine R.fnC YaE (fun vs H Q E h=>by obtain ⟨u,t,rfl,hT,ho,hd,ht,q⟩:=h;rfl) fun f_ A outer s H vs Q E hr h=>?_
 obtain ⟨u,t,rfl,hT,ho,hd,ht,q⟩:=h
 refine ⟨_,(@YeV _ _ _ _ (@QT _ _ _ _ _ _ _ _ _ bm Cd_judge_of rfl rfl (Eq.trans rfl Up) rfl)),?_⟩
 rcases ht with ht | ⟨c1,ht,hc1⟩
 ·refine ⟨_,ht,trivial,.inl ⟨rfl,fun f cf ff g1 g2 g3 ⟨pm,ctv,e⟩=>⟨[("term",s.heap.objs.size+1,u)],⟨by simp [Ym.as],fun z hz=>?_⟩,fun hc=>?_⟩⟩⟩
  ·cases List.mem_singleton.mp hz
   exact ⟨0,rfl,rfl,rfl,rfl⟩
  ·subst e
   have fP:=Yu ht g1
   have cP:=Yu ht g2
   obtain ⟨r1,r2,r3⟩:=U8 (H:=H) (f:=f) (cf:=cf) Z09 hT ho hd ht (by rw [Yc];rfl) (by rw [Yh (Ne.symm g3),Yc]) (by rw [Yh fP,Yh cP,Yc];rfl) (fun a o h1 h2=>by rw [Yh (Yu h2 g1),Yh (Yu h2 g2),Yh h1];exact h2) hc
   exact q f _ r1 r2 r3
 ·refine ⟨_,ht,trivial,.inr ⟨c1,rfl,fun f ff g1 ⟨pm,ctv,e⟩=>⟨[("term",s.heap.objs.size+1,u)],⟨by simp [Ym.as],fun z hz=>?_⟩,fun hc=>?_⟩⟩⟩
  ·cases List.mem_singleton.mp hz
   exact ⟨0,rfl,rfl,rfl,rfl⟩
  ·subst e
   obtain ⟨r1,r2,r3⟩:=U8 (H:=H) (f:=f) (cf:=c1) Z09 hT ho hd ht (by rw [Yc];rfl) (by rw [Yh (Yu hc1 g1)];exact hc1) (by rw [Yh (Yu ht g1)];exact ht) (fun a o h1 h2=>by rw [Yh (Yu h2 g1)];exact h2) hc
   exact q f _ r1 r2 r3
abbrev hd (c:Addr) (H:Hp):Hp:=off H [c]
theorem XN {c a:Addr} {H:Hp} (h:a≠c):hd c H a=H a:=YD (by simpa using h)
theorem VB {c:Addr} {H:Hp}:hd c H c=none:=X2 (by simp)
theorem Yaq {c a:Addr} {H:Hp} {o:HO} (h:hd c H a=some o):H a=some o∧a≠c:=by
 obtain ⟨h1,h2⟩:=WU h
 exact ⟨h1,by simpa using h2⟩
theorem UM {c:Addr} {H:Hp}:Yd (hd c H) H:=fun a o h=>(Yaq h).1
theorem Ye4 {c:Addr} {H:Hp} {o:HO}:hd c (upd H c o)=hd c H:=by
 funext a
 by_cases h:a=c
 ·subst h;rw [VB,VB]
 ·rw [XN h,XN h,Yh h]
theorem W2 {c:Addr} {H H':Hp} (s:Yd H H'):Yd (hd c H) (hd c H'):=fun a o h=>by
 obtain ⟨h1,h2⟩:=Yaq h
 rw [XN h2]
 exact s _ _ h1
theorem Ye5 {c p:Addr} {H:Hp} {o o':HO} (h:H p=none) (hc:H c=some o'):hd c (upd H p o)=upd (hd c H) p o∧hd c H p=none:=by
 have n:p≠c:=fun z=>by rw [z,hc] at h;cases h
 refine ⟨?_,by rw [XN n];exact h⟩
 funext a
 by_cases ha:a=c
 ·subst ha;rw [VB,Yh (Ne.symm n),VB]
 ·rw [XN ha]
  by_cases hp:a=p
  ·subst hp;rw [Yc,Yc]
  ·rw [Yh hp,Yh hp,XN ha]
def Cs (H:Hp) (c:Addr):Prop:=∃ ms:List Int,H c=some (.lst (ms.map V.int))∧ms.length≤63
theorem Cs.keep {H H':Hp} {c:Addr} (h:Cs H c) (s:Yd H H'):Cs H' c:=by
 obtain ⟨ms,h1,h2⟩:=h
 exact ⟨ms,s _ _ h1,h2⟩
def U9:Sp:=fun vs H Q _=>∃ (c:Addr) (mn:Int),vs=[.ref c,.int mn]∧Cs H c∧0<mn∧∀ (z:Nat) H',Yd (hd c H) (hd c H')→Cs H' c→(z:Int)<mn→Q (.int z) H'
theorem YbX (ys:List Int):PyData.eqv (.list (ys.map .int)) (.list [])=ys.isEmpty:=by rw [PyData.eqv];cases ys<;>simp [PyData.eqvAll]
theorem YaJ {Z0 Z1:Addr} {c_part_told P_part_told:Addr} {c_judge_of P_judge_of:Addr} (R:g.Raw "_law_take" "_law_take" Z0G ["_law_cells","_law_many"]):g.Fn (1) "_law_take" ["_law_cells","_law_many"] (U9):=by
 refine R.fn YaF (fun vs H Q E h=>by obtain ⟨c,mn,rfl,⟨ys,hcl,hyl⟩,hmn,q⟩:=h;rfl) fun f_ cdv A outer s H vs Q E hr h=>?_
 obtain ⟨c,mn,rfl,⟨ys,hcl,hyl⟩,hmn,q⟩:=h
 refine ⟨_,(@Ye _ _ _ _ _ (@Yr _ _ _ _ _ _ _ _ (@Ys _ _ _ _ _ _ _ _ (Vm hr.units) (pv 0) (@Xv _ _ _ _ Yb) (Yp _)) (@Yf _ _ _ (@Yj _ _ _ _ Yg)) Yk) (@Yf _ _ _ (@Yj _ _ _ _ (@YB _ _ _ _ _ _ _ _ Y9 (@YdI _ _ _ _ _ _ _ _ _ _ _ _ PySem.F.plainAttrs_list PySem.F.slot_list_pop PySem.F.type_list_pop YcZ (pv 0) (@Ya _ _ _ _ _ Yg Yb (by rfl)) (by rfl) (by rfl) (by rfl) (by rfl) (by rfl)) (pv 1))))),?_⟩
 walk_at "rd"
 refine ⟨few (by decide),fun p hp=>?_⟩
 have s1:=Yd.upd_new hp (.lst [])
 refine ⟨.list (ys.map .int),.lst (SqL.of (s1 _ _ hcl)) (Dens.ints ys),.list [],.lst (SqL.of Yc) .nil,?_,?_⟩
 ·rw [PyData.depth];have:=Ue ys;omega
 rw [YbX]
 refine YV (fun c=>q 0 _ (W2 s1) ⟨ys,s1 _ _ hcl,hyl⟩ hmn) fun c'=>?_
 match ys,hcl,hyl,c' with
 | y::ys,hcl,hyl,_ =>
  have hc1:=s1 _ _ hcl
  refine ⟨.inl ⟨rfl,_,SqL.of hc1⟩,c,_,0,0,.int y,rfl,rfl,hc1,by decide,by decide,?_,rfl,y,rfl,hmn,?_⟩
  ·rw [List.length_map,List.length_cons]
   simp [seqIndex?]
  obtain ⟨z,hz,hz2⟩:=WY y hmn
  rw [hz]
  exact q z _ (by rw [Ye4];exact W2 s1) ⟨ys,Yc,by simp at hyl;omega⟩ hz2
structure I45 (i:Int):Prop where
 h:i.natAbs<10^45
mutual
def Sml:PyData→Prop
 | .list xs=>UN xs
 | .tuple xs=>UN xs
 | .str x=>x.length≤5
 | .int i=>I45 i
 | .none=>True
 | .bool _=>True
 | .dict _=>False
def UN:List PyData→Prop
 | []=>True
 | d::ds=>Sml d∧UN ds
end
theorem UO:∀ {ds:List PyData},(∀ d∈ds,Sml d)→UN ds
 | [],_=>trivial
 | d::ds,h=>⟨h d (.head _),UO fun e he=>h e (.tail _ he)⟩
theorem Yar {d:PyData}:∀ {ds:List PyData},UN ds→d∈ds→Sml d
 | e::ds,h,hd=>by
  rcases List.mem_cons.mp hd with rfl | hd
  ·exact h.1
  ·exact Yar h.2 hd
theorem Ybk {i:Int} (h:i.natAbs<10^45):Sml (.int i):=⟨h⟩
theorem Ydo (b:Bool):Sml (.bool b):=trivial
theorem Ydp:Sml .none:=trivial
theorem Yes {x:Str} (hl:x.length≤5) (hc:∀ c∈x.cps.toList,c<1000):Sml (.str x):=hl
theorem Ydq {ds:List PyData} (h:∀ d∈ds,Sml d):Sml (.list ds)∧Sml (.tuple ds):=⟨UO h,UO h⟩
def Z0K (m:Nat):Sp:=fun vs H Q _=>∃ (c:Addr) (n:Nat),vs=[.ref c,.int n]∧n<m∧Cs H c∧∀ v d L H',Yd (hd c H) (hd c H')→Cs H' c→OwD (hd c H) (hd c H') v d L→L2.hb d→d.depth≤n→Sml d→Q v H'
theorem Ydr {vs:List V} {H:Hp} {Q:VK} {E:XK} (h:Z0K 0 vs H Q E):False:=by
 obtain ⟨c,n,_,h,_⟩:=h
 omega
theorem YcH {H H':Hp} {i:Int}:OwD H H' (.int i) (.int i) []:=⟨.int i,.nil,fun a h=>by cases h⟩
theorem ow_bl {H H':Hp} {i:Bool}:OwD H H' (.bl i) (.bool i) []:=⟨.bl i,.nil,fun a h=>by cases h⟩
theorem Ye6 {H H':Hp}:OwD H H' .non .none []:=⟨.non,.nil,fun a h=>by cases h⟩
theorem Ye7 {H H':Hp} {x:Str} (h:PyData.strOk x=true):OwD H H' (.str x) (.str x) []:=⟨.str x h,.nil,fun a h=>by cases h⟩
theorem VY {i:Int} (h:i.natAbs<10^45):IB 0 i:=by
 refine ⟨Nat.lt_trans h ?_⟩
 have e2:2^(200*2^0)=(1606938044258990275541962092341162602522202993782792835301376:Nat):=by decide +kernel
 rw [e2]
 decide +kernel
def abA (i:Int):Nat:=(atI ("abA9 ":Str).cps.toList (i%5)).getD 0
theorem Yas (i:Int):atI (Str.ofString "abA9 ").cps.toList (i%5)=some (abA i)∧abA i<1000:=by
 unfold abA
 have h:∀ n:Nat,n<5→∃ c,atI (Str.ofString "abA9 ").cps.toList (n:Int)=some c∧c<1000:=by
  intro n hn
  match n,hn with
  | 0,_=>exact ⟨_,rfl,by decide⟩
  | 1,_=>exact ⟨_,rfl,by decide⟩
  | 2,_=>exact ⟨_,rfl,by decide⟩
  | 3,_=>exact ⟨_,rfl,by decide⟩
  | 4,_=>exact ⟨_,rfl,by decide⟩
 obtain ⟨c,h1,h2⟩:=h (i%5).toNat (by omega)
 rw [show (((i%5).toNat:Nat):Int)=i%5 by omega] at h1
 rw [h1]
 exact ⟨rfl,h2⟩
theorem Yds {l:List Nat} (h:∀ c∈l,c<1000):PyData.strOk (S l)=true:=by
 simp only [PyData.strOk,S,Array.all_eq_true',decide_eq_true_eq]
 intro x hx
 have:=h x (by simpa using hx)
 omega
theorem Qa:∀ cs:List Nat,Qu [] (cs.map fun c=>[c])=cs
 | []=>rfl
 | [x]=>rfl
 | x::y::r=>by
  have:=Qa (y::r)
  show [x]++[]++Qu [] ((y::r).map fun c=>[c])=_
  rw [this];rfl
theorem YbY (cs:List Nat):Txt.join ("":Str) (cs.map fun c=>S [c])=S cs:=by
 have:=YeL [] (cs.map fun c=>[c])
 rw [List.map_map,Qa] at this
 exact this
theorem Qb:∀ cs:List Nat,((cs.map fun c=>S [c]).map (·.length)).sum=cs.length
 | []=>rfl
 | c::cs=>by rw [List.map_cons,List.map_cons,List.sum_cons,Qb cs];show 1+cs.length=_;rw [List.length_cons];omega
theorem YcI {c p:Addr} {H:Hp} {o:HO} (n:p≠c):hd c (upd H p o)=upd (hd c H) p o:=by
 funext a
 by_cases ha:a=c
 ·subst ha;rw [VB,Yh (Ne.symm n),VB]
 ·rw [XN ha]
  by_cases hp:a=p
  ·subst hp;rw [Yc,Yc]
  ·rw [Yh hp,Yh hp,XN ha]
theorem Cs.upd {H:Hp} {c p:Addr} {o:HO} (h:Cs H c) (n:p≠c):Cs (upd H p o) c:=by
 obtain ⟨ms,h1,h2⟩:=h
 exact ⟨ms,by rw [Yh (Ne.symm n)];exact h1,h2⟩
def UP (c:Addr) (n:Nat) (H1:Hp) (D:Addr) (i:Nat) (zs:List V) (H':Hp):Prop:=zs.length=i∧H' D=some (.lst zs)∧D≠c∧Cs H' c∧Yd (hd c H1) (hd c H')∧∃ ds L,OwDs (hd c H1) (hd c H') zs ds L∧(∀ a∈L,a≠D)∧∀ d∈ds,L2.hb d∧d.depth≤n∧Sml d
theorem UP.start {c:Addr} {n:Nat} {H1:Hp} {D:Addr} (hc:Cs H1 c) (hD:H1 D=none):UP c n H1 D 0 [] (upd H1 D (.lst [])):=by
 have nc:D≠c:=fun z=>by obtain ⟨ms,h,_⟩:=hc;rw [z,h] at hD;cases hD
 refine ⟨rfl,Yc,nc,hc.upd nc,W2 (.upd_new hD _),[],[],⟨.nil,.nil,fun a h=>by cases h⟩,(fun a h=>by cases h),(fun d h=>by cases h)⟩
theorem UP.put {c:Addr} {n i:Nat} {H1 H' H'':Hp} {D:Addr} {zs:List V} {y:V} {d:PyData} {L':List Addr} (hD:H1 D=none) (h:UP c n H1 D i zs H') (s:Yd (hd c H') (hd c H'')) (hc:Cs H'' c) (o:OwD (hd c H') (hd c H'') y d L') (hb':L2.hb d) (hd':d.depth≤n) (hs':Sml d):H'' D=some (.lst zs)∧UP c n H1 D (i+1) (zs++[y]) (upd H'' D (.lst (zs++[y]))):=by
 obtain ⟨h1,h2,h3,h4,h5,ds,L,h6,h7,h8⟩:=h
 have e1:hd c H' D=some (.lst zs):=by rw [XN h3];exact h2
 have e2:H'' D=some (.lst zs):=(Yaq (s _ _ e1)).1
 obtain ⟨p1,p2⟩:=h6.put (zs':=zs++[y]) h7 h5 s o e1
 refine ⟨e2,by simp [h1],Yc,h3,hc.upd h3,?_,ds++[d],L++L',by rw [YcI h3];exact p1,p2,fun z hz=>?_⟩
 ·rw [YcI h3]
  exact .upd_over (by rw [XN h3];exact hD) (h5.trans s) _
 ·rcases List.mem_append.mp hz with hz | hz
  ·exact h8 z hz
  ·cases List.mem_singleton.mp hz;exact ⟨hb',hd',hs'⟩
theorem Z06 {k:Nat} {Z0 Z1:Addr} {c_part_told P_part_told:Addr} {c_judge_of P_judge_of:Addr} (R:g.Raw "_law_thing" "_law_thing" Z0v ["_law_cells","_law_left"]) (Z1k:g.Fn k "_law_take" ["_law_cells","_law_many"] (U9)) (Z0a:g.Fn k "_law_thing" ["_law_cells","_law_left"] (Z0K m)) (Zl:g.mg "range"=none) (Z3:g.mg "tuple"=none):g.Fn (k+1) "_law_thing" ["_law_cells","_law_left"] (Z0K (m+1)):=by
 refine R.fn ZD (fun vs H Q E h=>by obtain ⟨c,n,rfl,hn,hc,q⟩:=h;rfl) fun f_ cdv A outer s H vs Q E hr h=>?_
 obtain ⟨c,n,rfl,hn,hc,q⟩:=h
 refine ⟨_,(@Ye _ _ _ _ _ (@YL _ _ (2) _ _ _ _ ZD.nd rfl (.inl rfl) (@Yo _ _ _ _ _ _ _ _ _ _ _ _ Z1k hr (@Ya _ _ _ _ _ (pv 0) (@Ya _ _ _ _ _ (@YB _ _ _ _ _ _ _ _ V5 Yg Yg) Yb (by rfl)) (by rfl)) (by omega) (by rfl) (by rfl) (by decide) (by rfl) (by rfl)) (by rfl) (by first | exact .inl rfl | exact .inr rfl | assumption)) (@Ye _ _ _ _ _ (@YL _ _ (3) _ _ _ _ ZD.nd rfl (.inr rfl) (@YB _ _ _ _ _ _ _ _ Wb (pv 2) Yg) (by rfl) (by first | exact .inl rfl | exact .inr rfl | assumption)) (@Ye _ _ _ _ _ (@YL _ _ (4) _ _ _ _ ZD.nd rfl (.inl rfl) (@YB _ _ _ _ _ _ _ _ Y9 (pv 2) Yg) (by rfl) (by first | exact .inl rfl | exact .inr rfl | assumption)) (@Ye _ _ _ _ _ (@Yr _ _ _ _ _ _ _ _ (@W4 _ _ _ _ _ _ _ (@Ys _ _ _ _ _ _ _ _ YS (pv 4) Yg (Yp _)) (@WB _ _ _ _ (@Ys _ _ _ _ _ _ _ _ YS (pv 1) Yg (Yp _)))).pt (@Yf _ _ _ (@Yj _ _ _ _ (@YB _ _ _ _ _ _ _ _ V4 (@YB _ _ _ _ _ _ _ _ Y9 (pv 3) Yg) Yg))) Yk) (@Ye _ _ _ _ _ (@Yr _ _ _ _ _ _ _ _ (@Ys _ _ _ _ _ _ _ _ YS (pv 4) Yg (Yp _)) (@Yf _ _ _ (@Yj _ _ _ _ (@YB _ _ _ _ _ _ _ _ V3 (@YB _ _ _ _ _ _ _ _ V4 (@Yo _ _ _ _ _ _ _ _ _ _ _ _ Z1k hr (@Ya _ _ _ _ _ (pv 0) (@Ya _ _ _ _ _ (@YB _ _ _ _ _ _ _ _ V4 (@YB _ _ _ _ _ _ _ _ YaZ Yg (@YB _ _ _ _ _ _ _ _ V5 Yg Yg)) Yg) Yb (by rfl)) (by rfl)) (by omega) (by rfl) (by rfl) (by decide) (by rfl) (by rfl)) (@YB _ _ _ _ _ _ _ _ V5 Yg Yg)) Yg))) Yk) (@Ye _ _ _ _ _ (@Yr _ _ _ _ _ _ _ _ (@Ys _ _ _ _ _ _ _ _ YS (pv 4) Yg (Yp _)) (@Yf _ _ _ (@Yj _ _ _ _ (@Xu _ _ _ _ _ _ _ _ YS (@YB _ _ _ _ _ _ _ _ Y9 (pv 3) Yg) Yg (Yp _)))) Yk) (@Ye _ _ _ _ _ (@Yr _ _ _ _ _ _ _ _ (@Ys _ _ _ _ _ _ _ _ YS (pv 4) Yg (Yp _)) (@Yf _ _ _ (@Yj _ _ _ _ (@YdI _ _ _ _ _ _ _ _ _ _ _ _ PySem.F.plainAttrs_str PySem.F.slot_str_join PySem.F.type_str_join Yd3 Yy (@Ya _ _ _ _ _ (@W6 _ _ _ _ _ _ _ ([none,some 3]) ((["_law_k","_law_more"]:List Str)) _ (YA 0) _ _ (.own (.cap (i:=3) rfl rfl (by first | exact .inl rfl | exact .inr rfl) .nil)) rfl (@Vi _ _ _ _ _ _ rfl Zl (@Ya _ _ _ _ _ (@YB _ _ _ _ _ _ _ _ Y9 (pv 3) Yg) Yb (by rfl)) (by rfl)) (fun cl C s₀ H₀ fp pn=>(@Y0 _ _ (0) _ (show List.Nodup (["_law_k","_law_more"]:List Str) by decide +kernel) rfl (.inl rfl) (.inr rfl))) (fun cl C s₀ H₀ fp pn=>XL) (fun cl C s₀ H₀ fp pn=>(@YC _ _ _ _ _ _ _ YeF Yy (@YB _ _ _ _ _ _ _ _ Y9 (@YB _ _ _ _ _ _ _ _ Wb (pv 1) (@YB _ _ _ _ _ _ _ _ V3 (pv 0) Yg)) Yg) (fun _ _=>rfl))) (by intro x hx;simp at hx;first | (subst hx;exact .inl rfl) | (rcases hx with rfl | rfl<;>exact .inl rfl) | (rcases hx with rfl | rfl | rfl<;>exact .inl rfl) | (rcases hx with rfl | rfl | rfl | rfl<;>exact .inl rfl) | (rcases hx with rfl | rfl | rfl | rfl | rfl<;>exact .inl rfl)) (by rfl) (by decide) (by decide +kernel) (by intro _;rfl)) Yb (by rfl)) (by rfl) (by rfl) (by rfl) (by rfl) (by rfl)))) Yk) (@Ye _ _ _ _ _ (@Yr _ _ _ _ _ _ _ _ (@Vh _ _ _ _ _ _ _ (@Ys _ _ _ _ _ _ _ _ YS (pv 4) Yg (Yp _)) (@Vu _ _ _ _ (@Ys _ _ _ _ _ _ _ _ YS (@YB _ _ _ _ _ _ _ _ Y9 (pv 3) Yg) Yg (Yp _)))).pt (@Yf _ _ _ (@Yj _ _ _ _ V0)) Yk) (@Ye _ _ _ _ _ (@Ya0 _ (5) _ _ _ _ _ _ _ _ _ ([none,some 0,some 1]) ((["_law_k","_law_cells","_law_left"]:List Str)) _ (YA 0) _ _ ZD.nd rfl (.inl rfl) (.own (.cap (i:=0) rfl rfl (by first | exact .inl rfl | exact .inr rfl) (.cap (i:=1) rfl rfl (by first | exact .inl rfl | exact .inr rfl) .nil))) rfl (@Vi _ _ _ _ _ _ rfl Zl (@Ya _ _ _ _ _ (@YB _ _ _ _ _ _ _ _ Y9 (pv 3) Yg) Yb (by rfl)) (by rfl)) (fun cl C s₀ H₀ fp pn=>(@Y0 _ _ (0) _ (show List.Nodup (["_law_k","_law_cells","_law_left"]:List Str) by decide +kernel) rfl (.inl rfl) (.inr rfl))) (fun cl C s₀ H₀ fp pn=>XL) (fun cl C s₀ H₀ fp pn=>(@Yo _ _ _ _ _ _ _ _ _ _ _ _ Z0a hr (@Ya _ _ _ _ _ (pv 1) (@Ya _ _ _ _ _ (@YB _ _ _ _ _ _ _ _ V4 (pv 2) Yg) Yb (by rfl)) (by rfl)) (by omega) (by rfl) (by rfl) (by decide) (by rfl) (by rfl))) (by intro x hx;simp at hx;first | (subst hx;exact .inl rfl) | (rcases hx with rfl | rfl<;>exact .inl rfl) | (rcases hx with rfl | rfl | rfl<;>exact .inl rfl) | (rcases hx with rfl | rfl | rfl | rfl<;>exact .inl rfl) | (rcases hx with rfl | rfl | rfl | rfl | rfl<;>exact .inl rfl)) (by rfl) (by decide) (by decide +kernel) (by intro _;rfl) (by rfl) (by first | exact .inl rfl | exact .inr rfl | assumption)) (@Ye _ _ _ _ _ (@Yr _ _ _ _ _ _ _ _ (@Ys _ _ _ _ _ _ _ _ YS (pv 4) Yg (Yp _)) (@Yf _ _ _ (@Yj _ _ _ _ (@Vv _ _ _ _ _ _ _ _ _ _ Z3 XT (@Ya _ _ _ _ _ (pv 5) Yb (by rfl)) (by decide +kernel) (by rfl) (by rfl) (by decide) (by decide) (by rfl) (by rfl)))) Yk) (@Yf _ _ _ (@Yj _ _ _ _ (pv 5))))))))))))),?_⟩
 have cmm:YbG 2 (10^Int.toNat 40) := .inl (cm (m:=2) (n:=200) (by decide) (by decide +kernel))
 refine cut3 (fun σ H'=>∃ z:Nat,σ=[some (.ref c),some (.int n),some (.int z),some (.int ((z:Int) / 7)),some (.int ((z:Int)%7)),none]∧Yd (hd c H) (hd c H')∧Cs H' c∧(z:Int)<10^Int.toNat 18) ?_ ?_
 rotate_left
 ·intro N hN
  walk_at "rd"
  exact ⟨YbT,c,_,rfl,hc,by decide +kernel,fun z H1 s1 c1 hz=>⟨_,rfl,XY (by decide) (by decide),_,rfl,by decide,hN _ _ ⟨z,rfl,s1,c1,hz⟩⟩⟩
 rintro σ H1 ⟨z,rfl,s1,c1,hz⟩
 refine XQ (fun σ H'=>σ=[some (.ref c),some (.int n),some (.int z),some (.int ((z:Int) / 7)),some (.int ((z:Int)%7)),none]∧H'=H1∧n≠0) ?_ ?_
 rotate_left
 ·intro N hN
  have q0:Q (.int ((z:Int) / 7%9 - 4)) H1:=q _ _ [] _ s1 c1 YcH (VY (by omega)) (by simp [PyData.depth]) (Ybk (by omega))
  walk_at "rd"
  refine YV (fun c=>⟨by decide,q0⟩) fun c'=>YV (fun c=>⟨by decide,q0⟩) fun c'=>hN _ _ ⟨rfl,rfl,by omega⟩
 rintro σ H1' ⟨rfl,e,hn0⟩
 subst e
 refine XQ (fun σ H'=>σ=[some (.ref c),some (.int n),some (.int z),some (.int ((z:Int) / 7)),some (.int ((z:Int)%7)),none]∧H'=H1') ?_ ?_
 rotate_left
 ·intro N hN
  walk_at "rd"
  refine YV (fun c'=>⟨YbT,cmm,c,_,rfl,c1,by decide +kernel,fun y H2 s2 c2 hy=>⟨YbT,_,rfl,(have hsm:=?_;q _ _ [] _ (s1.trans s2) c2 YcH (VY hsm) (by simp [PyData.depth]) (Ybk hsm))⟩⟩) fun c'=>hN _ _ ⟨rfl,rfl⟩
  have e:(10:Int)^Int.toNat 40=10000000000000000000000000000000000000000:=by decide +kernel
  have e2:(10:Nat)^45=1000000000000000000000000000000000000000000000:=by decide +kernel
  rw [e] at hy ⊢
  rw [e2]
  omega
 rintro σ H1 ⟨rfl,e⟩
 subst e
 refine XQ (fun σ H'=>σ=[some (.ref c),some (.int n),some (.int z),some (.int ((z:Int) / 7)),some (.int ((z:Int)%7)),none]∧H'=H1) ?_ ?_
 rotate_left
 ·intro N hN
  walk_at "rd"
  exact YV (fun c'=>⟨by decide,q _ _ [] _ s1 c1 ow_bl trivial (by simp [PyData.depth]) (Ydo _)⟩) fun c'=>hN _ _ ⟨rfl,rfl⟩
 rintro σ H1' ⟨rfl,e⟩
 subst e
 refine XQ (fun σ H'=>σ=[some (.ref c),some (.int n),some (.int z),some (.int ((z:Int) / 7)),some (.int ((z:Int)%7)),none]∧H'=H1') ?_ ?_
 rotate_left
 ·intro N hN
  walk_at "rd"
  refine YV (fun c'=>⟨rfl,?_⟩) fun c'=>hN _ _ ⟨rfl,rfl⟩
  obtain ⟨r,hr,hr2⟩:=WY ((z:Int) / 7) (j:=6) (by decide)
  have hr6:r<6:=by omega
  refine YbF (n:=r) ((((List.range r).map fun (i:Nat)=>abA ((z:Int) / 7 / ((i:Int)+1))).map fun c=>S [c]).map V.str) (fun R r=>by walk_at "rd";rw [hr];exact ⟨by decide,r⟩) (by simp) (by omega) ?_ ?_
  ·intro i y H' hi hy sm R rr
   rw [List.map_map,List.map_map,List.getElem?_map,List.getElem?_range hi] at hy
   cases hy
   walk_at "rd"
   exact ⟨XY (by omega) (by omega),by decide,_,_,_,rfl,rfl,by decide,(Yas _).1,rr _ (.refl _)⟩
  ·intro D H' hD sm hd
   refine ⟨_,D,((List.range r).map fun (i:Nat)=>abA ((z:Int) / 7 / ((i:Int)+1))).map fun c=>S [c],rfl,rfl,SqL.of hd,?_,?_⟩
   ·rw [Qb]
    simp only [List.length_map,List.length_range]
    show _+_*0≤_
    omega
   ·rw [YbY]
    have ho:PyData.strOk (S ((List.range r).map fun (i:Nat)=>abA ((z:Int) / 7 / ((i:Int)+1))))=true:=Yds fun x hx=>by
     obtain ⟨i,_,rfl⟩:=List.mem_map.mp hx
     exact (Yas _).2
    have hlen:(S ((List.range r).map fun (i:Nat)=>abA ((z:Int) / 7 / ((i:Int)+1)))).length=r:=by simp [S,Str.length]
    refine q _ _ [] _ (s1.trans (W2 sm)) (c1.keep sm) (Ye7 ho) ?_ (by simp [PyData.depth]) (Yes (by omega) fun x hx=>?_)
    ·show (S _).length≤64
     omega
    ·have hx:x∈((List.range r).map fun (i:Nat)=>abA ((z:Int) / 7 / ((i:Int)+1))):=by simpa [S] using hx
     obtain ⟨i,_,rfl⟩:=List.mem_map.mp hx
     exact (Yas _).2
 rintro σ H1 ⟨rfl,e⟩
 subst e
 refine XQ (fun σ H'=>σ=[some (.ref c),some (.int n),some (.int z),some (.int ((z:Int) / 7)),some (.int ((z:Int)%7)),none]∧H'=H1) ?_ ?_
 rotate_left
 ·intro N hN
  walk_at "rd"
  refine YV (fun c'=>⟨by decide,YV (fun c'=>q _ _ [] _ s1 c1 Ye6 trivial (by simp [PyData.depth]) Ydp) fun c'=>hN _ _ ⟨rfl,rfl⟩⟩) fun c'=>hN _ _ ⟨rfl,rfl⟩
 rintro σ H1' ⟨rfl,e⟩
 subst e
 walk_at "rd"
 obtain ⟨r,hr,hr2⟩:=WY ((z:Int) / 7) (j:=5) (by decide)
 have hr5:r<5:=by omega
 refine YbJ (n:=r) (UP c (n - 1) H1') (fun R r=>by walk_at "rd";rw [hr];exact ⟨by decide,r⟩) (by omega) (fun D hD => .start c1 hD) (fun D i zs H' h=>⟨h.1,h.2.1⟩) ?_ ?_
 ·intro D i zs H' hD hi hI R rr
  walk_at "rd"
  refine ⟨c,n - 1,?_,by omega,hI.2.2.2.1,fun v d L' H'' s2 c2 ow hb' hd' hs'=>?_⟩
  ·rw [show ((n - 1:Nat):Int)=(n:Int) - 1 by omega]
  ·obtain ⟨p1,p2⟩:=hI.put hD s2 c2 ow hb' hd' hs'
   exact rr v H'' p1 p2
 ·intro D zs H' hD hI
  obtain ⟨h1,h2,h3,h4,h5,ds,L,h6,h7,h8⟩:=hI
  have hl:=h6.vl.length
  have hdp:PyData.depthAll ds≤n - 1:=XR fun d hd=>(h8 d hd).2.1
  have hsw:=Ydq (ds:=ds) fun d hd=>(h8 d hd).2.2
  have hbs':hbs ds:=Vp fun d hd=>(h8 d hd).1
  have snew:∀ a∈L,hd c H a=none:=fun a ha=>s1.free (h6.new a ha)
  refine YV (fun c'=>⟨D,rfl,zs,.inl ⟨SqL.of h2,fun l hl'=>?_⟩⟩) fun c'=>?_
  ·obtain ⟨ms,hms,_⟩:=h4
   obtain ⟨e1,e2⟩:=Ye5 (c:=c) (o := .tup zs) hl' hms
   have s6:Yd (hd c H') (hd c (upd H' l (.tup zs))):=W2 (.upd_new hl' _)
   refine q _ (.tuple ds) L _ (s1.trans (h5.trans s6)) (Cs.keep ⟨ms,hms,by assumption⟩ (.upd_new hl' _)) ⟨?_,h6.nd,snew⟩ ⟨by omega,hbs'⟩ (by simp only [PyData.depth];omega) hsw.2
   rw [e1]
   exact .tup Yc (by omega) (h6.vl.keep (.upd_new e2 _))
  ·refine q _ (.list ds) (D::L) _ (s1.trans h5) h4 ⟨.lst (by rw [XN h3];exact h2) (by omega) h6.vl,List.nodup_cons.mpr ⟨fun hm=>h7 D hm rfl,h6.nd⟩,fun a ha=>?_⟩ ⟨by omega,hbs'⟩ (by simp only [PyData.depth];omega) hsw.1
   rcases List.mem_cons.mp ha with rfl | ha
   ·exact s1.free (by rw [XN h3];exact hD)
   ·exact snew a ha
theorem Yat {Z0 Z1:Addr} {c_part_told P_part_told:Addr} {c_judge_of P_judge_of:Addr} (R:g.Raw "_law_whole" "_law_whole" Z0y ["_law_thing_here"]) (b_bool:g.mg "bool"=none) (b_int:g.mg "int"=none) (Z2:g.mg "isinstance"=none):g.Fn (1) "_law_whole" ["_law_thing_here"] (Y2 isI):=by
 refine R.fn Yab (fun vs H Q E h=>by obtain ⟨v,d,rfl,hd,q⟩:=h;rfl) fun f_ cdv A outer s H vs Q E hr h=>?_
 obtain ⟨v,d,rfl,hd,q⟩:=h
 refine ⟨_,(@Yf _ _ _ (@Yj _ _ _ _ (@Y8 _ _ _ _ _ _ _ (@YE _ _ _ _ _ _ _ _ _ _ Z2 Yt (@Ya _ _ _ _ _ (pv 0) (@Ya _ _ _ _ _ (@YJ _ _ _ _ ("int") b_int (by decide +kernel) (by rfl) (by rfl) (by decide) (by decide)) Yb (by rfl)) (by rfl)) (by decide +kernel) (by rfl) (by rfl) (by decide) (by decide) (by rfl) (by rfl)) (@Xc _ _ _ _ _ (@V1 _ _ _ _ (@YE _ _ _ _ _ _ _ _ _ _ Z2 Yt (@Ya _ _ _ _ _ (pv 0) (@Ya _ _ _ _ _ (@YJ _ _ _ _ ("bool") b_bool (by decide +kernel) (by rfl) (by rfl) (by decide) (by decide)) Yb (by rfl)) (by rfl)) (by decide +kernel) (by rfl) (by rfl) (by decide) (by decide) (by rfl) (by rfl))))))),?_⟩
 walk_at "rd"
 have ty:=hd.ty (K:=g.K)
 cases d with
 | bool b=>exact ⟨_,rfl,_,ty,true,rfl,VN ⟨_,rfl,_,ty,true,rfl,q⟩⟩
 | int i=>exact ⟨_,rfl,_,ty,true,rfl,VN ⟨_,rfl,_,ty,false,rfl,q⟩⟩
 | _=>exact ⟨_,rfl,_,ty,false,rfl,Wq q⟩
def Z0m (m:Nat):Sp:=fun vs H Q _=>∃ (v w:V) (d e:PyData),vs=[v,w]∧DV H v d∧DV H w e∧d.depth<m∧d.depth≤64∧∀ H',Yd H H'→Q (.bl (sm d e)) H'
theorem Ydt {vs:List V} {H:Hp} {Q:VK} {E:XK} (h:Z0m 0 vs H Q E):False:=by
 obtain ⟨v,w,d,e,_,_,_,h,_⟩:=h
 omega
theorem YcJ {H:Hp} {v:V} {d:PyData} (h:DV H v d) (xs):d ≠ .dict xs:=by
 rintro rfl
 obtain ⟨L,h⟩:=h
 cases h
theorem Yet {d e:PyData} (hd:∀ xs,d ≠ .dict xs) (hr:¬ (Xj d=true∧Xj e=true)) (hb:isB d=isB e):d.eqv e=sm d e:=by
 cases d<;>cases e<;>first
  | exact Yae _ _
  | exact Ybc _ _
  | exact Ybd _ _
  | (rw [Xw];rfl)
  | (exact absurd rfl (hd _))
  | (exact absurd ⟨rfl,rfl⟩ hr)
  | (simp [isB] at hb;done)
  | (rw [Wm (by intro z;cases z)];simp [PyData.eqv])
theorem YcK (bs:List Bool):bs.all id=true↔∀ (i:Nat) b,bs[i]?=some b→b=true:=by
 rw [List.all_eq_true]
 constructor
 ·intro h i b hb
  exact h b (List.mem_of_getElem? hb)
 ·intro h b hb
  obtain ⟨i,hi⟩:=List.getElem?_of_mem hb
  exact h i b hi
theorem YcL {ds es:List PyData} (hl:ds.length=es.length):((List.range ds.length).map fun i=>sm (ds.getD i .none) (es.getD i .none)).all id=sm (.list ds) (.list es):=by
 symm
 refine Q1 ⟨fun z=>?_,fun z=>?_⟩
 ·have e:ds=es:=by injection z
  subst e
  rw [YcK]
  intro i b hb
  rw [List.getElem?_map] at hb
  obtain ⟨j,_,rfl⟩:=Option.map_eq_some_iff.mp hb
  exact Xw _
 ·rw [YcK] at z
  have e:ds=es:=by
   refine List.ext_getElem? fun j=>?_
   by_cases c:j<ds.length
   ·have h1:ds[j]?=some ds[j]:=List.getElem?_eq_getElem c
    have h2:es[j]?=some (es[j]'(by omega)):=List.getElem?_eq_getElem _
    have z1:sm (ds.getD j .none) (es.getD j .none)=true:=z j _ (by rw [List.getElem?_map,List.getElem?_range c];rfl)
    rw [List.getD_eq_getElem?_getD,List.getD_eq_getElem?_getD,h1,h2] at z1
    have z2:sm ds[j] (es[j]'(by omega))=true:=by simpa using z1
    rw [h1,h2,Vc.mp z2]
   ·rw [List.getElem?_eq_none (by omega),List.getElem?_eq_none (by omega)]
  rw [e]
theorem Us {K:PySem.W.Frag} (d:PyData):PySem.W.kitAny K (.type (tn8 d)) (List.map Value.type ["list","tuple"])=some (Xj d):=by cases d<;>rfl
theorem YdR {K:PySem.W.Frag} (d:PyData):PySem.W.kitOne K (.type (tn8 d)) (.type "bool")=some (isB d):=by cases d<;>rfl
theorem YbZ {K:PySem.W.Frag} (d:PyData):PySem.W.kitOne K (.type (tn8 d)) (.type "list")=some (isL d):=by cases d<;>rfl
theorem UQ (a b:Bool):QF (V.bl a) (V.bl b)=true:=by cases a<;>cases b<;>rfl
theorem Z13 {k:Nat} {Z0 Z1:Addr} {c_part_told P_part_told:Addr} {c_judge_of P_judge_of:Addr} (R:g.Raw "_law_alike" "_law_alike" Z0w ["_law_one","_law_other_here"]) (Z0z:g.Fn k "_law_alike" ["_law_one","_law_other_here"] (Z0m m)) (b_all:g.mg "all"=none) (b_bool:g.mg "bool"=none) (Z2:g.mg "isinstance"=none) (b_len:g.mg "len"=none) (b_list:g.mg "list"=none) (Z3:g.mg "tuple"=none) (b_zip:g.mg "zip"=none):g.Fn (k+1) "_law_alike" ["_law_one","_law_other_here"] (Z0m (m+1)):=by
 refine R.fn Yaa (fun vs H Q E h=>by obtain ⟨v,w,d,e,rfl,hv,hw,hm,h64,q⟩:=h;rfl) fun f_ cdv A outer s H vs Q E hr h=>?_
 obtain ⟨v,w,d,e,rfl,hv,hw,hm,h64,q⟩:=h
 refine ⟨_,(@Ye _ _ _ _ _ (@Yr _ _ _ _ _ _ _ _ (@Vh _ _ _ _ _ _ _ (@YH _ _ _ (@YE _ _ _ _ _ _ _ _ _ _ Z2 Xg (@Ya _ _ _ _ _ (pv 0) (@Ya _ _ _ _ _ (@YN _ _ _ _ _ (@Ya _ _ _ _ _ (@YJ _ _ _ _ ("list") b_list (by decide +kernel) (by rfl) (by rfl) (by decide) (by decide)) (@Ya _ _ _ _ _ (@YJ _ _ _ _ ("tuple") Z3 (by decide +kernel) (by rfl) (by rfl) (by decide) (by decide)) Yb (by rfl)) (by rfl))) Yb (YF _ _ _ _ _)) (by rfl)) (by decide +kernel) (by rfl) (by rfl) (by decide) (by decide) (by rfl) (by rfl)) (by intro _;rfl)) (@Vu _ _ _ _ (@YH _ _ _ (@YE _ _ _ _ _ _ _ _ _ _ Z2 Xg (@Ya _ _ _ _ _ (pv 1) (@Ya _ _ _ _ _ (@YN _ _ _ _ _ (@Ya _ _ _ _ _ (@YJ _ _ _ _ ("list") b_list (by decide +kernel) (by rfl) (by rfl) (by decide) (by decide)) (@Ya _ _ _ _ _ (@YJ _ _ _ _ ("tuple") Z3 (by decide +kernel) (by rfl) (by rfl) (by decide) (by decide)) Yb (by rfl)) (by rfl))) Yb (YF _ _ _ _ _)) (by rfl)) (by decide +kernel) (by rfl) (by rfl) (by decide) (by decide) (by rfl) (by rfl)) (by intro _;rfl)))).pt (@Ye _ _ _ _ _ (@Yr _ _ _ _ _ _ _ _ (@W4 _ _ _ _ _ _ _ (@Ys _ _ _ _ _ _ _ _ Qp (@YE _ _ _ _ _ _ _ _ _ _ Z2 Yt (@Ya _ _ _ _ _ (pv 0) (@Ya _ _ _ _ _ (@YJ _ _ _ _ ("list") b_list (by decide +kernel) (by rfl) (by rfl) (by decide) (by decide)) Yb (by rfl)) (by rfl)) (by decide +kernel) (by rfl) (by rfl) (by decide) (by decide) (by rfl) (by rfl)) (@YE _ _ _ _ _ _ _ _ _ _ Z2 Yt (@Ya _ _ _ _ _ (pv 1) (@Ya _ _ _ _ _ (@YJ _ _ _ _ ("list") b_list (by decide +kernel) (by rfl) (by rfl) (by decide) (by decide)) Yb (by rfl)) (by rfl)) (by decide +kernel) (by rfl) (by rfl) (by decide) (by decide) (by rfl) (by rfl)) (Yp _)) (@WB _ _ _ _ (@Ys _ _ _ _ _ _ _ _ Qp (@YE _ _ _ _ _ _ _ _ _ _ b_len Y5 (@Ya _ _ _ _ _ (pv 0) Yb (by rfl)) (by decide +kernel) (by rfl) (by rfl) (by decide) (by decide) (by rfl) (by rfl)) (@YE _ _ _ _ _ _ _ _ _ _ b_len Y5 (@Ya _ _ _ _ _ (pv 1) Yb (by rfl)) (by decide +kernel) (by rfl) (by rfl) (by decide) (by decide) (by rfl) (by rfl)) (Yp _)))).pt (@Yf _ _ _ (@Yj _ _ _ _ Y4)) Yk) (@Yf _ _ _ (@Yj _ _ _ _ (@YE _ _ _ _ _ _ _ _ _ _ b_all (WS rfl) (@Ya _ _ _ _ _ (@W6 _ _ _ _ _ _ _ ([none,none]) ((["_law_here","_law_there"]:List Str)) _ (WD g.K 2 (Xb (YA 0) (Xb (YA 1) WC))) _ _ (.own (.own .nil)) rfl (@Wv _ _ _ _ _ (@YaX _ _ _ _ _ _ _ _ _ rfl b_zip (@Ya _ _ _ _ _ (pv 0) (@Ya _ _ _ _ _ (pv 1) Yb (by rfl)) (by rfl)) (by rfl) (by rfl)) (@YaW _ _ _ _ _ _ _ _ _ rfl b_zip (@Ya _ _ _ _ _ (pv 0) (@Ya _ _ _ _ _ (pv 1) Yb (by rfl)) (by rfl)) (by rfl) (by rfl))) (fun cl C s₀ H₀ fp pn=>(@QD _ _ _ _ _ (2) rfl (@X8 _ _ _ _ _ (@Y0 _ _ (0) _ (show List.Nodup (["_law_here","_law_there"]:List Str) by decide +kernel) rfl (.inl rfl) (.inr rfl)) (@X8 _ _ _ _ _ (@Y0 _ _ (1) _ (show List.Nodup (["_law_here","_law_there"]:List Str) by decide +kernel) rfl (.inl rfl) (.inr rfl)) Uv (by rfl)) (by rfl)) (by rfl) (by rfl))) (fun cl C s₀ H₀ fp pn=>XL) (fun cl C s₀ H₀ fp pn=>(@Yo _ _ _ _ _ _ _ _ _ _ _ _ Z0z hr (@Ya _ _ _ _ _ (pv 0) (@Ya _ _ _ _ _ (pv 1) Yb (by rfl)) (by rfl)) (by omega) (by rfl) (by rfl) (by decide) (by rfl) (by rfl))) (by intro x hx;simp at hx) (by rfl) (by decide) (by decide +kernel) (by intro _;rfl)) Yb (by rfl)) (by decide +kernel) (by rfl) (by rfl) (by decide) (by decide) (by rfl) (by rfl))))) Yk) (@Ye _ _ _ _ _ (@Yr _ _ _ _ _ _ _ _ (@Ys _ _ _ _ _ _ _ _ Qp (@YE _ _ _ _ _ _ _ _ _ _ Z2 Yt (@Ya _ _ _ _ _ (pv 0) (@Ya _ _ _ _ _ (@YJ _ _ _ _ ("bool") b_bool (by decide +kernel) (by rfl) (by rfl) (by decide) (by decide)) Yb (by rfl)) (by rfl)) (by decide +kernel) (by rfl) (by rfl) (by decide) (by decide) (by rfl) (by rfl)) (@YE _ _ _ _ _ _ _ _ _ _ Z2 Yt (@Ya _ _ _ _ _ (pv 1) (@Ya _ _ _ _ _ (@YJ _ _ _ _ ("bool") b_bool (by decide +kernel) (by rfl) (by rfl) (by decide) (by decide)) Yb (by rfl)) (by rfl)) (by decide +kernel) (by rfl) (by rfl) (by decide) (by decide) (by rfl) (by rfl)) (Yp _)) (@Yf _ _ _ (@Yj _ _ _ _ Y4)) Yk) (@Yf _ _ _ (@Yj _ _ _ _ (@Xu _ _ _ _ _ _ _ _ (Vm hr.units) (pv 0) (pv 1) (Yp _)))))),?_⟩
 refine XQ (fun σ H'=>σ=[some v,some w]∧Yd H H'∧¬ (Xj d=true∧Xj e=true)) ?_ ?_
 rotate_left
 ·intro N hN
  walk_at "rd"
  refine ⟨by decide,fun p hp=>⟨["list","tuple"],Yc,?_⟩⟩
  have s1:=Yd.upd_new hp (HO.tup [V.ty "list",V.ty "tuple"])
  generalize upd H p (HO.tup [V.ty "list",V.ty "tuple"])=H1 at s1 ⊢
  refine ⟨_,(hv.keep s1).ty,_,Us d,YV (fun c1=>⟨by decide,fun p1 hp1=>⟨["list","tuple"],Yc,?_⟩⟩) fun c1=>hN _ _ ⟨rfl,s1,fun z=>c1 z.1⟩⟩
  have s2:=s1.trans (Yd.upd_new hp1 (HO.tup [V.ty "list",V.ty "tuple"]))
  generalize upd H1 p1 (HO.tup [V.ty "list",V.ty "tuple"])=H2 at s2 ⊢
  have hv2:=hv.keep s2
  have hw2:=hw.keep s2
  refine ⟨_,hw2.ty,_,Us e,YV (fun c2=>?_) fun c2=>hN _ _ ⟨rfl,s2,fun z=>c2 z.2⟩⟩
  refine ⟨_,rfl,_,hv2.ty,_,YbZ d,_,rfl,_,hw2.ty,_,YbZ e,UQ _ _,YV (fun c3=>?_) fun c3=>?_⟩
  ·have z:=q _ s2
   rw [WZ isL c3] at z
   exact z
  ·have c3:isL d=isL e:=by simpa using c3
   cases d with
   | list ds =>
    cases e with
    | list es =>
     obtain ⟨a,vs,rfl,ha,hl,hds⟩:=hv2.ilst
     obtain ⟨a',ws,rfl,hb,hl',hes⟩:=hw2.ilst
     have n1:=hds.length
     have n2:=hes.length
     refine ⟨a,rfl,_,.inl (SqL.of ha),a',rfl,_,.inl (SqL.of hb),YV (fun c=>?_) fun c=>?_⟩
     ·have z:=q _ s2
      rw [WZ (fun d=>match d with | .list l=>decide (l.length=ds.length) | _=>false) (by simp;omega)] at z
      exact z
     ·have hll:vs.length=ws.length:=by omega
      refine Vy (Ydb (K:=g.K) (xs:=vs) (ys:=ws) (a:=a) (b:=a') (((List.range ds.length).map fun i=>sm (ds.getD i .none) (es.getD i .none)).map V.bl) (fun R r=>by walk_at "rd";exact r) (SqL.of ha) (SqL.of hb) hll (by simp;omega) (by omega) ?_ ?_)
      ·intro i x y z H' hx hy hz sm' R r
       obtain ⟨d1,h1,h2⟩:=hds.at hx
       obtain ⟨e1,h3,h4⟩:=hes.at hy
       have hi:i<ds.length:=(List.getElem?_eq_some_iff.mp h1).1
       rw [List.map_map,List.getElem?_map,List.getElem?_range hi] at hz
       have hz:V.bl (sm (ds.getD i .none) (es.getD i .none))=z:=Option.some.inj hz
       subst hz
       rw [List.getD_eq_getElem?_getD,List.getD_eq_getElem?_getD,h1,h3] at r
       have hme:=Yx (List.mem_of_getElem? h1)
       rw [PyData.depth] at hm h64
       walk_at "rd"
       exact ⟨x,y,d1,e1,rfl,h2.keep sm',h4.keep sm',by omega,by omega,fun H'' s''=>r H'' s''⟩
      ·intro D H' hD sm' hd'
       refine ⟨D,rfl,_,SqL.of hd',?_⟩
       rw [YcL (by omega)]
       exact q H' (s2.trans sm')
    | tuple es=>exact absurd c3 (by simp [isL])
    | _=>exact absurd c2 (by simp [Xj,Yn])
   | tuple ds =>
    cases e with
    | tuple es =>
     obtain ⟨a,vs,rfl,ha,hl,hds⟩:=hv2.itup
     obtain ⟨a',ws,rfl,hb,hl',hes⟩:=hw2.itup
     have n1:=hds.length
     have n2:=hes.length
     refine ⟨a,rfl,_,.inr (SqT.of ha),a',rfl,_,.inr (SqT.of hb),YV (fun c=>?_) fun c=>?_⟩
     ·have z:=q _ s2
      rw [WZ (fun d=>match d with | .tuple l=>decide (l.length=ds.length) | _=>false) (by simp;omega)] at z
      exact z
     ·have hll:vs.length=ws.length:=by omega
      refine Vz (Yda (K:=g.K) (xs:=vs) (ys:=ws) (a:=a) (b:=a') (((List.range ds.length).map fun i=>sm (ds.getD i .none) (es.getD i .none)).map V.bl) (fun R r=>by walk_at "rd";exact r) (SqT.of ha) (SqT.of hb) hll (by simp;omega) (by omega) ?_ ?_)
      ·intro i x y z H' hx hy hz sm' R r
       obtain ⟨d1,h1,h2⟩:=hds.at hx
       obtain ⟨e1,h3,h4⟩:=hes.at hy
       have hi:i<ds.length:=(List.getElem?_eq_some_iff.mp h1).1
       rw [List.map_map,List.getElem?_map,List.getElem?_range hi] at hz
       have hz:V.bl (sm (ds.getD i .none) (es.getD i .none))=z:=Option.some.inj hz
       subst hz
       rw [List.getD_eq_getElem?_getD,List.getD_eq_getElem?_getD,h1,h3] at r
       have hme:=Yx (List.mem_of_getElem? h1)
       rw [PyData.depth] at hm h64
       walk_at "rd"
       exact ⟨x,y,d1,e1,rfl,h2.keep sm',h4.keep sm',by omega,by omega,fun H'' s''=>r H'' s''⟩
      ·intro D H' hD sm' hd'
       refine ⟨D,rfl,_,SqL.of hd',?_⟩
       rw [YcL (by omega),show sm (.list ds) (.list es)=sm (.tuple ds) (.tuple es) from Q1 (by rw [Vc];constructor<;>(intro z;injection z with z;rw [z]))]
       exact q H' (s2.trans sm')
    | list es=>exact absurd c3 (by simp [isL])
    | _=>exact absurd c2 (by simp [Xj,Yn])
   | _=>exact absurd c1 (by simp [Xj,Yn])
 rintro σ H1 ⟨rfl,s1,hn⟩
 have hv1:=hv.keep s1
 have hw1:=hw.keep s1
 walk_at "rd"
 refine ⟨_,rfl,_,hv1.ty,_,YdR d,_,rfl,_,hw1.ty,_,YdR e,UQ _ _,YV (fun c=>?_) fun c=>⟨d,hv1.den,e,hw1.den,h64,?_⟩⟩
 ·have z:=q _ s1
  rw [WZ isB c] at z
  exact z
 ·rw [Yet (YcJ hv) hn (by simpa using c)]
  exact q _ s1
def Wi (m:Nat):Sp:=fun vs H Q _=>∃ v d,vs=[v]∧DV H v d∧d.depth<m∧∀ v' H' L',Yd H H'→OwD H H' v' d L'→Q v' H'
theorem Yeu {vs:List V} {H:Hp} {Q:VK} {E:XK} (h:Wi 0 vs H Q E):False:=by
 obtain ⟨v,d,_,_,h,_⟩:=h
 omega
theorem Z1a {k:Nat} {Z0 Z1:Addr} {c_part_told P_part_told:Addr} {c_judge_of P_judge_of:Addr} (R:g.Raw "_law_copy" "_law_copy" Z0H ["_law_thing_here"]) (Ze:g.Fn k "_law_copy" ["_law_thing_here"] (Wi m)) (Z2:g.mg "isinstance"=none) (b_list:g.mg "list"=none) (Z3:g.mg "tuple"=none):g.Fn (k+1) "_law_copy" ["_law_thing_here"] (Wi (m+1)):=by
 refine R.fn YaG (fun vs H Q E h=>by obtain ⟨v,d,rfl,hv,hdp,q⟩:=h;rfl) fun f_ cdv A outer s H vs Q E hr h=>?_
 obtain ⟨v,d,rfl,hv,hdp,q⟩:=h
 refine ⟨_,(@Ye _ _ _ _ _ (@Yr _ _ _ _ _ _ _ _ (@YH _ _ _ (@YE _ _ _ _ _ _ _ _ _ _ Z2 Yt (@Ya _ _ _ _ _ (pv 0) (@Ya _ _ _ _ _ (@YJ _ _ _ _ ("list") b_list (by decide +kernel) (by rfl) (by rfl) (by decide) (by decide)) Yb (by rfl)) (by rfl)) (by decide +kernel) (by rfl) (by rfl) (by decide) (by decide) (by rfl) (by rfl)) (by intro _;rfl)) (@Yf _ _ _ (@Yj _ _ _ _ (@W6 _ _ _ _ _ _ _ ([none]) ((["_law_each"]:List Str)) _ (YA 0) _ _ (.own .nil) rfl (@Wv _ _ _ _ _ (@XW _ _ _ _ (pv 0)) (@WE _ _ _ _ (pv 0))) (fun cl C s₀ H₀ fp pn=>(@Y0 _ _ (0) _ (show List.Nodup (["_law_each"]:List Str) by decide +kernel) rfl (.inl rfl) (.inr rfl))) (fun cl C s₀ H₀ fp pn=>XL) (fun cl C s₀ H₀ fp pn=>(@Yo _ _ _ _ _ _ _ _ _ _ _ _ Ze hr (@Ya _ _ _ _ _ (pv 0) Yb (by rfl)) (by omega) (by rfl) (by rfl) (by decide) (by rfl) (by rfl))) (by intro x hx;simp at hx) (by rfl) (by decide) (by decide +kernel) (by intro _;rfl)))) Yk) (@Ye _ _ _ _ _ (@Yr _ _ _ _ _ _ _ _ (@YH _ _ _ (@YE _ _ _ _ _ _ _ _ _ _ Z2 Yt (@Ya _ _ _ _ _ (pv 0) (@Ya _ _ _ _ _ (@YJ _ _ _ _ ("tuple") Z3 (by decide +kernel) (by rfl) (by rfl) (by decide) (by decide)) Yb (by rfl)) (by rfl)) (by decide +kernel) (by rfl) (by rfl) (by decide) (by decide) (by rfl) (by rfl)) (by intro _;rfl)) (@Yf _ _ _ (@Yj _ _ _ _ (@Vv _ _ _ _ _ _ _ _ _ _ Z3 XT (@Ya _ _ _ _ _ (@W6 _ _ _ _ _ _ _ ([none]) ((["_law_each"]:List Str)) _ (YA 0) _ _ (.own .nil) rfl (@Wv _ _ _ _ _ (@XW _ _ _ _ (pv 0)) (@WE _ _ _ _ (pv 0))) (fun cl C s₀ H₀ fp pn=>(@Y0 _ _ (0) _ (show List.Nodup (["_law_each"]:List Str) by decide +kernel) rfl (.inl rfl) (.inr rfl))) (fun cl C s₀ H₀ fp pn=>XL) (fun cl C s₀ H₀ fp pn=>(@Yo _ _ _ _ _ _ _ _ _ _ _ _ Ze hr (@Ya _ _ _ _ _ (pv 0) Yb (by rfl)) (by omega) (by rfl) (by rfl) (by decide) (by rfl) (by rfl))) (by intro x hx;simp at hx) (by rfl) (by decide) (by decide +kernel) (by intro _;rfl)) Yb (by rfl)) (by decide +kernel) (by rfl) (by rfl) (by decide) (by decide) (by rfl) (by rfl)))) Yk) (@Yf _ _ _ (@Yj _ _ _ _ (pv 0))))),?_⟩
 have ty:=hv.ty (K:=g.K)
 walk_at "rd"
 cases d with
 | list ds =>
  obtain ⟨a,vs,rfl,h,hl,hds⟩:=hv.ilst
  have e1:=hds.length
  refine ⟨_,rfl,_,ty,true,rfl,VN (Vy ?_)⟩
  refine Yba (K:=g.K) (b:=a) (xs:=vs) ds (fun R r=>by walk_at "rd";exact r) (SqL.of h) (by omega) hl ?_ (fun D H' L sm ho=>q _ _ _ sm ho)
  intro i x e H' hx he sm R r
  obtain ⟨e',he',hve⟩:=hds.at hx
  rw [he] at he'
  cases he'
  have hme:=Yx (List.mem_of_getElem? he)
  walk_at "rd"
  exact ⟨x,e,rfl,hve.keep sm,by rw [PyData.depth] at hdp;omega,fun v' H'' L'' s' ho=>r v' H'' L'' s' ho⟩
 | tuple ds =>
  obtain ⟨a,vs,rfl,h,hl,hds⟩:=hv.itup
  have e1:=hds.length
  refine ⟨_,rfl,_,ty,false,rfl,Wq ⟨_,rfl,_,ty,true,rfl,VN (Vz ?_)⟩⟩
  refine QZ (K:=g.K) (b:=a) (xs:=vs) ds (fun R r=>by walk_at "rd";exact r) (SqT.of h) (by omega) hl ?_ ?_
  ·intro i x e H' hx he sm R r
   obtain ⟨e',he',hve⟩:=hds.at hx
   rw [he] at he'
   cases he'
   have hme:=Yx (List.mem_of_getElem? he)
   walk_at "rd"
   exact ⟨x,e,rfl,hve.keep sm,by rw [PyData.depth] at hdp;omega,fun v' H'' L'' s' ho=>r v' H'' L'' s' ho⟩
  ·intro D H' L sm ho
   obtain ⟨ys,L1,_,h1,h2,h3,_,_⟩:=ho.inv
   exact ⟨_,rfl,_,.inl ⟨SqL.of h1,fun p hp=>q _ _ _ (sm.trans (.upd_new hp _)) (Yeh h3 h2 hp)⟩⟩
 | dict xs=>obtain ⟨L,h⟩:=hv;cases h
 | int i=>cases hv.iint;exact ⟨_,rfl,_,ty,false,rfl,Wq ⟨_,rfl,_,ty,false,rfl,Wq (q _ _ _ (.refl _) (Va (.int _)))⟩⟩
 | bool i=>cases hv.ibl;exact ⟨_,rfl,_,ty,false,rfl,Wq ⟨_,rfl,_,ty,false,rfl,Wq (q _ _ _ (.refl _) (Va (.bl _)))⟩⟩
 | str x=>obtain ⟨rfl,o⟩:=hv.istr;exact ⟨_,rfl,_,ty,false,rfl,Wq ⟨_,rfl,_,ty,false,rfl,Wq (q _ _ _ (.refl _) (Va (.str _ o)))⟩⟩
 | none=>cases YbW hv;exact ⟨_,rfl,_,ty,false,rfl,Wq ⟨_,rfl,_,ty,false,rfl,Wq (q _ _ _ (.refl _) (Va .non))⟩⟩
def Z0L (m:Nat):Sp:=fun vs H Q _=>∃ (v:V) (d:PyData) (k:Int),vs=[v,.int k]∧0≤k∧k<10^Int.toNat 12∧DV H v d∧L2.hb d∧Sml d∧d.depth<m∧d.depth<62∧∀ v' e L H',Yd H H'→DL H' v' e L→(∀ a∈L,H a=none)→L2.hb e→e.depth≤d.depth→Q v' H'
theorem Ydu {vs:List V} {H:Hp} {Q:VK} {E:XK} (h:Z0L 0 vs H Q E):False:=by
 obtain ⟨v,d,k,_,_,_,_,_,_,h,_⟩:=h
 omega
theorem Ybl {H:Hp} {x:V} {e:PyData} {Lx:List Addr} (hx:DL H x e Lx):∀ {vs:List V} {ds:List PyData} {L:List Addr} (j:Nat),DLs H vs ds L→∃ L',DLs H (vs.set j x) (ds.set j e) L'∧∀ a∈L',a∈L∨a∈Lx
 | _,_,_,j,.nil=>⟨[],by simp;exact .nil,fun a h=>by cases h⟩
 | _,_,_,0,.cons a b=>⟨_,.cons hx b,fun z hz=>by
   rcases List.mem_append.mp hz with h | h
   ·exact .inr h
   ·exact .inl (List.mem_append_right _ h)⟩
 | _,_,_,j+1,.cons a b=>by
  obtain ⟨L',h1,h2⟩:=Ybl hx j b
  exact ⟨_,.cons a h1,fun z hz=>by
   rcases List.mem_append.mp hz with h | h
   ·exact .inl (List.mem_append_left _ h)
   ·rcases h2 z h with h | h
    ·exact .inl (List.mem_append_right _ h)
    ·exact .inr h⟩
theorem WM {g:Gx} {src:List (Option Nat)} {te:TE} {v:V} {σ:St} {H:Hp} {Q:VK} {x:PyData} {ds:List PyData} (hv:DV H v x) (hx:Yn x=some ds) (h0:σ[0]?=some (some v))
  (step:∀ (i:Nat) y e H',ds[i]?=some e→DV H' y e→Yd H H'→∀ R:VK,(∀ y' H'' L,Yd H' H''→OwD H' H'' y' e L→R y' H'')→te (some y::YI src σ) H' R)
  (fin:∀ D H' L,Yd H H'→OwD H H' (.ref D) (.list ds) L→Q (.ref D) H'):tLC (none::src) (iOr (W5 g.K (Xs 0)) (QE g.K (Xs 0))) (YA 0) XE te σ H Q:=by
 cases x with
 | list es =>
  cases hx
  obtain ⟨a,vs,rfl,h,hl,hds⟩:=hv.ilst
  have e1:=hds.length
  refine Vy (Yba (K:=g.K) (b:=a) (xs:=vs) ds (fun R r=>⟨_,h0,r⟩) (SqL.of h) (by omega) hl ?_ fin)
  intro i x e H' hx he sm R r
  obtain ⟨e',he',hve⟩:=hds.at hx
  rw [he] at he'
  cases he'
  exact step i x e H' he (hve.keep sm) sm R r
 | tuple es =>
  cases hx
  obtain ⟨a,vs,rfl,h,hl,hds⟩:=hv.itup
  have e1:=hds.length
  refine Vz (QZ (K:=g.K) (b:=a) (xs:=vs) ds (fun R r=>⟨_,h0,r⟩) (SqT.of h) (by omega) hl ?_ fin)
  intro i x e H' hx he sm R r
  obtain ⟨e',he',hve⟩:=hds.at hx
  rw [he] at he'
  cases he'
  exact step i x e H' he (hve.keep sm) sm R r
 | _=>cases hx
theorem Ye8 {g:Gx} {v:V} {σ:St} {H:Hp} {Q:VK} {x:PyData} {ds:List PyData} {i:Nat} {n:Nat} {e:PyData} (hv:DV H v x) (hx:Yn x=some ds) (h0:σ[0]?=some (some v)) (h2:σ[i]?=some (some (.int n))) (he:ds[n]?=some e) (q:∀ y,DV H y e→Q y H):UC (tOp (Yby g.K) (Xs 0) (Xs i)) (tOp (Ybz g.K) (Xs 0) (Xs i)) σ H Q:=by
 have go:∀ {vs:List V},DVs H vs ds→∃ y,vs[n]?=some y∧DV H y e:=fun {vs} h=>by
  have hl:=h.length
  have hlt:=(List.getElem?_eq_some_iff.mp he).1
  have hu:vs[n]?=some (vs[n]'(by omega)):=List.getElem?_eq_getElem _
  obtain ⟨d,e1,e2⟩:=h.at hu
  rw [he] at e1
  cases e1
  exact ⟨_,hu,e2⟩
 cases x with
 | list es =>
  cases hx
  obtain ⟨a,vs,rfl,h,hl,hds⟩:=hv.ilst
  obtain ⟨y,hy,hd⟩:=go hds
  exact .inl ⟨_,h0,_,h2,_,_,_,_,rfl,rfl,SqL.of h,XJ hy,q y hd⟩
 | tuple es =>
  cases hx
  obtain ⟨a,vs,rfl,h,hl,hds⟩:=hv.itup
  obtain ⟨y,hy,hd⟩:=go hds
  exact .inr ⟨_,h0,_,h2,_,_,_,_,rfl,rfl,SqT.of h,XJ hy,q y hd⟩
 | _=>cases hx
theorem VZ {x:PyData} {ds:List PyData} (hx:Yn x=some ds) (h:L2.hb x):ds.length≤64∧hbs ds:=by
 cases x<;>cases hx<;>exact h
theorem YcM {x:PyData} {ds:List PyData} (hx:Yn x=some ds) (h:Sml x):UN ds:=by
 cases x<;>cases hx<;>exact h
theorem Qc {x:PyData} {ds:List PyData} (hx:Yn x=some ds):x.depth=PyData.depthAll ds+1:=by
 cases x<;>cases hx<;>simp [PyData.depth]
theorem Qd {K:PySem.W.Frag} {H:Hp} {v:V} {x:PyData} {ds:List PyData} (hv:DV H v x) (hx:Yn x=some ds):∃ p vs,v = .ref p∧(SqL K H p vs∨SqT K H p vs)∧vs.length=ds.length:=by
 cases x with
 | list es=>cases hx;obtain ⟨a,vs,rfl,h,hl,hds⟩:=hv.ilst;exact ⟨a,vs,rfl,.inl (SqL.of h),hds.length⟩
 | tuple es=>cases hx;obtain ⟨a,vs,rfl,h,hl,hds⟩:=hv.itup;exact ⟨a,vs,rfl,.inr (SqT.of h),hds.length⟩
 | _=>cases hx
theorem kit_t {K:PySem.W.Frag} (d:PyData):PySem.W.kitOne K (.type (tn8 d)) (.type "tuple")=some (isT d):=by cases d<;>rfl
theorem Yev {i:Int} (h:I45 i):IB 0 (i+1):=by
 have h1:=h.h
 refine ⟨?_⟩
 have e2:2^(200*2^0)=(1606938044258990275541962092341162602522202993782792835301376:Nat):=by decide +kernel
 have e3:(10:Nat)^45=1000000000000000000000000000000000000000000000:=by decide +kernel
 rw [e3] at h1
 rw [e2]
 omega
theorem ZE {k:Nat} {Z0 Z1:Addr} {c_part_told P_part_told:Addr} {c_judge_of P_judge_of:Addr} (R:g.Raw "_law_other" "_law_other" Z0x ["_law_thing_here","_law_cell"]) (Z0A:g.Fn k "_law_other" ["_law_thing_here","_law_cell"] (Z0L m)) (Ze:g.Fn k "_law_copy" ["_law_thing_here"] (Wi 62)) (b_bool:g.mg "bool"=none) (b_int:g.mg "int"=none) (Z2:g.mg "isinstance"=none) (b_len:g.mg "len"=none) (b_list:g.mg "list"=none) (b_str:g.mg "str"=none) (Z3:g.mg "tuple"=none):g.Fn (k+1) "_law_other" ["_law_thing_here","_law_cell"] (Z0L (m+1)):=by
 refine R.fn Z0j (fun vs H Q E h=>by obtain ⟨v,d,k,rfl,hk,hk2,hv,hb,hsm,hdp,hd62,q⟩:=h;rfl) fun f_ cdv A outer s H vs Q E hr h=>?_
 obtain ⟨v,d,k,rfl,hk,hk2,hv,hb,hsm,hdp,hd62,q⟩:=h
 refine ⟨_,(@Ye _ _ _ _ _ (@Yr _ _ _ _ _ _ _ _ (@Vh _ _ _ _ _ _ _ (@YH _ _ _ (@YE _ _ _ _ _ _ _ _ _ _ Z2 Xg (@Ya _ _ _ _ _ (pv 0) (@Ya _ _ _ _ _ (@YN _ _ _ _ _ (@Ya _ _ _ _ _ (@YJ _ _ _ _ ("list") b_list (by decide +kernel) (by rfl) (by rfl) (by decide) (by decide)) (@Ya _ _ _ _ _ (@YJ _ _ _ _ ("tuple") Z3 (by decide +kernel) (by rfl) (by rfl) (by decide) (by decide)) Yb (by rfl)) (by rfl))) Yb (YF _ _ _ _ _)) (by rfl)) (by decide +kernel) (by rfl) (by rfl) (by decide) (by decide) (by rfl) (by rfl)) (by intro _;rfl)) (@Vh _ _ _ _ _ _ _ (@Ys _ _ _ _ _ _ _ _ Ybu (@YE _ _ _ _ _ _ _ _ _ _ b_len Y5 (@Ya _ _ _ _ _ (pv 0) Yb (by rfl)) (by decide +kernel) (by rfl) (by rfl) (by decide) (by decide) (by rfl) (by rfl)) Yg (Yp _)) (@Vu _ _ _ _ (@Ys _ _ _ _ _ _ _ _ Ybu (@YB _ _ _ _ _ _ _ _ Y9 (pv 1) Yg) Yg (Yp _))))).pt (@Ye _ _ _ _ _ (@YL _ _ (2) _ _ _ _ Z0j.nd rfl (.inl rfl) (@YB _ _ _ _ _ _ _ _ Y9 (@YB _ _ _ _ _ _ _ _ Wb (pv 1) Yg) (@YE _ _ _ _ _ _ _ _ _ _ b_len Y5 (@Ya _ _ _ _ _ (pv 0) Yb (by rfl)) (by decide +kernel) (by rfl) (by rfl) (by decide) (by decide) (by rfl) (by rfl))) (by rfl) (by first | exact .inl rfl | exact .inr rfl | assumption)) (@Ye _ _ _ _ _ (@Ya0 _ (3) _ _ _ _ _ _ _ _ _ ([none]) ((["_law_each"]:List Str)) _ (YA 0) _ _ Z0j.nd rfl (.inl rfl) (.own .nil) rfl (@Wv _ _ _ _ _ (@XW _ _ _ _ (pv 0)) (@WE _ _ _ _ (pv 0))) (fun cl C s₀ H₀ fp pn=>(@Y0 _ _ (0) _ (show List.Nodup (["_law_each"]:List Str) by decide +kernel) rfl (.inl rfl) (.inr rfl))) (fun cl C s₀ H₀ fp pn=>XL) (fun cl C s₀ H₀ fp pn=>(@Yo _ _ _ _ _ _ _ _ _ _ _ _ Ze hr (@Ya _ _ _ _ _ (pv 0) Yb (by rfl)) (by omega) (by rfl) (by rfl) (by decide) (by rfl) (by rfl))) (by intro x hx;simp at hx) (by rfl) (by decide) (by decide +kernel) (by intro _;rfl) (by rfl) (by first | exact .inl rfl | exact .inr rfl | assumption)) (@Ye _ _ _ _ _ (@YeD _ _ _ _ _ _ (@Yo _ _ _ _ _ _ _ _ _ _ _ _ Z0A hr (@Ya _ _ _ _ _ (@Xn _ _ _ _ (@YC _ _ _ _ _ _ _ Xd (pv 0) (pv 2) (fun _ _=>rfl)) (@YC _ _ _ _ _ _ _ YO (pv 0) (pv 2) (fun _ _=>rfl))) (@Ya _ _ _ _ _ (@YB _ _ _ _ _ _ _ _ Wb (pv 1) Yg) Yb (by rfl)) (by rfl)) (by omega) (by rfl) (by rfl) (by decide) (by rfl) (by rfl)) (@YeC _ _ _ _ _ _ _ (pv 3) (pv 2) YcY (by intro _;rfl)) (by rfl) (by rfl) (by rfl)) (@Ye _ _ _ _ _ (@Yr _ _ _ _ _ _ _ _ (@YH _ _ _ (@YE _ _ _ _ _ _ _ _ _ _ Z2 Yt (@Ya _ _ _ _ _ (pv 0) (@Ya _ _ _ _ _ (@YJ _ _ _ _ ("tuple") Z3 (by decide +kernel) (by rfl) (by rfl) (by decide) (by decide)) Yb (by rfl)) (by rfl)) (by decide +kernel) (by rfl) (by rfl) (by decide) (by decide) (by rfl) (by rfl)) (by intro _;rfl)) (@Yf _ _ _ (@Yj _ _ _ _ (@Vv _ _ _ _ _ _ _ _ _ _ Z3 XT (@Ya _ _ _ _ _ (pv 3) Yb (by rfl)) (by decide +kernel) (by rfl) (by rfl) (by decide) (by decide) (by rfl) (by rfl)))) Yk) (@Yf _ _ _ (@Yj _ _ _ _ (pv 3))))))) Yk) (@Ye _ _ _ _ _ (@Yr _ _ _ _ _ _ _ _ (@YH _ _ _ (@YE _ _ _ _ _ _ _ _ _ _ Z2 Yt (@Ya _ _ _ _ _ (pv 0) (@Ya _ _ _ _ _ (@YJ _ _ _ _ ("list") b_list (by decide +kernel) (by rfl) (by rfl) (by decide) (by decide)) Yb (by rfl)) (by rfl)) (by decide +kernel) (by rfl) (by rfl) (by decide) (by decide) (by rfl) (by rfl)) (by intro _;rfl)) (@Yf _ _ _ (@Yj _ _ _ _ (@Vv _ _ _ _ _ _ _ _ _ _ Z3 XT (@Ya _ _ _ _ _ (@W6 _ _ _ _ _ _ _ ([none]) ((["_law_each"]:List Str)) _ (YA 0) _ _ (.own .nil) rfl (@Wv _ _ _ _ _ (@XW _ _ _ _ (pv 0)) (@WE _ _ _ _ (pv 0))) (fun cl C s₀ H₀ fp pn=>(@Y0 _ _ (0) _ (show List.Nodup (["_law_each"]:List Str) by decide +kernel) rfl (.inl rfl) (.inr rfl))) (fun cl C s₀ H₀ fp pn=>XL) (fun cl C s₀ H₀ fp pn=>(@Yo _ _ _ _ _ _ _ _ _ _ _ _ Ze hr (@Ya _ _ _ _ _ (pv 0) Yb (by rfl)) (by omega) (by rfl) (by rfl) (by decide) (by rfl) (by rfl))) (by intro x hx;simp at hx) (by rfl) (by decide) (by decide +kernel) (by intro _;rfl)) Yb (by rfl)) (by decide +kernel) (by rfl) (by rfl) (by decide) (by decide) (by rfl) (by rfl)))) Yk) (@Ye _ _ _ _ _ (@Yr _ _ _ _ _ _ _ _ (@YH _ _ _ (@YE _ _ _ _ _ _ _ _ _ _ Z2 Yt (@Ya _ _ _ _ _ (pv 0) (@Ya _ _ _ _ _ (@YJ _ _ _ _ ("tuple") Z3 (by decide +kernel) (by rfl) (by rfl) (by decide) (by decide)) Yb (by rfl)) (by rfl)) (by decide +kernel) (by rfl) (by rfl) (by decide) (by decide) (by rfl) (by rfl)) (by intro _;rfl)) (@Yf _ _ _ (@Yj _ _ _ _ (@W6 _ _ _ _ _ _ _ ([none]) ((["_law_each"]:List Str)) _ (YA 0) _ _ (.own .nil) rfl (@Wv _ _ _ _ _ (@XW _ _ _ _ (pv 0)) (@WE _ _ _ _ (pv 0))) (fun cl C s₀ H₀ fp pn=>(@Y0 _ _ (0) _ (show List.Nodup (["_law_each"]:List Str) by decide +kernel) rfl (.inl rfl) (.inr rfl))) (fun cl C s₀ H₀ fp pn=>XL) (fun cl C s₀ H₀ fp pn=>(@Yo _ _ _ _ _ _ _ _ _ _ _ _ Ze hr (@Ya _ _ _ _ _ (pv 0) Yb (by rfl)) (by omega) (by rfl) (by rfl) (by decide) (by rfl) (by rfl))) (by intro x hx;simp at hx) (by rfl) (by decide) (by decide +kernel) (by intro _;rfl)))) Yk) (@Ye _ _ _ _ _ (@Yr _ _ _ _ _ _ _ _ (@YH _ _ _ (@YE _ _ _ _ _ _ _ _ _ _ Z2 Yt (@Ya _ _ _ _ _ (pv 0) (@Ya _ _ _ _ _ (@YJ _ _ _ _ ("bool") b_bool (by decide +kernel) (by rfl) (by rfl) (by decide) (by decide)) Yb (by rfl)) (by rfl)) (by decide +kernel) (by rfl) (by rfl) (by decide) (by decide) (by rfl) (by rfl)) (by intro _;rfl)) (@Yf _ _ _ (@Yj _ _ _ _ (@Vv _ _ _ _ _ _ _ _ _ _ b_int Yb9 (@Ya _ _ _ _ _ (pv 0) Yb (by rfl)) (by decide +kernel) (by rfl) (by rfl) (by decide) (by decide) (by rfl) (by rfl)))) Yk) (@Ye _ _ _ _ _ (@Yr _ _ _ _ _ _ _ _ (@YH _ _ _ (@YE _ _ _ _ _ _ _ _ _ _ Z2 Yt (@Ya _ _ _ _ _ (pv 0) (@Ya _ _ _ _ _ (@YJ _ _ _ _ ("str") b_str (by decide +kernel) (by rfl) (by rfl) (by decide) (by decide)) Yb (by rfl)) (by rfl)) (by decide +kernel) (by rfl) (by rfl) (by decide) (by decide) (by rfl) (by rfl)) (by intro _;rfl)) (@Yf _ _ _ (@Yj _ _ _ _ (@YB _ _ _ _ _ _ _ _ V7 (pv 0) Yy))) Yk) (@Ye _ _ _ _ _ (@Yr _ _ _ _ _ _ _ _ (@Ys _ _ _ _ _ _ _ _ QG (pv 0) V0 (Yp _)) (@Yf _ _ _ (@Yj _ _ _ _ Y4)) Yk) (@Ye _ _ _ _ _ (@Yr _ _ _ _ _ _ _ _ (@Vh _ _ _ _ _ _ _ (@Ys _ _ _ _ _ _ _ _ YS (pv 0) Yg (Yp _)) (@Vu _ _ _ _ (@Ys _ _ _ _ _ _ _ _ YS (@YB _ _ _ _ _ _ _ _ Y9 (pv 1) Yg) Yg (Yp _)))).pt (@Yf _ _ _ (@Yj _ _ _ _ Y4)) Yk) (@Yf _ _ _ (@Yj _ _ _ _ (@YB _ _ _ _ _ _ _ _ V3 (pv 0) Yg)))))))))),?_⟩
 have cp:∀ {H0:Hp} {y:V} {e:PyData} {R:VK},DV H0 y e→e.depth<62→(∀ y' H'' L,Yd H0 H''→OwD H0 H'' y' e L→R y' H'')→Wi 62 [y] H0 R E0:=fun h1 h2 h3=>⟨_,_,rfl,h1,h2,h3⟩
 refine XQ (fun σ H'=>σ=[some v,some (.int k),none,none]∧Yd H H') ?_ ?_
 rotate_left
 ·intro N hN
  walk_at "rd"
  refine ⟨by decide,fun p hp=>⟨["list","tuple"],Yc,?_⟩⟩
  have s1:=Yd.upd_new hp (HO.tup [V.ty "list",V.ty "tuple"])
  generalize upd H p (HO.tup [V.ty "list",V.ty "tuple"])=H1 at s1 ⊢
  have hv1:=hv.keep s1
  refine ⟨_,hv1.ty,_,Us d,YV (fun c1=>?_) fun c1=>hN _ _ ⟨rfl,s1⟩⟩
  obtain ⟨ds,hds⟩:=Option.isSome_iff_exists.mp (show (Yn d).isSome=true from c1)
  obtain ⟨p1,vs,hp1,hsq,hvl⟩:=Qd (K:=g.K) hv1 hds
  have hdd:=Qc hds
  refine ⟨p1,hp1,vs,hsq,YV (fun c2=>⟨by decide,YV (fun c3=>?_) fun c3=>hN _ _ ⟨rfl,s1⟩⟩) fun c2=>hN _ _ ⟨rfl,s1⟩⟩
  obtain ⟨n,hn,hn2⟩:=WY (k / 4) (j:=(vs.length:Int)) (by omega)
  refine ⟨XY (by decide) (by decide),p1,hp1,vs,hsq,by omega,?_⟩
  rw [hn]
  obtain ⟨e0,he0⟩:∃ e,ds[n]?=some e:=⟨_,List.getElem?_eq_getElem (by omega)⟩
  have hm0:=List.mem_of_getElem? he0
  have hd0:=Yx hm0
  refine WM hv1 hds rfl (fun i y e H' he hy sm R r=>?_) fun D H2 L s2 ow=>?_
  ·have:=Yx (List.mem_of_getElem? he)
   walk_at "rd"
   exact cp hy (by omega) r
  ·refine Ye8 (hv1.keep s2) hds rfl rfl he0 fun y hy=>⟨XY (by decide) (by decide),y,e0,k / 7,rfl,by omega,by omega,hy,Wf (VZ hds hb).2 hm0,Yar (YcM hds hsm) hm0,by omega,by omega,fun v' e' L' H3 s3 hv' hL' hb' hd'=>?_⟩
   obtain ⟨ys,L1,rfl,h1,h2,h3,h4,h5⟩:=ow.inv
   have hyl:=h3.vl.length
   have h13:=s3 _ _ h1
   have hD':∀ a∈L',a≠D:=fun a ha z=>by have:=hL' a ha;rw [z,h1] at this;cases this
   obtain ⟨L'',d1,d2⟩:=Ybl hv' n (h3.vl.keep s3)
   have tp:Tps H3 (upd H3 D (.lst (ys.set n v'))) := .upd_lst h13
   have nD:∀ a∈L'',a≠D:=fun a ha=>by
    rcases d2 a ha with h | h
    ·exact fun z=>h4 (z▸h)
    ·exact hD' a h
   have d3:=d1.keepL tp fun a ha vs e=>by rw [Yh (nD a ha)];exact e
   have nw:∀ a∈L'',H a=none:=fun a ha=>by
    rcases d2 a ha with h | h
    ·exact s1.free (h3.new a h)
    ·exact (s1.trans s2).free (hL' a h)
   have hdset:PyData.depthAll (ds.set n e')≤PyData.depthAll ds:=XR fun z hz=>by
    rcases List.mem_or_eq_of_mem_set hz with h | h
    ·exact Yx h
    ·rw [h];omega
   have hbset:hbs (ds.set n e'):=Vp fun z hz=>by
    rcases List.mem_or_eq_of_mem_set hz with h | h
    ·exact Wf (VZ hds hb).2 h
    ·rw [h];exact hb'
   have sD:Yd H (upd H3 D (.lst (ys.set n v'))) := .upd_over (s1.free h5) ((s1.trans s2).trans s3) _
   have hl64:=(VZ hds hb).1
   have hix:ixN ys.length (n:Int)=some n:=by
    unfold ixN
    rw [if_pos (by omega),if_pos (by omega),Int.toNat_natCast]
   refine ⟨D,rfl,ys,h13,n,hix,_,rfl,_,(hv.keep sD).ty,_,kit_t d,YV (fun c4=>⟨D,rfl,_,.inl ⟨SqL.of Yc,fun l hl'=>?_⟩⟩) fun c4=>?_⟩
   ·have s6:=Yd.upd_new hl' (HO.tup (ys.set n v'))
    exact q _ (.tuple (ds.set n e')) L'' _ (sD.trans s6) (.tup Yc (by rw [List.length_set];exact h2) (d3.keep s6)) nw ⟨by rw [List.length_set];exact hl64,hbset⟩ (by simp only [PyData.depth];omega)
   ·refine q _ (.list (ds.set n e')) (D::L'') _ sD (.lst Yc (by rw [List.length_set];exact h2) d3) (fun a ha=>?_) ⟨by rw [List.length_set];exact hl64,hbset⟩ (by simp only [PyData.depth];omega)
    rcases List.mem_cons.mp ha with rfl | ha
    ·exact s1.free h5
    ·exact nw a ha
 rintro σ H1 ⟨rfl,s1⟩
 have hv1:=hv.keep s1
 have ty:=hv1.ty (K:=g.K)
 have new:∀ {H':Hp} {L:List Addr},(∀ a∈L,H1 a=none)→∀ a∈L,H a=none:=fun h a ha=>s1.free (h a ha)
 walk_at "rd"
 refine ⟨_,rfl,_,ty,_,YbZ d,?_⟩
 cases d with
 | list ds =>
  have hdd:PyData.depth (.list ds)=PyData.depthAll ds+1:=by simp [PyData.depth]
  refine Y3 rfl (WM hv1 rfl rfl (fun i y e H' he hy sm R r=>?_) fun D H2 L s2 ow=>?_)
  ·have:=Yx (List.mem_of_getElem? he)
   walk_at "rd"
   exact cp hy (by omega) r
  ·obtain ⟨ys,L1,rfl,h1,h2,h3,h4,h5⟩:=ow.inv
   refine ⟨D,rfl,ys,.inl ⟨SqL.of h1,fun l hl'=>?_⟩⟩
   have s3:=Yd.upd_new hl' (HO.tup ys)
   exact q _ (.tuple ds) L1 _ ((s1.trans s2).trans s3) (.tup Yc h2 (h3.vl.keep s3)) (fun a ha=>s1.free (h3.new a ha)) hb (by simp [PyData.depth])
 | tuple ds =>
  have hdd:PyData.depth (.tuple ds)=PyData.depthAll ds+1:=by simp [PyData.depth]
  refine Yq (by simp [isL]) ⟨_,rfl,_,ty,true,rfl,Y3 rfl (WM hv1 rfl rfl (fun i y e H' he hy sm R r=>?_) fun D H2 L s2 ow=>?_)⟩
  ·have:=Yx (List.mem_of_getElem? he)
   walk_at "rd"
   exact cp hy (by omega) r
  ·exact q _ (.list ds) L _ (s1.trans s2) ow.vl (fun a ha=>s1.free (ow.new a ha)) hb (by simp [PyData.depth])
 | bool b =>
  cases hv1.ibl
  refine Yq (by simp [isL]) ⟨_,rfl,_,ty,false,rfl,Yq (by decide) ⟨_,rfl,_,ty,true,rfl,Y3 rfl (.inr ⟨b,rfl,q _ (.int _) [] _ s1 (.int _) (fun a h=>by cases h) (VY (by cases b<;>decide)) (by simp [PyData.depth])⟩)⟩⟩
 | str x =>
  obtain ⟨rfl,o⟩:=hv1.istr
  have hx5:x.length≤5:=hsm
  have ha1:(Str.ofString "a").length=1:=by decide +kernel
  refine Yq (by simp [isL]) ⟨_,rfl,_,ty,false,rfl,Yq (by decide) ⟨_,rfl,_,ty,false,rfl,Yq (by decide) ⟨_,rfl,_,ty,true,rfl,Y3 rfl ⟨x,rfl,by rw [ha1];exact few (by omega),q _ (.str _) [] _ s1 (.str _ (U6 o (by decide +kernel))) (fun a h=>by cases h) ?_ (by simp [PyData.depth])⟩⟩⟩⟩
  show (x++Str.ofString "a").length≤64
  rw [VI,ha1]
  omega
 | none =>
  cases YbW hv1
  exact Yq (by simp [isL]) ⟨_,rfl,_,ty,false,rfl,Yq (by decide) ⟨_,rfl,_,ty,false,rfl,Yq (by decide) ⟨_,rfl,_,ty,false,rfl,Yq (by decide) (Y3 rfl (q _ (.bool false) [] _ s1 (.bl _) (fun a h=>by cases h) trivial (by simp [PyData.depth])))⟩⟩⟩
 | int i =>
  cases hv1.iint
  have hi:I45 i:=hsm
  have q1:Q (.int (i+1)) H1:=q _ (.int _) [] _ s1 (.int _) (fun a h=>by cases h) (Yev hi) (by simp [PyData.depth])
  exact Yq (by simp [isL]) ⟨_,rfl,_,ty,false,rfl,Yq (by decide) ⟨_,rfl,_,ty,false,rfl,Yq (by decide) ⟨_,rfl,_,ty,false,rfl,Yq (by decide) (Yq (by intro z;cases z) ⟨rfl,YV (fun c=>⟨by decide,YV (fun c=>q _ (.bool true) [] _ s1 (.bl _) (fun a h=>by cases h) trivial (by simp [PyData.depth])) fun c=>⟨i,rfl,q1⟩⟩) fun c=>⟨i,rfl,q1⟩⟩)⟩⟩⟩
 | dict xs=>obtain ⟨L,h⟩:=hv;cases h
def YdS:Sp:=fun vs H Q _=>∃ (b c:Bool),vs=[.bl b,.bl c]∧Q (.bl (decide (b=c))) H
theorem YcN {Z0 Z1:Addr} {c_part_told P_part_told:Addr} {c_judge_of P_judge_of:Addr} (R:g.Raw "_law_is" "_law_is" VW ["_law_found","_law_due"]) (b_bool:g.mg "bool"=none) (Z2:g.mg "isinstance"=none):g.Fn (1) "_law_is" ["_law_found","_law_due"] (YdS):=by
 refine R.fn YcB (fun vs H Q E h=>by obtain ⟨b,c,rfl,q⟩:=h;rfl) fun f_ cdv A outer s H vs Q E hr h=>?_
 obtain ⟨b,c,rfl,q⟩:=h
 refine ⟨_,(@Yf _ _ _ (@Yj _ _ _ _ (@Y8 _ _ _ _ _ _ _ (@YE _ _ _ _ _ _ _ _ _ _ Z2 Yt (@Ya _ _ _ _ _ (pv 0) (@Ya _ _ _ _ _ (@YJ _ _ _ _ ("bool") b_bool (by decide +kernel) (by rfl) (by rfl) (by decide) (by decide)) Yb (by rfl)) (by rfl)) (by decide +kernel) (by rfl) (by rfl) (by decide) (by decide) (by rfl) (by rfl)) (@Xc _ _ _ _ _ (@Xu _ _ _ _ _ _ _ _ YS (pv 0) (pv 1) (Yp _)))))),?_⟩
 walk_at "rd"
 exact ⟨_,rfl,_,.bl b,true,rfl,Y3 rfl ⟨UQ _ _,q⟩⟩
def W3 (d:PyData):Bool:=match Yn d with
 | some (.int i :: .int j::_)=>decide (i<j)
 | _=>false
def Qe:Sp:=fun vs H Q _=>∃ (v:V) (d:PyData),vs=[v]∧DV H v d∧∀ H',Yd H H'→Q (.bl (W3 d)) H'
theorem X1 {g:Gx} {v:V} {σ:St} {H:Hp} {Q:VK} {x:PyData} {ds:List PyData} {n i:Nat} {e:PyData} (hv:DV H v x) (hx:Yn x=some ds) (h0:σ[i]?=some (some v)) (he:ds[n]?=some e) (q:∀ y,DV H y e→Q y H):UC (tOp (Yby g.K) (Xs i) (tC (V.int n))) (tOp (Ybz g.K) (Xs i) (tC (V.int n))) σ H Q:=by
 have go:∀ {vs:List V},DVs H vs ds→∃ y,vs[n]?=some y∧DV H y e:=fun {vs} h=>by
  have hl:=h.length
  have hlt:=(List.getElem?_eq_some_iff.mp he).1
  have hu:vs[n]?=some (vs[n]'(by omega)):=List.getElem?_eq_getElem _
  obtain ⟨d,e1,e2⟩:=h.at hu
  rw [he] at e1
  cases e1
  exact ⟨_,hu,e2⟩
 cases x with
 | list es =>
  cases hx
  obtain ⟨a,vs,rfl,h,hl,hds⟩:=hv.ilst
  obtain ⟨y,hy,hd⟩:=go hds
  exact .inl ⟨_,h0,_,_,_,_,rfl,rfl,SqL.of h,XJ hy,q y hd⟩
 | tuple es =>
  cases hx
  obtain ⟨a,vs,rfl,h,hl,hds⟩:=hv.itup
  obtain ⟨y,hy,hd⟩:=go hds
  exact .inr ⟨_,h0,_,_,_,_,rfl,rfl,SqT.of h,XJ hy,q y hd⟩
 | _=>cases hx
theorem Qn {k:Nat} {Z0 Z1:Addr} {c_part_told P_part_told:Addr} {c_judge_of P_judge_of:Addr} (R:g.Raw "_law_rising" "_law_rising" Z0k ["_law_thing_here"]) (ZU:g.Fn k "_law_whole" ["_law_thing_here"] (Y2 isI)) (Z2:g.mg "isinstance"=none) (b_len:g.mg "len"=none) (b_list:g.mg "list"=none) (Z3:g.mg "tuple"=none):g.Fn (k+1) "_law_rising" ["_law_thing_here"] (Qe):=by
 refine R.fn Qm (fun vs H Q E h=>by obtain ⟨v,d,rfl,hv,q⟩:=h;rfl) fun f_ cdv A outer s H vs Q E hr h=>?_
 obtain ⟨v,d,rfl,hv,q⟩:=h
 refine ⟨_,(@Ye _ _ _ _ _ (@Yr _ _ _ _ _ _ _ _ (@W4 _ _ _ _ _ _ _ (@Xt _ _ _ _ (@YH _ _ _ (@YE _ _ _ _ _ _ _ _ _ _ Z2 Xg (@Ya _ _ _ _ _ (pv 0) (@Ya _ _ _ _ _ (@YN _ _ _ _ _ (@Ya _ _ _ _ _ (@YJ _ _ _ _ ("list") b_list (by decide +kernel) (by rfl) (by rfl) (by decide) (by decide)) (@Ya _ _ _ _ _ (@YJ _ _ _ _ ("tuple") Z3 (by decide +kernel) (by rfl) (by rfl) (by decide) (by decide)) Yb (by rfl)) (by rfl))) Yb (YF _ _ _ _ _)) (by rfl)) (by decide +kernel) (by rfl) (by rfl) (by decide) (by decide) (by rfl) (by rfl)) (by intro _;rfl))) (@WB _ _ _ _ (@Ys _ _ _ _ _ _ _ _ V6 (@YE _ _ _ _ _ _ _ _ _ _ b_len Y5 (@Ya _ _ _ _ _ (pv 0) Yb (by rfl)) (by decide +kernel) (by rfl) (by rfl) (by decide) (by decide) (by rfl) (by rfl)) Yg (Yp _)))).pt (@Yf _ _ _ (@Yj _ _ _ _ Y4)) Yk) (@Yf _ _ _ (@Yj _ _ _ _ (@Y8 _ _ _ _ _ _ _ (@Yo _ _ _ _ _ _ _ _ _ _ _ _ ZU hr (@Ya _ _ _ _ _ (@Xn _ _ _ _ (@YC _ _ _ _ _ _ _ Xd (pv 0) Yg (fun _ _=>rfl)) (@YC _ _ _ _ _ _ _ YO (pv 0) Yg (fun _ _=>rfl))) Yb (by rfl)) (by omega) (by rfl) (by rfl) (by decide) (by rfl) (by rfl)) (@Y8 _ _ _ _ _ _ _ (@Yo _ _ _ _ _ _ _ _ _ _ _ _ ZU hr (@Ya _ _ _ _ _ (@Xn _ _ _ _ (@YC _ _ _ _ _ _ _ Xd (pv 0) Yg (fun _ _=>rfl)) (@YC _ _ _ _ _ _ _ YO (pv 0) Yg (fun _ _=>rfl))) Yb (by rfl)) (by omega) (by rfl) (by rfl) (by decide) (by rfl) (by rfl)) (@Xc _ _ _ _ _ (@Xu _ _ _ _ _ _ _ _ V6 (@Xn _ _ _ _ (@YC _ _ _ _ _ _ _ Xd (pv 0) Yg (fun _ _=>rfl)) (@YC _ _ _ _ _ _ _ YO (pv 0) Yg (fun _ _=>rfl))) (@Xn _ _ _ _ (@YC _ _ _ _ _ _ _ Xd (pv 0) Yg (fun _ _=>rfl)) (@YC _ _ _ _ _ _ _ YO (pv 0) Yg (fun _ _=>rfl))) (Yp _)))))))),?_⟩
 walk_at "rd"
 refine ⟨by decide,fun p hp=>⟨["list","tuple"],Yc,?_⟩⟩
 have s1:=Yd.upd_new hp (HO.tup [V.ty "list",V.ty "tuple"])
 generalize upd H p (HO.tup [V.ty "list",V.ty "tuple"])=H1 at s1 ⊢
 have hv1:=hv.keep s1
 have q1:=q _ s1
 refine ⟨_,hv1.ty,_,Us d,YV (fun c1=>?_) fun c1=>?_⟩
 ·have e:Yn d=none:=by simpa [Xj] using c1
  simp only [W3,e] at q1
  exact q1
 ·obtain ⟨ds,hds⟩:=Option.isSome_iff_exists.mp (show (Yn d).isSome=true by simpa [Xj,Option.isSome_iff_ne_none] using c1)
  obtain ⟨p1,vs,hp1,hsq,hvl⟩:=Qd (K:=g.K) hv1 hds
  simp only [W3,hds] at q1
  refine ⟨p1,hp1,vs,hsq,YV (fun c2=>?_) fun c2=>?_⟩
  ·match ds,hvl with
   | [],_=>exact q1
   | [x],_=>cases x<;>exact q1
   | x::y::r,hvl=>simp at hvl;omega
  ·match ds,hvl,hds,q1 with
   | [],hvl,_,_=>simp at hvl;simp [hvl] at c2
   | [x],hvl,_,_=>simp at hvl;simp [hvl] at c2
   | x::y::r,_,hds,q1 =>
    refine X1 (n:=0) hv1 hds rfl rfl fun u hu=>⟨u,x,rfl,hu,_,rfl,YV (fun c3=>?_) fun c3=>?_⟩
    ·obtain ⟨i,rfl⟩:=Wz c3
     refine X1 (n:=1) hv1 hds rfl rfl fun w hw=>⟨w,y,rfl,hw,_,rfl,YV (fun c4=>?_) fun c4=>?_⟩
     ·obtain ⟨j,rfl⟩:=Wz c4
      refine X1 (n:=0) hv1 hds rfl rfl fun u hu=>X1 (n:=1) hv1 hds rfl rfl fun w hw=>⟨i,hu.iint,j,hw.iint,q1⟩
     ·cases y<;>first | exact q1 | exact absurd rfl c4
    ·cases x<;>first | (cases y<;>exact q1) | exact absurd rfl c3
theorem Vr {K:PySem.W.Frag} {H:Hp} {a:Addr} {ns:List Int} (zs:List Int) {k:Nat} (hk:k<zs.length):∃ i,(ns.map V.int++zs.map V.int)[k]?=some (.int i):=by
 by_cases c:k<ns.length
 ·exact ⟨ns[k],by rw [List.getElem?_append_left (by simpa using c),List.getElem?_map,List.getElem?_eq_getElem c];rfl⟩
 ·rw [List.getElem?_append_right (by simpa using c),List.getElem?_map]
  have h2:k - ns.length<zs.length:=by omega
  exact ⟨zs[k - ns.length],by rw [List.length_map,List.getElem?_eq_getElem h2];rfl⟩
theorem Yau {K:PySem.W.Frag} {H0:Hp} {a p:Addr} {ns zs:List Int} {R:VK} (hX:SqX K H0 a (ns.map V.int)) (hl:ns.length≤63) (hp:H0 p=none) (hz:zs.length≤10) (r:∀ q H1,Yd H0 H1→SqL K H1 q (ns.map V.int++zs.map V.int)→R (.ref q) H1):YdM K (.ref a) (.ref p) (upd H0 p (.lst (zs.map V.int))) R :=
 ⟨a,p,_,_,rfl,rfl,hX.keep (.upd_new hp _),.of Yc,few (by simp;omega),fun q hq=>r q _ ((Yd.upd_new hp _).trans (.upd_new hq _)) (SqL.of Yc)⟩
theorem Ydv {H H0:Hp} {c:Addr} {o:HO} (s:Yd H H0) (h:H0 c=none):Yd H (hd c (upd H0 c o)):=fun b x e=>by
 have n:b≠c:=fun z=>by have:=s _ _ e;rw [z,h] at this;cases this
 rw [XN n,Yh n]
 exact s _ _ e
theorem Ve.keep {H H':Hp} {P:Addr} (h:Ve H P) (s:Yd H H'):Ve H' P:=by
 rcases h with h | ⟨c1,h,h1⟩
 ·exact .inl (s _ _ h)
 ·exact .inr ⟨c1,s _ _ h,s _ _ h1⟩
theorem Ybm {H:Hp} {p q:Addr} {v:V} {d:PyData} (hp:H p=some (.lst [v])) (hq:H q=some (.tup [v])) (hv:DV H v d) (hb:L2.hb d) (j:Nat):∃ y e,atI [V.ref p,V.ref q] ((j:Int)%2)=some y∧DV H y e∧L2.hb e∧e.depth≤d.depth+1:=by
 rcases (show (j:Int)%2=0∨(j:Int)%2=1 by omega) with e | e
 ·rw [e];exact ⟨_,.list [d],rfl,.lst hp (by simp) (.cons hv .nil),⟨by simp,hb,trivial⟩,by simp [PyData.depth,PyData.depthAll]⟩
 ·rw [e];exact ⟨_,.tuple [d],rfl,.tup hq (by simp) (.cons hv .nil),⟨by simp,hb,trivial⟩,by simp [PyData.depth,PyData.depthAll]⟩
theorem VC {H H':Hp} {P:Addr} {ps:Array Value} (hk:∀ a o,a≠P→H a=some o→H' a=some o) (hP:H P=some (.tbl ps)):Kt H H':=fun c o n e=>hk c o (Wj e hP (n _)) e
theorem Ve.tbl {H:Hp} {P:Addr} (h:Ve H P):∃ ps,H P=some (.tbl ps):=by
 rcases h with h | ⟨c,h,_⟩
 ·exact ⟨_,h⟩
 ·exact ⟨_,h⟩
theorem Tb.butJ {H H':Hp} {P PJ:Addr} {ps:Array Value} (h:Tb P H) (hk:∀ a o,a≠PJ→H a=some o→H' a=some o) (hP:H PJ=some (.tbl ps)) (n:P≠PJ):Tb P H':=by
 rcases h with h | ⟨c,h,h1⟩
 ·exact .inl (hk _ _ n h)
 ·exact .inr ⟨c,hk _ _ n h,hk _ _ (Wj h1 hP (by intro z;cases z)) h1⟩
theorem XC {pd:PyData} {xs:List PyData} (h:Yn pd=some xs) (k:Nat):tell (.part .here k) pd=match xs[k]? with | some x => .ok x | none => .error "part":=by
 have e:(fun x=>(Yn x).bind fun xs=>if 0≤(k:Int) then xs[(k:Int).toNat]? else none) pd=xs[k]?:=by
  show (Yn pd).bind _=_
  rw [h]
  show (if 0≤(k:Int) then xs[(k:Int).toNat]? else none)=_
  rw [if_pos (by omega),Int.toNat_natCast]
 cases c:xs[k]? with
 | some x=>rw [c] at e;simp only [tell];rw [Xy e]
 | none=>rw [c] at e;simp only [tell];rw [Xf e]
def Wo:PyData→PyData→Bool
 | .int i,.int j=>decide (i<j)
 | _,_=>false
abbrev VD:Tm := .same (.part .here 0) (.part .here 1)
abbrev Ut:Tm := .less (.part .here 0) (.part .here 1)
abbrev P0:Tm := .part .here ((0:Nat):Int)
abbrev P1:Tm := .part .here ((1:Nat):Int)
theorem YcO {pd x y:PyData} (h:Yn pd=some [x,y]):says VD pd=sm x y:=by
 have h0:tell P0 pd = .ok x:=XC h 0
 have h1:tell P1 pd = .ok y:=XC h 1
 refine W0 (e := .bool (sm x y)) (by show sameRes (tell P0 pd) (tell P1 pd)=_;rw [h0,h1];rfl) _ ?_
 cases sm x y<;>simp
theorem Ydw {pd x y:PyData} (h:Yn pd=some [x,y]):says (.not VD) pd = !sm x y:=by
 have h0:tell P0 pd = .ok x:=XC h 0
 have h1:tell P1 pd = .ok y:=XC h 1
 refine W0 (e := .bool (!sm x y)) (by show (take "not" (sameRes (tell P0 pd) (tell P1 pd)) Xh).map _=_;rw [h0,h1];rfl) _ ?_
 cases sm x y<;>simp
theorem Ydx (pd:PyData):says (.sum .here) pd=false:=by
 cases e:tell (.sum .here) pd with
 | error m=>exact XB e
 | ok x =>
  obtain ⟨n,_,rfl⟩:=X7 e
  exact W0 e false (by simp)
abbrev YdT (a b:Say):Say:=Yaj "less" (fun i j => .bool (decide (i<j))) a b
theorem Qf {pd:PyData} {xs:List PyData} (h:Yn pd=some xs):says Ut pd=match xs with | x::y::_=>Wo x y | _=>false:=by
 have e:tell Ut pd=YdT (tell P0 pd) (tell P1 pd):=rfl
 cases xs with
 | nil =>
  have g0:tell P0 pd = .error "part":=XC h 0
  exact XB (m:="part") (by rw [e,g0];rfl)
 | cons x r =>
  have g0:tell P0 pd = .ok x:=XC h 0
  cases r with
  | nil =>
   have g1:tell P1 pd = .error "part":=XC h 1
   cases x with
   | int i=>exact XB (m:="part") (by rw [e,g0,g1];rfl)
   | _=>exact XB (m:="less") (by rw [e,g0];rfl)
  | cons y r =>
   have g1:tell P1 pd = .ok y:=XC h 1
   cases x with
   | int i =>
    cases y with
    | int j =>
     refine W0 (e := .bool (decide (i<j))) (by rw [e,g0,g1];rfl) _ ?_
     show (decide (i<j))=true↔_
     cases decide (i<j)<;>simp
    | _=>exact XB (m:="less") (by rw [e,g0,g1];rfl)
   | _=>exact XB (m:="less") (by rw [e,g0];rfl)
theorem YcP {pd:PyData} (h:Yn pd=none):says Ut pd=false:=by
 have e:(fun x=>(Yn x).bind fun xs=>if 0≤((0:Nat):Int) then xs[((0:Nat):Int).toNat]? else none) pd=none:=by show (Yn pd).bind _=_;rw [h];rfl
 have h0:tell P0 pd = .error "part":=by simp only [tell];rw [Xf e]
 exact XB (m:="part") (by show YdT (tell P0 pd) (tell P1 pd)=_;rw [h0];rfl)
theorem YaK (d:PyData):says Ut d=W3 d:=by
 cases e:Yn d with
 | none=>rw [YcP e];simp only [W3,e]
 | some xs =>
  rw [Qf e]
  simp only [W3,e]
  match xs with
  | []=>rfl
  | [x]=>cases x<;>rfl
  | x::y::r=>cases x<;>cases y<;>rfl
theorem Yav {d:PyData}:says VD (.list [d])=false∧says (.not VD) (.list [d])=false:=by
 have h0:tell P0 (.list [d]) = .ok d:=XC (xs:=[d]) rfl 0
 have h1:tell P1 (.list [d]) = .error "part":=XC (xs:=[d]) rfl 1
 exact ⟨XB (m:="part") (by show sameRes (tell P0 (.list [d])) (tell P1 (.list [d]))=_;rw [h0,h1];rfl),XB (m:="part") (by show (take "not" (sameRes (tell P0 (.list [d])) (tell P1 (.list [d]))) Xh).map _=_;rw [h0,h1];rfl)⟩
theorem Vs {g:Gx} {P f:Addr} {H:Hp} {t:Tm} {i k:Nat} {σ:St} {v:V} {d:PyData} {Q:VK} (J:Xl g P H f t) (hf:σ[i]?=some (some (.ref f))) (hv:σ[k]?=some (some v)) (b:Tb P H) (dv:DV H v d) (hb:L2.hb d) (dp:d.depth≤60) (td:t.dep≤7) (q:∀ H',Kt H H'→Tb P H'→Q (.bl (says t d)) H'):QU g 170 i (Wt (Xs k) Vk) σ H Q:=by
 obtain ⟨fd,sp,F,B,h1,h2⟩:=J
 exact ⟨f,fd,_,sp,hf,F,B,h1,v,hv,h2 H v d Q (.refl _) b dv ⟨0,Qw hb,by omega⟩ dp q⟩
theorem YcQ {g:Gx} {P f:Addr} {H:Hp} {t:Tm} {i k:Nat} {σ:St} {v:V} {d:PyData} {Q:VK} (J:Xl g P H f t) (hf:σ[i]?=some (some (.ref f))) (hv:σ[k]?=some (some v)) (b:Tb P H) (dv:DV H v d) (hb:L2.hb d) (dp:d.depth+1≤60) (td:t.dep≤7) (q:∀ H',Kt H H'→Tb P H'→Q (.bl (says t (.list [d]))) H'):QU g 170 i (Wt (tLst (Wt (Xs k) Vk)) Vk) σ H Q:=by
 obtain ⟨fd,sp,F,B,h1,h2⟩:=J
 refine ⟨f,fd,_,sp,hf,F,B,h1,v,hv,few (by simp),fun p hp=>?_⟩
 have s:=Yd.upd_new hp (HO.lst [v])
 exact h2 _ (.ref p) (.list [d]) Q (Y6 s) (b.keep s) (.lst Yc (by simp) (.cons (dv.keep s) .nil)) ⟨0,⟨by simp,hb,trivial⟩,by omega⟩ (by simp only [PyData.depth,PyData.depthAll];omega) fun H' k' b'=>q H' ((Y6 s).trans k') b'
def PD (H:Hp) (d1 d2:PyData) (u:V):Prop:=∃ (t p:Addr) (pd x y:PyData) (bb:Bool),u = .ref t∧H t=some (.tup [.ref p,.bl bb])∧DV H (.ref p) pd∧Yn pd=some [x,y]∧bb=sm x y∧L2.hb x∧L2.hb y∧x.depth≤58∧y.depth≤58∧((isI d1&&isI d2)=false→Wo x y=false)∧((isI d1&&isI d2)=true→isI x=true∧isI y=true)
theorem PD.kt {H H':Hp} {d1 d2:PyData} {u:V} (h:PD H d1 d2 u) (k:Kt H H'):PD H' d1 d2 u:=by
 obtain ⟨t,p,pd,x,y,bb,h1,h2,h3,h4⟩:=h
 exact ⟨t,p,pd,x,y,bb,h1,k.tup h2,h3.kt k,h4⟩
theorem YcR (d:PyData):Wo d d=false:=by cases d<;>simp [Wo]
theorem Ybn {x y:PyData} (h:(isI x&&isI y)=false):Wo x y=false:=by cases x<;>cases y<;>first | rfl | (simp [isI] at h)
theorem pd_hb {pd x y:PyData} (h:Yn pd=some [x,y]) (h1:L2.hb x) (h2:L2.hb y) (hx:x.depth≤58) (hy:y.depth≤58):L2.hb pd∧pd.depth≤60:=by
 refine ⟨?_,?_⟩
 ·cases pd<;>cases h<;>exact ⟨by simp,h1,h2,trivial⟩
 ·rw [Qc h];simp only [PyData.depthAll];omega
theorem Ydy {k:Nat} {Z0 Z1:Addr} {c_part_told P_part_told:Addr} {c_judge_of P_judge_of:Addr} (F_same:g.Fn k "same" ["one","other"] (Wg g.K 122)) (Z0e:g.Fn k "judge_of" ["term"] (Z19 g P_part_told P_judge_of Z1)) (Z0a:g.Fn k "_law_thing" ["_law_cells","_law_left"] (Z0K 4)) (Z0z:g.Fn k "_law_alike" ["_law_one","_law_other_here"] (Z0m 62)) (Z0A:g.Fn k "_law_other" ["_law_thing_here","_law_cell"] (Z0L 5)) (Ze:g.Fn k "_law_copy" ["_law_thing_here"] (Wi 62)) (ZU:g.Fn k "_law_whole" ["_law_thing_here"] (Y2 isI)) (Zh:g.Fn k "_law_is" ["_law_found","_law_due"] (YdS)) (F_law_rising:g.Fn k "_law_rising" ["_law_thing_here"] (Qe)) (hkc:170≤k) (b_list:g.mg "list"=none) (Zl:g.mg "range"=none) (hnd:([P_part_told,P_judge_of]:List Addr).Nodup):QO g k ["_law_script","_law_way","_law_cells","_law_one","_law_other_here","_law_many","_law_k","_law_due","_law_here","_law_first","_law_second","_law_alike_here","_law_less","_law_added","_law_other_way","_law_both","_law_pair","_law_truth"] "law" Qx (Vd g.K [("part_told",c_part_told,P_part_told),("judge_of",c_judge_of,P_judge_of)]):=by
 refine fun f_ cdv A outer s H vs Q E hr h=>?_
 obtain ⟨a,ns,rfl,hX,hl,ht,hQ⟩:=h
 refine ⟨_,(@Ye _ _ _ _ _ (@YL _ _ (1) _ _ _ _ YU.nd rfl (.inl rfl) (@YB _ _ _ _ _ _ _ _ Y9 (@YC _ _ _ _ _ _ _ Xd (@YB _ _ _ _ _ _ _ _ UB (pv 0) (@Xv _ _ _ _ (@Ya _ _ _ _ _ Yg Yb (by rfl)))) Yg (fun _ _=>rfl)) Yg) (by rfl) (by first | exact .inl rfl | exact .inr rfl | assumption)) (@Ye _ _ _ _ _ (@YL _ _ (2) _ _ _ _ YU.nd rfl (.inl rfl) (@Vv _ _ _ _ _ _ _ _ _ _ b_list QL (@Ya _ _ _ _ _ (@YcX _ _ _ _ _ _ _ _ _ _ Yd1 (pv 0) (@YaR _ _ _ Yg) (@YaR _ _ _ Yg)) Yb (by rfl)) (by decide +kernel) (by rfl) (by rfl) (by decide) (by decide) (by rfl) (by rfl)) (by rfl) (by first | exact .inl rfl | exact .inr rfl | assumption)) (@Ye _ _ _ _ _ (@YL _ _ (3) _ _ _ _ YU.nd rfl (.inl rfl) (@Yo _ _ _ _ _ _ _ _ _ _ _ _ Z0a hr (@Ya _ _ _ _ _ (pv 2) (@Ya _ _ _ _ _ Yg Yb (by rfl)) (by rfl)) (by omega) (by rfl) (by rfl) (by decide) (by rfl) (by rfl)) (by rfl) (by first | exact .inl rfl | exact .inr rfl | assumption)) (@Ye _ _ _ _ _ (@YL _ _ (4) _ _ _ _ YU.nd rfl (.inl rfl) (@Yo _ _ _ _ _ _ _ _ _ _ _ _ Z0a hr (@Ya _ _ _ _ _ (pv 2) (@Ya _ _ _ _ _ Yg Yb (by rfl)) (by rfl)) (by omega) (by rfl) (by rfl) (by decide) (by rfl) (by rfl)) (by rfl) (by first | exact .inl rfl | exact .inr rfl | assumption)) (@Ye _ _ _ _ _ (@Yr _ _ _ _ _ _ _ _ (@Ys _ _ _ _ _ _ _ _ Ybu (pv 1) Yg (Yp _)) (@Yf _ _ _ (@YL _ _ (4) _ _ _ _ YU.nd rfl (.inl rfl) (@Yo _ _ _ _ _ _ _ _ _ _ _ _ Ze hr (@Ya _ _ _ _ _ (pv 3) Yb (by rfl)) (by omega) (by rfl) (by rfl) (by decide) (by rfl) (by rfl)) (by rfl) (by first | exact .inl rfl | exact .inr rfl | assumption))) Yk) (@Ye _ _ _ _ _ (@Yr _ _ _ _ _ _ _ _ (@Ys _ _ _ _ _ _ _ _ YS (pv 1) Yg (Yp _)) (@Yf _ _ _ (@YL _ _ (4) _ _ _ _ YU.nd rfl (.inl rfl) (@Yo _ _ _ _ _ _ _ _ _ _ _ _ Z0A hr (@Ya _ _ _ _ _ (pv 3) (@Ya _ _ _ _ _ (@YB _ _ _ _ _ _ _ _ Y9 (@YC _ _ _ _ _ _ _ Xd (@YB _ _ _ _ _ _ _ _ UB (pv 0) (@Xv _ _ _ _ (@Ya _ _ _ _ _ Yg (@Ya _ _ _ _ _ Yg Yb (by rfl)) (by rfl)))) Yg (fun _ _=>rfl)) (@YB _ _ _ _ _ _ _ _ V5 Yg Yg)) Yb (by rfl)) (by rfl)) (by omega) (by rfl) (by rfl) (by decide) (by rfl) (by rfl)) (by rfl) (by first | exact .inl rfl | exact .inr rfl | assumption))) Yk) (@Ye _ _ _ _ _ (@YL _ _ (5) _ _ _ _ YU.nd rfl (.inl rfl) (@YB _ _ _ _ _ _ _ _ Wb (@YC _ _ _ _ _ _ _ Xd (@YB _ _ _ _ _ _ _ _ UB (pv 0) (@Xv _ _ _ _ (@Ya _ _ _ _ _ Yg Yb (by rfl)))) Yg (fun _ _=>rfl)) Yg) (by rfl) (by first | exact .inl rfl | exact .inr rfl | assumption)) (@Ye _ _ _ _ _ (@Yr _ _ _ _ _ _ _ _ (@Ys _ _ _ _ _ _ _ _ YS (@YB _ _ _ _ _ _ _ _ Y9 (pv 5) Yg) Yg (Yp _)) (@Yf _ _ _ (@V2 _ _ _ _ _ _ _ _ PassesOwn.never rfl (@Vi _ _ _ _ _ _ rfl Zl (@Ya _ _ _ _ _ (@YB _ _ _ _ _ _ _ _ Y9 (@YB _ _ _ _ _ _ _ _ Wb (pv 5) Yg) Yg) Yb (by rfl)) (by rfl)) (@Y0 _ _ (6) _ YU.nd rfl (.inl rfl) (by first | exact .inl rfl | exact .inr rfl | assumption)) (@Ye _ _ _ _ _ (@YL _ _ (3) _ _ _ _ YU.nd rfl (.inl rfl) (@YC _ _ _ _ _ _ _ Xd (@Xv _ _ _ _ (@Ya _ _ _ _ _ (@Xv _ _ _ _ (@Ya _ _ _ _ _ (pv 3) Yb (by rfl))) (@Ya _ _ _ _ _ (@YN _ _ _ _ _ (@Ya _ _ _ _ _ (pv 3) Yb (by rfl))) Yb (YF _ _ _ _ _)) (Wc _ _ _ _))) (@YB _ _ _ _ _ _ _ _ Y9 (pv 6) Yg) (fun _ _=>rfl)) (by rfl) (by first | exact .inl rfl | exact .inr rfl | assumption)) (@Yf _ _ _ (@YL _ _ (4) _ _ _ _ YU.nd rfl (.inl rfl) (@YC _ _ _ _ _ _ _ Xd (@Xv _ _ _ _ (@Ya _ _ _ _ _ (@Xv _ _ _ _ (@Ya _ _ _ _ _ (pv 4) Yb (by rfl))) (@Ya _ _ _ _ _ (@YN _ _ _ _ _ (@Ya _ _ _ _ _ (pv 4) Yb (by rfl))) Yb (YF _ _ _ _ _)) (Wc _ _ _ _))) (@YB _ _ _ _ _ _ _ _ Y9 (pv 6) Yg) (fun _ _=>rfl)) (by rfl) (by first | exact .inl rfl | exact .inr rfl | assumption)))) (by intro _;rfl))) Yk) (@Ye _ _ _ _ _ (@YL _ _ (7) _ _ _ _ YU.nd rfl (.inl rfl) (@Yo _ _ _ _ _ _ _ _ _ _ _ _ Z0z hr (@Ya _ _ _ _ _ (pv 3) (@Ya _ _ _ _ _ (pv 4) Yb (by rfl)) (by rfl)) (by omega) (by rfl) (by rfl) (by decide) (by rfl) (by rfl)) (by rfl) (by first | exact .inl rfl | exact .inr rfl | assumption)) (@Ye _ _ _ _ _ (@Yr _ _ _ _ _ _ _ _ (@W4 _ _ _ _ _ _ _ (@Xt _ _ _ _ (@YH _ _ _ (@Yo _ _ _ _ _ _ _ _ _ _ _ _ Zh hr (@Ya _ _ _ _ _ (@Yo _ _ _ _ _ _ _ _ _ _ _ _ F_same hr (@Ya _ _ _ _ _ (pv 3) (@Ya _ _ _ _ _ (pv 4) Yb (by rfl)) (by rfl)) (by omega) (by rfl) (by rfl) (by decide) (by rfl) (by rfl)) (@Ya _ _ _ _ _ (pv 7) Yb (by rfl)) (by rfl)) (by omega) (by rfl) (by rfl) (by decide) (by rfl) (by rfl)) (by intro _;rfl))) (@WB _ _ _ _ (@Xt _ _ _ _ (@YH _ _ _ (@Yo _ _ _ _ _ _ _ _ _ _ _ _ Zh hr (@Ya _ _ _ _ _ (@Yo _ _ _ _ _ _ _ _ _ _ _ _ F_same hr (@Ya _ _ _ _ _ (pv 4) (@Ya _ _ _ _ _ (pv 3) Yb (by rfl)) (by rfl)) (by omega) (by rfl) (by rfl) (by decide) (by rfl) (by rfl)) (@Ya _ _ _ _ _ (pv 7) Yb (by rfl)) (by rfl)) (by omega) (by rfl) (by rfl) (by decide) (by rfl) (by rfl)) (by intro _;rfl))))).pt (@Yf _ _ _ (@Yj _ _ _ _ Y4)) Yk) (@Ye _ _ _ _ _ (@Yr _ _ _ _ _ _ _ _ (@W4 _ _ _ _ _ _ _ (@Xt _ _ _ _ (@YH _ _ _ (@Yo _ _ _ _ _ _ _ _ _ _ _ _ Zh hr (@Ya _ _ _ _ _ (@Yo _ _ _ _ _ _ _ _ _ _ _ _ F_same hr (@Ya _ _ _ _ _ (pv 3) (@Ya _ _ _ _ _ (pv 3) Yb (by rfl)) (by rfl)) (by omega) (by rfl) (by rfl) (by decide) (by rfl) (by rfl)) (@Ya _ _ _ _ _ Y4 Yb (by rfl)) (by rfl)) (by omega) (by rfl) (by rfl) (by decide) (by rfl) (by rfl)) (by intro _;rfl))) (@WB _ _ _ _ (@Xt _ _ _ _ (@YH _ _ _ (@Yo _ _ _ _ _ _ _ _ _ _ _ _ Zh hr (@Ya _ _ _ _ _ (@Yo _ _ _ _ _ _ _ _ _ _ _ _ F_same hr (@Ya _ _ _ _ _ (@Yo _ _ _ _ _ _ _ _ _ _ _ _ Ze hr (@Ya _ _ _ _ _ (pv 4) Yb (by rfl)) (by omega) (by rfl) (by rfl) (by decide) (by rfl) (by rfl)) (@Ya _ _ _ _ _ (pv 4) Yb (by rfl)) (by rfl)) (by omega) (by rfl) (by rfl) (by decide) (by rfl) (by rfl)) (@Ya _ _ _ _ _ Y4 Yb (by rfl)) (by rfl)) (by omega) (by rfl) (by rfl) (by decide) (by rfl) (by rfl)) (by intro _;rfl))))).pt (@Yf _ _ _ (@Yj _ _ _ _ Y4)) Yk) (@Ye _ _ _ _ _ (@YL _ _ (8) _ _ _ _ YU.nd rfl (.inl rfl) (@YN _ _ _ _ _ (@Ya _ _ _ _ _ Yy (@Ya _ _ _ _ _ (@YN _ _ _ _ _ Yb) Yb (YF _ _ _ _ _)) (by rfl))) (by rfl) (by first | exact .inl rfl | exact .inr rfl | assumption)) (@Ye _ _ _ _ _ (@YL _ _ (9) _ _ _ _ YU.nd rfl (.inl rfl) (@YN _ _ _ _ _ (@Ya _ _ _ _ _ Yy (@Ya _ _ _ _ _ (@YN _ _ _ _ _ (@Ya _ _ _ _ _ (pv 8) (@Ya _ _ _ _ _ Yg Yb (by rfl)) (by rfl))) Yb (YF _ _ _ _ _)) (by rfl))) (by rfl) (by first | exact .inl rfl | exact .inr rfl | assumption)) (@Ye _ _ _ _ _ (@YL _ _ (10) _ _ _ _ YU.nd rfl (.inl rfl) (@YN _ _ _ _ _ (@Ya _ _ _ _ _ Yy (@Ya _ _ _ _ _ (@YN _ _ _ _ _ (@Ya _ _ _ _ _ (pv 8) (@Ya _ _ _ _ _ Yg Yb (by rfl)) (by rfl))) Yb (YF _ _ _ _ _)) (by rfl))) (by rfl) (by first | exact .inl rfl | exact .inr rfl | assumption)) (@Ye _ _ _ _ _ (@YL _ _ (11) _ _ _ _ YU.nd rfl (.inl rfl) (@Yo _ _ _ _ _ _ _ _ _ _ _ _ Z0e hr (@Ya _ _ _ _ _ (@YN _ _ _ _ _ (@Ya _ _ _ _ _ Yy (@Ya _ _ _ _ _ (@YN _ _ _ _ _ (@Ya _ _ _ _ _ (pv 9) (@Ya _ _ _ _ _ (pv 10) Yb (by rfl)) (by rfl))) Yb (YF _ _ _ _ _)) (by rfl))) Yb (YF _ _ _ _ _)) (by omega) (by rfl) (by rfl) (by decide) (by rfl) (by rfl)) (by rfl) (by first | exact .inl rfl | exact .inr rfl | assumption)) (@Ye _ _ _ _ _ (@YL _ _ (12) _ _ _ _ YU.nd rfl (.inl rfl) (@Yo _ _ _ _ _ _ _ _ _ _ _ _ Z0e hr (@Ya _ _ _ _ _ (@YN _ _ _ _ _ (@Ya _ _ _ _ _ Yy (@Ya _ _ _ _ _ (@YN _ _ _ _ _ (@Ya _ _ _ _ _ (pv 9) (@Ya _ _ _ _ _ (pv 10) Yb (by rfl)) (by rfl))) Yb (YF _ _ _ _ _)) (by rfl))) Yb (YF _ _ _ _ _)) (by omega) (by rfl) (by rfl) (by decide) (by rfl) (by rfl)) (by rfl) (by first | exact .inl rfl | exact .inr rfl | assumption)) (@Ye _ _ _ _ _ (@YL _ _ (13) _ _ _ _ YU.nd rfl (.inl rfl) (@Yo _ _ _ _ _ _ _ _ _ _ _ _ Z0e hr (@Ya _ _ _ _ _ (@YN _ _ _ _ _ (@Ya _ _ _ _ _ Yy (@Ya _ _ _ _ _ (pv 8) Yb (by rfl)) (by rfl))) Yb (YF _ _ _ _ _)) (by omega) (by rfl) (by rfl) (by decide) (by rfl) (by rfl)) (by rfl) (by first | exact .inl rfl | exact .inr rfl | assumption)) (@Ye _ _ _ _ _ (@YL _ _ (14) _ _ _ _ YU.nd rfl (.inl rfl) (@Yo _ _ _ _ _ _ _ _ _ _ _ _ Z0e hr (@Ya _ _ _ _ _ (@YN _ _ _ _ _ (@Ya _ _ _ _ _ Yy (@Ya _ _ _ _ _ (@YN _ _ _ _ _ (@Ya _ _ _ _ _ Yy (@Ya _ _ _ _ _ (@YN _ _ _ _ _ (@Ya _ _ _ _ _ (pv 9) (@Ya _ _ _ _ _ (pv 10) Yb (by rfl)) (by rfl))) Yb (YF _ _ _ _ _)) (by rfl))) Yb (YF _ _ _ _ _)) (by rfl))) Yb (YF _ _ _ _ _)) (by omega) (by rfl) (by rfl) (by decide) (by rfl) (by rfl)) (by rfl) (by first | exact .inl rfl | exact .inr rfl | assumption)) (@Ye _ _ _ _ _ (@YL _ _ (15) _ _ _ _ YU.nd rfl (.inl rfl) (@Y8 _ _ _ _ _ _ _ (@Yo _ _ _ _ _ _ _ _ _ _ _ _ ZU hr (@Ya _ _ _ _ _ (pv 3) Yb (by rfl)) (by omega) (by rfl) (by rfl) (by decide) (by rfl) (by rfl)) (@Xc _ _ _ _ _ (@Yo _ _ _ _ _ _ _ _ _ _ _ _ ZU hr (@Ya _ _ _ _ _ (pv 4) Yb (by rfl)) (by omega) (by rfl) (by rfl) (by decide) (by rfl) (by rfl)))) (by rfl) (by first | exact .inl rfl | exact .inr rfl | assumption)) (@Ye _ _ _ _ _ (@V2 _ _ _ _ _ _ _ _ PassesOwn.never rfl (@XW _ _ _ _ (@Xv _ _ _ _ (@Ya _ _ _ _ _ (@YN _ _ _ _ _ (@Ya _ _ _ _ _ (@Xv _ _ _ _ (@Ya _ _ _ _ _ (pv 3) (@Ya _ _ _ _ _ (pv 4) Yb (by rfl)) (by rfl))) (@Ya _ _ _ _ _ (pv 7) Yb (by rfl)) (Wc _ _ _ _))) (@Ya _ _ _ _ _ (@YN _ _ _ _ _ (@Ya _ _ _ _ _ (@YN _ _ _ _ _ (@Ya _ _ _ _ _ (pv 4) (@Ya _ _ _ _ _ (pv 3) Yb (by rfl)) (by rfl))) (@Ya _ _ _ _ _ (pv 7) Yb (by rfl)) (YF _ _ _ _ _))) (@Ya _ _ _ _ _ (@YN _ _ _ _ _ (@Ya _ _ _ _ _ (@Xv _ _ _ _ (@Ya _ _ _ _ _ (pv 3) (@Ya _ _ _ _ _ (pv 3) Yb (by rfl)) (by rfl))) (@Ya _ _ _ _ _ Y4 Yb (by rfl)) (Wc _ _ _ _))) Yb (YF _ _ _ _ _)) (YF _ _ _ _ _)) (YF _ _ _ _ _)))) (@QD _ _ _ _ _ (2) rfl (@X8 _ _ _ _ _ (@Y0 _ _ (16) _ YU.nd rfl (.inl rfl) (by first | exact .inl rfl | exact .inr rfl | assumption)) (@X8 _ _ _ _ _ (@Y0 _ _ (17) _ YU.nd rfl (.inl rfl) (by first | exact .inl rfl | exact .inr rfl | assumption)) Uv (by rfl)) (by rfl)) (by rfl) (by rfl)) (@Ye _ _ _ _ _ (@Yr _ _ _ _ _ _ _ _ (@W4 _ _ _ _ _ _ _ (@Xt _ _ _ _ (@YH _ _ _ (@Yo _ _ _ _ _ _ _ _ _ _ _ _ Zh hr (@Ya _ _ _ _ _ (@XG _ (g) _ (170) _ _ _ _ _ _ 11 hr (@Ya _ _ _ _ _ (pv 16) Yb (by rfl)) (by omega) (by rfl) (by rfl) (by first | exact .inl rfl | exact .inr (.inl rfl) | exact .inr (.inr rfl)) (by decide) (by decide) (by rfl) (by rfl)) (@Ya _ _ _ _ _ (pv 17) Yb (by rfl)) (by rfl)) (by omega) (by rfl) (by rfl) (by decide) (by rfl) (by rfl)) (by intro _;rfl))) (@WB _ _ _ _ (@Xt _ _ _ _ (@YH _ _ _ (@Yo _ _ _ _ _ _ _ _ _ _ _ _ Zh hr (@Ya _ _ _ _ _ (@XG _ (g) _ (170) _ _ _ _ _ _ 14 hr (@Ya _ _ _ _ _ (pv 16) Yb (by rfl)) (by omega) (by rfl) (by rfl) (by first | exact .inl rfl | exact .inr (.inl rfl) | exact .inr (.inr rfl)) (by decide) (by decide) (by rfl) (by rfl)) (@Ya _ _ _ _ _ (@V1 _ _ _ _ (pv 17)) Yb (by rfl)) (by rfl)) (by omega) (by rfl) (by rfl) (by decide) (by rfl) (by rfl)) (by intro _;rfl))))).pt (@Yf _ _ _ (@Yj _ _ _ _ Y4)) Yk) (@Ye _ _ _ _ _ (@Yr _ _ _ _ _ _ _ _ (@W4 _ _ _ _ _ _ _ (@Xt _ _ _ _ (@YH _ _ _ (@Yo _ _ _ _ _ _ _ _ _ _ _ _ Zh hr (@Ya _ _ _ _ _ (@XG _ (g) _ (170) _ _ _ _ _ _ 13 hr (@Ya _ _ _ _ _ (pv 16) Yb (by rfl)) (by omega) (by rfl) (by rfl) (by first | exact .inl rfl | exact .inr (.inl rfl) | exact .inr (.inr rfl)) (by decide) (by decide) (by rfl) (by rfl)) (@Ya _ _ _ _ _ Y4 Yb (by rfl)) (by rfl)) (by omega) (by rfl) (by rfl) (by decide) (by rfl) (by rfl)) (by intro _;rfl))) (@WB _ _ _ _ (@Xt _ _ _ _ (@YH _ _ _ (@Yo _ _ _ _ _ _ _ _ _ _ _ _ Zh hr (@Ya _ _ _ _ _ (@XG _ (g) _ (170) _ _ _ _ _ _ 14 hr (@Ya _ _ _ _ _ (@Xv _ _ _ _ (@Ya _ _ _ _ _ (pv 3) Yb (by rfl))) Yb (Wc _ _ _ _)) (by omega) (by rfl) (by rfl) (by first | exact .inl rfl | exact .inr (.inl rfl) | exact .inr (.inr rfl)) (by decide) (by decide) (by rfl) (by rfl)) (@Ya _ _ _ _ _ Y4 Yb (by rfl)) (by rfl)) (by omega) (by rfl) (by rfl) (by decide) (by rfl) (by rfl)) (by intro _;rfl))))).pt (@Yf _ _ _ (@Yj _ _ _ _ Y4)) Yk) (@Yf _ _ _ (@Yr _ _ _ _ _ _ _ _ (@Xt _ _ _ _ (@YH _ _ _ (@Yo _ _ _ _ _ _ _ _ _ _ _ _ Zh hr (@Ya _ _ _ _ _ (@XG _ (g) _ (170) _ _ _ _ _ _ 12 hr (@Ya _ _ _ _ _ (pv 16) Yb (by rfl)) (by omega) (by rfl) (by rfl) (by first | exact .inl rfl | exact .inr (.inl rfl) | exact .inr (.inr rfl)) (by decide) (by decide) (by rfl) (by rfl)) (@Ya _ _ _ _ _ (@Y8 _ _ _ _ _ _ _ (pv 15) (@Xc _ _ _ _ _ (@Xu _ _ _ _ _ _ _ _ V6 (@Xn _ _ _ _ (@YC _ _ _ _ _ _ _ Xd (pv 16) Yg (fun _ _=>rfl)) (@YC _ _ _ _ _ _ _ YO (pv 16) Yg (fun _ _=>rfl))) (@Xn _ _ _ _ (@YC _ _ _ _ _ _ _ Xd (pv 16) Yg (fun _ _=>rfl)) (@YC _ _ _ _ _ _ _ YO (pv 16) Yg (fun _ _=>rfl))) (Yp _)))) Yb (by rfl)) (by rfl)) (by omega) (by rfl) (by rfl) (by decide) (by rfl) (by rfl)) (by intro _;rfl))) (@Yf _ _ _ (@Yj _ _ _ _ Y4)) Yk)))) (by intro _;rfl)) (@Yf _ _ _ (@Yj _ _ _ _ (@Y8 _ _ _ _ _ _ _ (@Yo _ _ _ _ _ _ _ _ _ _ _ _ Zh hr (@Ya _ _ _ _ _ (@XG _ (g) _ (170) _ _ _ _ _ _ 11 hr (@Ya _ _ _ _ _ (@Xv _ _ _ _ (@Ya _ _ _ _ _ (pv 3) Yb (by rfl))) Yb (Wc _ _ _ _)) (by omega) (by rfl) (by rfl) (by first | exact .inl rfl | exact .inr (.inl rfl) | exact .inr (.inr rfl)) (by decide) (by decide) (by rfl) (by rfl)) (@Ya _ _ _ _ _ Y4 Yb (by rfl)) (by rfl)) (by omega) (by rfl) (by rfl) (by decide) (by rfl) (by rfl)) (@Xc _ _ _ _ _ (@Yo _ _ _ _ _ _ _ _ _ _ _ _ Zh hr (@Ya _ _ _ _ _ (@XG _ (g) _ (170) _ _ _ _ _ _ 12 hr (@Ya _ _ _ _ _ (pv 3) Yb (by rfl)) (by omega) (by rfl) (by rfl) (by first | exact .inl rfl | exact .inr (.inl rfl) | exact .inr (.inr rfl)) (by decide) (by decide) (by rfl) (by rfl)) (@Ya _ _ _ _ _ (@Yo _ _ _ _ _ _ _ _ _ _ _ _ F_law_rising hr (@Ya _ _ _ _ _ (pv 3) Yb (by rfl)) (by omega) (by rfl) (by rfl) (by decide) (by rfl) (by rfl)) Yb (by rfl)) (by rfl)) (by omega) (by rfl) (by rfl) (by decide) (by rfl) (by rfl)))))))))))))))))))))))))),?_⟩
 have hS:=hX.sq
 have hTb:Tb P_part_told H := .inl (ht _ (.head _))
 have hTJ:Ve H P_judge_of := .inl (ht _ (.tail _ (.head _)))
 refine XQ (fun σ H'=>Yd H H'∧∃ w:Int,σ=[some (.ref a),some (.int w),none,none,none,none,none,none,none,none,none,none,none,none,none,none,none,none]) ?_ ?_
 rotate_left
 ·intro N hN
  walk_at "rd"
  refine ⟨by decide,fun p hp=>Yau (zs:=[0]) hX hl hp (by decide) fun q H1 s1 hq=>?_⟩
  obtain ⟨i,hi⟩:=Vr (K:=g.K) (H:=H1) (a:=a) (ns:=ns) [0] (k:=0) (by decide)
  exact ⟨q,rfl,_,hq,_,XJ hi,i,rfl,by decide,hN _ _ ⟨s1,_,rfl⟩⟩
 rintro σ H1 ⟨s1,w,rfl⟩
 refine XQ (fun σ H'=>∃ c,Yd H (hd c H')∧Cs H' c∧σ=[some (.ref a),some (.int w),some (.ref c),none,none,none,none,none,none,none,none,none,none,none,none,none,none,none]) ?_ ?_
 rotate_left
 ·intro N hN
  walk_at "rd"
  refine ⟨_,s1.seq hS,fun p hp=>⟨_,.inl (SqL.of Yc),fun l hl'=>hN _ _ ⟨l,Ydv (s1.trans (Yd.upd_new hp _)) hl',⟨((ns.drop 2).take 61),?_,by rw [List.length_take];omega⟩,rfl⟩⟩⟩
  rw [Yc]
  have e1:=Yd7 (ns.map V.int) 2 63
  rw [List.map_take,List.map_drop]
  exact congrArg (fun z=>some (HO.lst z)) e1
 rintro σ H2 ⟨c,s2,c2,rfl⟩
 refine XQ (fun σ H'=>Yd (hd c H2) (hd c H')∧Cs H' c∧∃ v d L,DL (hd c H') v d L∧L2.hb d∧d.depth≤3∧Sml d∧σ=[some (.ref a),some (.int w),some (.ref c),some v,none,none,none,none,none,none,none,none,none,none,none,none,none,none]) ?_ ?_
 rotate_left
 ·intro N hN
  walk_at "rd"
  exact ⟨c,3,rfl,by decide,c2,fun v d L H' s' c' ow hb' hd' hs'=>hN _ _ ⟨s',c',v,d,L,ow.vl,hb',hd',hs',rfl⟩⟩
 rintro σ H3 ⟨s3,c3,v1,d1,L1,hv1,hb1,hd1,hs1,rfl⟩
 refine XQ (fun σ H'=>Yd (hd c H3) (hd c H')∧∃ v d L,DL (hd c H') v d L∧L2.hb d∧d.depth≤3∧σ=[some (.ref a),some (.int w),some (.ref c),some v1,some v,none,none,none,none,none,none,none,none,none,none,none,none,none]) ?_ ?_
 rotate_left
 ·intro N hN
  walk_at "rd"
  exact ⟨c,3,rfl,by decide,c3,fun v d L H' s' c' ow hb' hd' hs'=>hN _ _ ⟨s',v,d,L,ow.vl,hb',hd',rfl⟩⟩
 rintro σ H4 ⟨s4,v2,d2,L2',hv2,hb2,hd2,rfl⟩
 have S4:Yd H H4:=(s2.trans (s3.trans s4)).trans UM
 have X4:=hX.keep S4
 have e1:DV H4 v1 d1:=⟨_,(hv1.keep s4).keep UM⟩
 have e2:DV H4 v2 d2:=⟨_,hv2.keep UM⟩
 clear hv1 hv2
 refine XQ (fun σ H'=>Yd H4 H'∧∃ v d,DV H' v d∧L2.hb d∧d.depth≤3∧σ=[some (.ref a),some (.int w),some (.ref c),some v1,some v,none,none,none,none,none,none,none,none,none,none,none,none,none]) ?_ ?_
 rotate_left
 ·intro N hN
  walk_at "rd"
  refine YV (fun _=>?_) fun _=>hN _ _ ⟨.refl _,v2,d2,e2,hb2,hd2,rfl⟩
  exact ⟨v1,d1,rfl,e1,by omega,fun v' H' L' s' ow=>hN _ _ ⟨s',v',d1,⟨_,ow.vl⟩,hb1,hd1,rfl⟩⟩
 rintro σ H5 ⟨s5,v3,d3,e3,hb3,hd3,rfl⟩
 have e15:=e1.keep s5
 have X5:=X4.keep s5
 refine XQ (fun σ H'=>Yd H5 H'∧∃ v d,DV H' v d∧L2.hb d∧d.depth≤3∧σ=[some (.ref a),some (.int w),some (.ref c),some v1,some v,none,none,none,none,none,none,none,none,none,none,none,none,none]) ?_ ?_
 rotate_left
 ·intro N hN
  walk_at "rd"
  refine YV (fun _=>⟨by decide,fun p hp=>Yau (zs:=[0,0]) X5 hl hp (by decide) fun q H1 s1 hq=>?_⟩) fun _=>hN _ _ ⟨.refl _,v3,d3,e3,hb3,hd3,rfl⟩
  obtain ⟨i,hi⟩:=Vr (K:=g.K) (H:=H1) (a:=a) (ns:=ns) [0,0] (k:=1) (by decide)
  have hp12:(0:Int)<10^Int.toNat 12:=by decide +kernel
  exact ⟨q,rfl,_,hq,_,XJ hi,YbT,i,rfl,hp12,v1,d1,_,rfl,Int.emod_nonneg _ (by omega),Int.emod_lt_of_pos _ hp12,e15.keep s1,hb1,hs1,by omega,by omega,fun v' e L' H' s' hv' _ hb' hd'=>hN _ _ ⟨s1.trans s',v',e,⟨_,hv'⟩,hb',by omega,rfl⟩⟩
 rintro σ H6 ⟨s6,v2,d2,e2,hb2,hd2,rfl⟩
 have e16:=e15.keep s6
 have X6:=X5.keep s6
 refine XQ (fun σ H'=>Yd H6 H'∧∃ mn:Int,σ=[some (.ref a),some (.int w),some (.ref c),some v1,some v2,some (.int mn),none,none,none,none,none,none,none,none,none,none,none,none]) ?_ ?_
 rotate_left
 ·intro N hN
  walk_at "rd"
  refine ⟨by decide,fun p hp=>Yau (zs:=[0]) X6 hl hp (by decide) fun q H1 s1 hq=>?_⟩
  obtain ⟨i,hi⟩:=Vr (K:=g.K) (H:=H1) (a:=a) (ns:=ns) [0] (k:=0) (by decide)
  exact ⟨q,rfl,_,hq,_,XJ hi,i,rfl,XY (by decide) (by decide),hN _ _ ⟨s1,_,rfl⟩⟩
 rintro σ H7 ⟨s7,mn,rfl⟩
 have e17:=e16.keep s7
 have e27:=e2.keep s7
 refine XQ (fun σ H'=>Yd H7 H'∧∃ v1 d1 v2 d2 o,DV H' v1 d1∧L2.hb d1∧d1.depth≤58∧DV H' v2 d2∧L2.hb d2∧d2.depth≤58∧σ=[some (.ref a),some (.int w),some (.ref c),some v1,some v2,some (.int mn),o,none,none,none,none,none,none,none,none,none,none,none]) ?_ ?_
 rotate_left
 ·intro N hN
  walk_at "rd"
  refine ⟨by decide,YV (fun _=>?_) fun _=>hN _ _ ⟨.refl _,v1,d1,v2,d2,none,e17,hb1,by omega,e27,hb2,by omega,rfl⟩⟩
  obtain ⟨n,hn,hn2⟩:=WY (mn / 8) (j:=56) (by decide)
  refine Yaz (n:=n) (fun j σ H'=>Yd H7 H'∧∃ v1 d1 v2 d2 o,DV H' v1 d1∧L2.hb d1∧d1.depth≤3+j∧DV H' v2 d2∧L2.hb d2∧d2.depth≤3+j∧σ=[some (.ref a),some (.int w),some (.ref c),some v1,some v2,some (.int mn),o,none,none,none,none,none,none,none,none,none,none,none]) (fun R r=>?_) (by omega) ⟨.refl _,v1,d1,v2,d2,none,e17,hb1,hd1,e27,hb2,hd2,rfl⟩ (fun j σ H' hj z=>?_) fun σ H' z=>?_
  ·walk_at "rd"
   rw [hn]
   exact ⟨XY (by decide) (by decide),by decide,r⟩
  ·obtain ⟨s',v1,d1,v2,d2,o,e1,hb1,hd1,e2,hb2,hd2,rfl⟩:=z
   walk_at "rd"
   refine ⟨by decide,fun p0 g0=>⟨by decide,fun p1 g1=>⟨by decide,fun p2 g2=>?_⟩⟩⟩
   have t0:=Yd.upd_new g0 (HO.lst [v1])
   have t1:=Yd.upd_new g1 (HO.tup [v1])
   have t2:=Yd.upd_new g2 (HO.lst [V.ref p0,V.ref p1])
   have u1:=t0.trans (t1.trans t2)
   obtain ⟨y1,x1,q1,q2,q3,q4⟩:=Ybm (j:=j) (t2 _ _ (t1 _ _ Yc)) (t2 _ _ Yc) (e1.keep u1) hb1
   refine ⟨by decide,_,SqL.of Yc,y1,q1,by decide,fun p3 g3=>⟨by decide,fun p4 g4=>⟨by decide,fun p5 g5=>?_⟩⟩⟩
   have t3:=Yd.upd_new g3 (HO.lst [v2])
   have t4:=Yd.upd_new g4 (HO.tup [v2])
   have t5:=Yd.upd_new g5 (HO.lst [V.ref p3,V.ref p4])
   have u2:=t3.trans (t4.trans t5)
   obtain ⟨y2,x2,r1,r2,r3,r4⟩:=Ybm (j:=j) (t5 _ _ (t4 _ _ Yc)) (t5 _ _ Yc) (e2.keep (u1.trans u2)) hb2
   exact ⟨by decide,_,SqL.of Yc,y2,r1,s'.trans (u1.trans u2),y1,x1,q2.keep u2,q3,by omega,y2,x2,r2,r3,by omega,rfl,rfl⟩
  ·obtain ⟨s',v1,d1,v2,d2,o,e1,hb1,hd1,e2,hb2,hd2,rfl⟩:=z
   exact hN _ _ ⟨s',v1,d1,v2,d2,o,e1,hb1,by omega,e2,hb2,by omega,rfl⟩
 rintro σ H8 ⟨s8,v1,d1,v2,d2,o,e1,hb1,hd1,e2,hb2,hd2,rfl⟩
 have S8:=((S4.trans s5).trans (s6.trans s7)).trans s8
 have b8:=hTb.keep S8
 have j8:=hTJ.keep S8
 clear S4 X4 X5 X6 e15 e16 e17 e27
 have sam:∀ {H0:Hp} {u w:V} {x y:PyData} {R:VK},DV H0 u x→DV H0 w y→x.depth≤58→(∀ H',Yd H0 H'→R (.bl (sm x y)) H')→Wg g.K 122 [u,w] H0 R E0:=fun h1 h2 h3 h4=>⟨_,_,_,_,rfl,h1,h2,by omega,h4⟩
 refine cut3 (fun σ H'=>Yd H8 H'∧σ=[some (.ref a),some (.int w),some (.ref c),some v1,some v2,some (.int mn),o,some (.bl (sm d1 d2)),none,none,none,none,none,none,none,none,none,none]) ?_ ?_
 rotate_left
 ·intro N hN
  walk_at "rd"
  refine ⟨v1,v2,d1,d2,rfl,e1,e2,by omega,by omega,fun H' t1=>sam (e1.keep t1) (e2.keep t1) hd1 fun H' t2=>⟨_,_,rfl,true,by rw [decide_eq_true rfl],Yq (by decide) ?_⟩⟩
  have t2:=t1.trans t2
  refine sam (e2.keep t2) (e1.keep t2) hd2 fun H' t3=>⟨_,_,rfl,true,by rw [Ybb d2 d1,decide_eq_true rfl],Yq (by decide) ?_⟩
  have t3:=t2.trans t3
  refine sam (e1.keep t3) (e1.keep t3) hd1 fun H' t4=>⟨_,_,rfl,true,by rw [Xw,decide_eq_true rfl],Yq (by decide) ?_⟩
  have t4:=t3.trans t4
  refine ⟨v2,d2,rfl,e2.keep t4,by omega,fun v' H' L' t5 ow=>?_⟩
  have t5:=t4.trans t5
  refine sam ⟨_,ow.vl⟩ (e2.keep t5) hd2 fun H' t6=>⟨_,_,rfl,true,by rw [Xw,decide_eq_true rfl],Yq (by decide) (hN _ _ ⟨t5.trans t6,rfl⟩)⟩
 rintro σ H9 ⟨s9,rfl⟩
 refine cut3 (fun σ H'=>Yd H9 H'∧∃ h x y,Yw H' .here h∧Yw H' (.part .here 0) x∧Yw H' (.part .here 1) y∧σ=[some (.ref a),some (.int w),some (.ref c),some v1,some v2,some (.int mn),o,some (.bl (sm d1 d2)),some h,some x,some y,none,none,none,none,none,none,none]) ?_ ?_
 rotate_left
 ·intro N hN
  walk_at "rd"
  refine ⟨by decide,fun p0 g0=>⟨by decide,fun p1 g1=>⟨by decide,fun p2 g2=>⟨by decide,fun p3 g3=>⟨by decide,fun p4 g4=>⟨by decide,fun p5 g5=>?_⟩⟩⟩⟩⟩⟩
  have t0:=Yd.upd_new g0 (HO.tup [])
  have t1:=Yd.upd_new g1 (HO.tup [V.str (Str.ofString "here"),V.ref p0])
  have t2:=Yd.upd_new g2 (HO.tup [V.ref p1,V.int 0])
  have t3:=Yd.upd_new g3 (HO.tup [V.str (Str.ofString "part"),V.ref p2])
  have t4:=Yd.upd_new g4 (HO.tup [V.ref p1,V.int 1])
  have t5:=Yd.upd_new g5 (HO.tup [V.str (Str.ofString "part"),V.ref p4])
  have hh:=t5 _ _ (t4 _ _ (t3 _ _ (t2 _ _ (Yc (H:=upd H9 p0 (HO.tup [])) (a:=p1) (o:=HO.tup [V.str (Str.ofString "here"),V.ref p0])))))
  exact hN _ _ ⟨(t0.trans t1).trans ((t2.trans t3).trans (t4.trans t5)),_,_,_,⟨p1,_,rfl,hh⟩,⟨p3,p2,_,rfl,t5 _ _ (t4 _ _ Yc),t5 _ _ (t4 _ _ (t3 _ _ Yc)),p1,_,rfl,hh⟩,⟨p5,p4,_,rfl,Yc,t5 _ _ Yc,p1,_,rfl,hh⟩,rfl⟩
 rintro σ Ha ⟨sa,h,x,y,hh,hx,hy,rfl⟩
 have ba:=b8.keep (s9.trans sa)
 have ja:=j8.keep (s9.trans sa)
 have e1a:=e1.keep (s9.trans sa)
 have e2a:=e2.keep (s9.trans sa)
 refine cut4 (fun σ H'=>Kt Ha H'∧Tb P_part_told H'∧∃ f1 f2 f3 f4,Xl g P_part_told H' f1 (.same (.part .here 0) (.part .here 1))∧Xl g P_part_told H' f2 (.less (.part .here 0) (.part .here 1))∧Xl g P_part_told H' f3 (.sum .here)∧Xl g P_part_told H' f4 (.not (.same (.part .here 0) (.part .here 1)))∧σ=[some (.ref a),some (.int w),some (.ref c),some v1,some v2,some (.int mn),o,some (.bl (sm d1 d2)),some h,some x,some y,some (.ref f1),some (.ref f2),some (.ref f3),some (.ref f4),none,none,none]) ?_ ?_
 rotate_left
 ·intro N hN
  walk_at "rd"
  have nPJ:P_part_told≠P_judge_of:=fun z=>by simp [z] at hnd
  refine ⟨by decide,fun p0 g0=>⟨by decide,fun p1 g1=>?_⟩⟩
  have t0:=Yd.upd_new g0 (HO.tup [x,y])
  have t1:=Yd.upd_new g1 (HO.tup [V.str (Str.ofString "same"),V.ref p0])
  have u1:=t0.trans t1
  refine ⟨_,VD,rfl,⟨p1,p0,_,_,rfl,Yc,t1 _ _ Yc,hx.keep (Y6 u1),hy.keep (Y6 u1)⟩,⟨⟨by decide,trivial⟩,by decide,trivial⟩,by decide,ja.keep u1,fun f1 H1 J1 j1 k1=>?_⟩
  obtain ⟨ps1,hps1⟩:=(ja.keep u1).tbl
  have K1:=(Y6 u1).trans (VC k1 hps1)
  have B1:=(ba.keep u1).butJ k1 hps1 nPJ
  refine ⟨by decide,fun p2 g2=>⟨by decide,fun p3 g3=>?_⟩⟩
  have t2:=Yd.upd_new g2 (HO.tup [x,y])
  have t3:=Yd.upd_new g3 (HO.tup [V.str (Str.ofString "less"),V.ref p2])
  have u2:=t2.trans t3
  have K1':=K1.trans (Y6 u2)
  refine ⟨_,Ut,rfl,⟨p3,p2,_,_,rfl,Yc,t3 _ _ Yc,hx.keep K1',hy.keep K1'⟩,⟨⟨by decide,trivial⟩,by decide,trivial⟩,by decide,j1.keep u2,fun f2 H2 J2 j2 k2=>?_⟩
  obtain ⟨ps2,hps2⟩:=(j1.keep u2).tbl
  have K2:=(Y6 u2).trans (VC k2 hps2)
  have B2:=(B1.keep u2).butJ k2 hps2 nPJ
  refine ⟨by decide,fun p4 g4=>?_⟩
  have u3:=Yd.upd_new g4 (HO.tup [V.str (Str.ofString "sum"),h])
  refine ⟨_,.sum .here,rfl,⟨p4,_,rfl,Yc,hh.keep ((K1.trans K2).trans (Y6 u3))⟩,trivial,by decide,j2.keep u3,fun f3 H3 J3 j3 k3=>?_⟩
  obtain ⟨ps3,hps3⟩:=(j2.keep u3).tbl
  have K3:=(Y6 u3).trans (VC k3 hps3)
  have B3:=(B2.keep u3).butJ k3 hps3 nPJ
  refine ⟨by decide,fun p5 g5=>⟨by decide,fun p6 g6=>⟨by decide,fun p7 g7=>?_⟩⟩⟩
  have t5:=Yd.upd_new g5 (HO.tup [x,y])
  have t6:=Yd.upd_new g6 (HO.tup [V.str (Str.ofString "same"),V.ref p5])
  have t7:=Yd.upd_new g7 (HO.tup [V.str (Str.ofString "not"),V.ref p6])
  have u4:=t5.trans (t6.trans t7)
  have K3':=((K1.trans K2).trans K3).trans (Y6 u4)
  refine ⟨_,.not VD,rfl,⟨p7,_,rfl,Yc,p6,p5,_,_,rfl,t7 _ _ Yc,t7 _ _ (t6 _ _ Yc),hx.keep K3',hy.keep K3'⟩,⟨⟨by decide,trivial⟩,by decide,trivial⟩,by decide,j3.keep u4,fun f4 H4 J4 j4 k4=>?_⟩
  obtain ⟨ps4,hps4⟩:=(j3.keep u4).tbl
  have K4:=(Y6 u4).trans (VC k4 hps4)
  have B4:=(B3.keep u4).butJ k4 hps4 nPJ
  exact hN _ _ ⟨((K1.trans K2).trans K3).trans K4,B4,f1,f2,f3,f4,J1.kt ((K2.trans K3).trans K4),J2.kt (K3.trans K4),J3.kt K4,J4,rfl⟩
 rintro σ Hb ⟨kb,bb,f1,f2,f3,f4,J1,J2,J3,J4,rfl⟩
 have e1b:=e1a.kt kb
 have e2b:=e2a.kt kb
 refine XQ (fun σ H'=>H'=Hb∧σ=[some (.ref a),some (.int w),some (.ref c),some v1,some v2,some (.int mn),o,some (.bl (sm d1 d2)),some h,some x,some y,some (.ref f1),some (.ref f2),some (.ref f3),some (.ref f4),some (.bl (isI d1&&isI d2)),none,none]) ?_ ?_
 rotate_left
 ·intro N hN
  walk_at "rd"
  refine ⟨v1,d1,rfl,e1b,_,rfl,YV (fun c1=>⟨v2,d2,rfl,e2b,hN _ _ ⟨rfl,by rw [c1];rfl⟩⟩) fun c1=>hN _ _ ⟨rfl,?_⟩⟩
  have:isI d1=false:=by simpa using c1
  rw [this];rfl
 rintro σ Hb' ⟨e,rfl⟩
 subst e
 clear S8 sam
 refine Ur (fun c' xs i σ H'=>Kt Hb' H'∧Tb P_part_told H'∧H' c'=some (.lst xs)∧(∃ o1 o2,σ=[some (.ref a),some (.int w),some (.ref c),some v1,some v2,some (.int mn),o,some (.bl (sm d1 d2)),some h,some x,some y,some (.ref f1),some (.ref f2),some (.ref f3),some (.ref f4),some (.bl (isI d1&&isI d2)),o1,o2])∧∀ u∈xs,PD H' d1 d2 u) (fun R hR=>?_) (fun c' xs i σ H' _ z=>SqL.of z.2.2.1) (fun c' xs i u σ H' hu z=>?_) fun c' xs σ H' z=>?_
 ·walk_at "rd"
  refine ⟨by decide,fun p0 g0=>⟨by decide,fun p1 g1=>⟨by decide,fun p2 g2=>⟨by decide,fun p3 g3=>⟨by decide,fun p4 g4=>⟨by decide,fun p5 g5=>⟨by decide,fun p6 g6=>?_⟩⟩⟩⟩⟩⟩⟩
  have t0:=Yd.upd_new g0 (HO.lst [v1,v2])
  have t1:=Yd.upd_new g1 (HO.tup [V.ref p0,V.bl (sm d1 d2)])
  have t2:=Yd.upd_new g2 (HO.tup [v2,v1])
  have t3:=Yd.upd_new g3 (HO.tup [V.ref p2,V.bl (sm d1 d2)])
  have t4:=Yd.upd_new g4 (HO.lst [v1,v1])
  have t5:=Yd.upd_new g5 (HO.tup [V.ref p4,V.bl true])
  have t6:=Yd.upd_new g6 (HO.lst [V.ref p1,V.ref p3,V.ref p5])
  have U:=(t0.trans t1).trans (((t2.trans t3).trans (t4.trans t5)).trans t6)
  have y1:=e1b.keep U
  have y2:=e2b.keep U
  refine hR p6 _ _ ⟨Y6 U,bb.keep U,Yc,⟨none,none,rfl⟩,fun u hu=>?_⟩
  simp only [List.mem_cons,List.not_mem_nil,or_false] at hu
  rcases hu with rfl | rfl | rfl
  ·exact ⟨p1,p0,.list [d1,d2],d1,d2,_,rfl,t6 _ _ (t5 _ _ (t4 _ _ (t3 _ _ (t2 _ _ Yc)))),.lst (t6 _ _ (t5 _ _ (t4 _ _ (t3 _ _ (t2 _ _ (t1 _ _ Yc)))))) (by simp) (.cons y1 (.cons y2 .nil)),rfl,rfl,hb1,hb2,hd1,hd2,Ybn,fun z=>by simpa using z⟩
  ·exact ⟨p3,p2,.tuple [d2,d1],d2,d1,_,rfl,t6 _ _ (t5 _ _ (t4 _ _ Yc)),.tup (t6 _ _ (t5 _ _ (t4 _ _ (t3 _ _ Yc)))) (by simp) (.cons y2 (.cons y1 .nil)),rfl,Ybb _ _,hb2,hb1,hd2,hd1,(fun z=>Ybn (by rw [Bool.and_comm];exact z)),fun z=>by rw [Bool.and_comm] at z;simpa using z⟩
  ·refine ⟨p5,p4,.list [d1,d1],d1,d1,_,rfl,t6 _ _ Yc,.lst (t6 _ _ (t5 _ _ Yc)) (by simp) (.cons y1 (.cons y1 .nil)),rfl,(Xw _).symm,hb1,hb1,hd1,hd1,(fun _=>YcR _),fun z=>?_⟩
   have:isI d1=true∧isI d2=true:=by simpa using z
   exact ⟨this.1,this.1⟩
 ·obtain ⟨k1,q1,hc',⟨o1,o2,rfl⟩,hp⟩:=z
  obtain ⟨t,p,pd,dx,dy,bb,rfl,hT,hpd,hit,rfl,hbx,hby,hdx,hdy,hl1,hl2⟩:=hp u (List.mem_of_getElem? hu)
  walk_at "rd"
  obtain ⟨hbp,hdp⟩:=pd_hb hit hbx hby hdx hdy
  refine ⟨_,SqT.of hT,rfl,_,_,rfl,_,_,rfl,rfl,?_⟩
  refine Vs (J1.kt k1) rfl rfl q1 hpd hbp hdp (by decide) fun H2 k2 q2=>?_
  rw [YcO hit]
  refine ⟨_,_,rfl,true,by rw [decide_eq_true rfl],Yq (by decide) ?_⟩
  have k12:=k1.trans k2
  refine Vs (J4.kt k12) rfl rfl q2 (hpd.kt k2) hbp hdp (by decide) fun H3 k3 q3=>⟨_,rfl,?_⟩
  rw [Ydw hit]
  refine ⟨_,_,rfl,true,by rw [decide_eq_true rfl],Yq (by decide) ?_⟩
  have k13:=k12.trans k3
  refine Vs (J3.kt k13) rfl rfl q3 (hpd.kt (k2.trans k3)) hbp hdp (by decide) fun H4 k4 q4=>?_
  rw [Ydx]
  refine ⟨_,_,rfl,true,by rw [decide_eq_true rfl],Yq (by decide) ?_⟩
  have k14:=k13.trans k4
  refine YcQ (J4.kt k14) rfl rfl q4 (e1b.kt k14) hb1 (by omega) (by decide) fun H5 k5 q5=>?_
  rw [Yav.2]
  refine ⟨_,_,rfl,true,by rw [decide_eq_true rfl],Yq (by decide) ?_⟩
  have k15:=k14.trans k5
  have kp:=(k2.trans k3).trans (k4.trans k5)
  refine Vs (J2.kt k15) rfl rfl q5 (hpd.kt kp) hbp hdp (by decide) fun H6 k6 q6=>?_
  have hpd6:=hpd.kt (kp.trans k6)
  have k16:=k15.trans k6
  have fin:Kt Hb' H6∧Tb P_part_told H6∧H6 c'=some (.lst xs)∧∀ u∈xs,PD H6 d1 d2 u:=⟨k16,q6,(kp.trans k6).lst hc',fun u hu=>(hp u hu).kt (kp.trans k6)⟩
  rw [Qf hit]
  show (if (isI d1&&isI d2)=true then _ else _)
  refine YV (fun c=>?_) fun c=>?_
  ·obtain ⟨i,rfl⟩:=Wz (hl2 c).1
   obtain ⟨j,rfl⟩:=Wz (hl2 c).2
   exact X1 (n:=0) hpd6 hit rfl rfl fun u hu=>X1 (n:=1) hpd6 hit rfl rfl fun w' hw=>⟨i,hu.iint,j,hw.iint,_,_,rfl,true,congrArg V.bl (decide_eq_true (rfl:Wo (.int i) (.int j)=decide (i<j))),Yq (by decide) fin⟩
  ·have e:Wo dx dy=false:=hl1 (by simpa using c)
   exact ⟨_,_,rfl,true,congrArg V.bl (decide_eq_true (e:Wo dx dy=false)),Yq (by decide) fin⟩
 ·obtain ⟨k1,q1,hc',⟨o1,o2,rfl⟩,hp⟩:=z
  walk_at "rd"
  refine YcQ (J1.kt k1) rfl rfl q1 (e1b.kt k1) hb1 (by omega) (by decide) fun H2 k2 q2=>?_
  rw [Yav.1]
  refine ⟨_,_,rfl,_,rfl,Y3 (by decide) ?_⟩
  have k12:=k1.trans k2
  refine Vs (J2.kt k12) rfl rfl q2 (e1b.kt k12) hb1 (by omega) (by decide) fun H3 k3 q3=>?_
  rw [YaK]
  refine ⟨v1,d1,rfl,e1b.kt (k12.trans k3),fun H4 s4=>⟨_,_,rfl,?_⟩⟩
  rw [decide_eq_true rfl]
  exact hQ _
theorem us1 {α:Type} {us:List α} (h:us.length=1):∃ a0,us=[a0]:=by
 match us,h with
 | [a0],_=>exact ⟨_,rfl⟩
theorem us2 {α:Type} {us:List α} (h:us.length=2):∃ a0 a1,us=[a0,a1]:=by
 match us,h with
 | [a0,a1],_=>exact ⟨_,_,rfl⟩
theorem us3 {α:Type} {us:List α} (h:us.length=3):∃ a0 a1 a2,us=[a0,a1,a2]:=by
 match us,h with
 | [a0,a1,a2],_=>exact ⟨_,_,_,rfl⟩
theorem us4 {α:Type} {us:List α} (h:us.length=4):∃ a0 a1 a2 a3,us=[a0,a1,a2,a3]:=by
 match us,h with
 | [a0,a1,a2,a3],_=>exact ⟨_,_,_,_,rfl⟩
structure Top (K:PySem.W.Frag) (mg:Str→Option Value) (Z0:Addr) (Z1:Addr) (c_part_told P_part_told:Addr) (c_judge_of P_judge_of:Addr):Prop where
 ZR:∀ P w base,(Gx.mk P w K mg base).Raw "is_whole_number" "is_whole_number" ZO ["thing"]
 Z0M:∀ P w base,(Gx.mk P w K mg base).Raw "is_truth" "is_truth" Z0E ["thing"]
 Z14:∀ P w base,(Gx.mk P w K mg base).Raw "is_text" "is_text" Z0T ["thing"]
 Z15:∀ P w base,(Gx.mk P w K mg base).Raw "is_list" "is_list" Z0U ["thing"]
 ZF:∀ P w base,(Gx.mk P w K mg base).Raw "is_list_or_tuple" "is_list_or_tuple" ZC ["thing"]
 ZS:∀ P w base,(Gx.mk P w K mg base).Raw "is_list_or_text" "is_list_or_text" ZP ["thing"]
 Zk:∀ P w base,(Gx.mk P w K mg base).Raw "is_list_tuple_or_text" "is_list_tuple_or_text" Zj ["thing"]
 Zz:∀ P w base,(Gx.mk P w K mg base).Raw "are_whole_numbers" "are_whole_numbers" Zy ["thing"]
 ZV:∀ P w base,(Gx.mk P w K mg base).Raw "same_each" "same_each" Z0p ["one","other"]
 f_same:∀ P w base,(Gx.mk P w K mg base).Raw "same" "same" Q3 ["one","other"]
 Z0g:∀ P w base,(Gx.mk P w K mg base).Raw "taken" "taken" UH ["mark","term","thing","can_take"]
 Zt:∀ P w base,(Gx.mk P w K mg base).RawT "part_told" "part_told" ZT ["body","thing"] c_part_told
 Zg:∀ P w base,(Gx.mk P w K mg base).Raw "numbers_told" "numbers_told" Z08 ["mark","body","thing"]
 Zu:∀ P w base,(Gx.mk P w K mg base).Raw "same_told" "same_told" Z0q ["body","thing"]
 Zv:∀ P w base,(Gx.mk P w K mg base).Raw "both_told" "both_told" Z0r ["body","thing"]
 Zw:∀ P w base,(Gx.mk P w K mg base).Raw "when_told" "when_told" Z0s ["body","thing"]
 Zm:∀ P w base,(Gx.mk P w K mg base).Raw "joined_told" "joined_told" Z0c ["body","thing"]
 Zx:∀ P w base,(Gx.mk P w K mg base).Raw "each_told" "each_told" Z0t ["body","thing"]
 f_told:∀ P w base,(Gx.mk P w K mg base).Raw "told" "told" Q8 ["term","thing"]
 Z0B:∀ P w base,(Gx.mk P w K mg base).Raw "says_true" "says_true" Z0u ["term","thing"]
 Z0N:∀ P w base,(Gx.mk P w K mg base).RawT "judge_of" "judge_of" Z0d ["term"] c_judge_of
 Z0O:∀ P w base,(Gx.mk P w K mg base).Raw "_law_take" "_law_take" Z0G ["_law_cells","_law_many"]
 Zo:∀ P w base,(Gx.mk P w K mg base).Raw "_law_thing" "_law_thing" Z0v ["_law_cells","_law_left"]
 Z0C:∀ P w base,(Gx.mk P w K mg base).Raw "_law_whole" "_law_whole" Z0y ["_law_thing_here"]
 ZW:∀ P w base,(Gx.mk P w K mg base).Raw "_law_alike" "_law_alike" Z0w ["_law_one","_law_other_here"]
 Z07:∀ P w base,(Gx.mk P w K mg base).Raw "_law_copy" "_law_copy" Z0H ["_law_thing_here"]
 Zf:∀ P w base,(Gx.mk P w K mg base).Raw "_law_other" "_law_other" Z0x ["_law_thing_here","_law_cell"]
 f_law_is:∀ P w base,(Gx.mk P w K mg base).Raw "_law_is" "_law_is" VW ["_law_found","_law_due"]
 Z0n:∀ P w base,(Gx.mk P w K mg base).Raw "_law_rising" "_law_rising" Z0k ["_law_thing_here"]
 b_all:mg "all"=none
 b_bool:mg "bool"=none
 b_int:mg "int"=none
 Z2:mg "isinstance"=none
 b_len:mg "len"=none
 b_list:mg "list"=none
 Zl:mg "range"=none
 b_str:mg "str"=none
 b_sum:mg "sum"=none
 Z3:mg "tuple"=none
 b_zip:mg "zip"=none
 x_CountError:mg "CountError"=some (.ref Z0)
 x_Astray:mg "Astray"=some (.ref Z1)
 xi_Astray:∀ P w base,(Gx.mk P w K mg base).RawX "Astray" Z1 "Astray.__init__" ZQ ["self","mark"]
 xf_Astray:ExFl K Z1 Z0
 xn_Astray_mark:PySem.W.findIn K (.ref Z1) "mark"=some none
 bi_CountError:∀ P w base,BInit (Gx.mk P w K mg base) "CountError" Z0
 m_Astray_Astray:PySem.W.exmOne K (.ref Z1) (.ref Z1)=some true
theorem Ydz {K:PySem.W.Frag} {mg:Str→Option Value} {Z0 Z1:Addr} {c_part_told P_part_told:Addr} {c_judge_of P_judge_of:Addr}  (t:Top K mg Z0 Z1 c_part_told P_part_told c_judge_of P_judge_of) (P:Program) (w:World) (base:Heap) (hB:Bm mg base) (hC_part_told:PySem.W.CodeHd base c_part_told P_part_told) (hC_judge_of:PySem.W.CodeHd base c_judge_of P_judge_of) (hnd:([P_part_told,P_judge_of]:List Addr).Nodup) :
  QO (Gx.mk P w K mg base) 170 ["_law_script","_law_way","_law_cells","_law_one","_law_other_here","_law_many","_law_k","_law_due","_law_here","_law_first","_law_second","_law_alike_here","_law_less","_law_added","_law_other_way","_law_both","_law_pair","_law_truth"] "law" Qx (Vd K [("part_told",c_part_told,P_part_told),("judge_of",c_judge_of,P_judge_of)]):=by
 have Zp:=Z0Z (g:=Gx.mk P w K mg base) (t.xi_Astray P w base) (t.bi_CountError P w base) t.xf_Astray t.xn_Astray_mark
 have Z9:=Z10 (g:=Gx.mk P w K mg base) (Z0:=Z0) (Z1:=Z1) (c_part_told:=c_part_told) (P_part_told:=P_part_told) (c_judge_of:=c_judge_of) (P_judge_of:=P_judge_of) (t.ZR P w base) t.b_bool t.b_int t.Z2
 have Z4:=YaH (g:=Gx.mk P w K mg base) (Z0:=Z0) (Z1:=Z1) (c_part_told:=c_part_told) (P_part_told:=P_part_told) (c_judge_of:=c_judge_of) (P_judge_of:=P_judge_of) (t.Z0M P w base) t.b_bool t.Z2
 have ZX:=YbU (g:=Gx.mk P w K mg base) (Z0:=Z0) (Z1:=Z1) (c_part_told:=c_part_told) (P_part_told:=P_part_told) (c_judge_of:=c_judge_of) (P_judge_of:=P_judge_of) (t.Z14 P w base) t.Z2 t.b_str
 have ZY:=YbV (g:=Gx.mk P w K mg base) (Z0:=Z0) (Z1:=Z1) (c_part_told:=c_part_told) (P_part_told:=P_part_told) (c_judge_of:=c_judge_of) (P_judge_of:=P_judge_of) (t.Z15 P w base) t.Z2 t.b_list
 have Z5:=Z0Q (g:=Gx.mk P w K mg base) (Z0:=Z0) (Z1:=Z1) (c_part_told:=c_part_told) (P_part_told:=P_part_told) (c_judge_of:=c_judge_of) (P_judge_of:=P_judge_of) (t.ZF P w base) t.Z2 t.b_list t.Z3
 have Zq:=Z11 (g:=Gx.mk P w K mg base) (Z0:=Z0) (Z1:=Z1) (c_part_told:=c_part_told) (P_part_told:=P_part_told) (c_judge_of:=c_judge_of) (P_judge_of:=P_judge_of) (t.ZS P w base) t.Z2 t.b_list t.b_str
 have Zb:=Z0l (g:=Gx.mk P w K mg base) (Z0:=Z0) (Z1:=Z1) (c_part_told:=c_part_told) (P_part_told:=P_part_told) (c_judge_of:=c_judge_of) (P_judge_of:=P_judge_of) (t.Zk P w base) t.Z2 t.b_list t.b_str t.Z3
 have Zi:=Z0I (g:=Gx.mk P w K mg base) (k:=1) (Z0:=Z0) (Z1:=Z1) (c_part_told:=c_part_told) (P_part_told:=P_part_told) (c_judge_of:=c_judge_of) (P_judge_of:=P_judge_of) (t.Zz P w base) (Z9.mono (by decide)) (Z5.mono (by decide)) t.b_all
 have GP_same:∀ i:Nat,((Gx.mk P w K mg base).Fn (1+i+1) "same_each" ["one","other"] (Z00 (Gx.mk P w K mg base).K (i+1)))∧((Gx.mk P w K mg base).Fn (1+i+1) "same" ["one","other"] (Wg (Gx.mk P w K mg base).K (i+1))):=by
  intro i
  induction i with
  | zero=>exact ⟨Z12 (g:=Gx.mk P w K mg base) (m:=0) (k:=1) (Z0:=Z0) (Z1:=Z1) (c_part_told:=c_part_told) (P_part_told:=P_part_told) (c_judge_of:=c_judge_of) (P_judge_of:=P_judge_of) (t.ZV P w base) ((t.f_same P w base).none (fun _ _ _ _ h=>Yel h)) t.b_len t.b_zip,Ybe (g:=Gx.mk P w K mg base) (m:=0) (k:=1) (Z0:=Z0) (Z1:=Z1) (c_part_told:=c_part_told) (P_part_told:=P_part_told) (c_judge_of:=c_judge_of) (P_judge_of:=P_judge_of) (t.f_same P w base) (Z9.mono (by omega)) ((t.ZV P w base).none (fun _ _ _ _ h=>Yad h)) (Z4.mono (by omega)) (ZX.mono (by omega)) (ZY.mono (by omega)) t.Z2 t.Z3⟩
  | succ i ih =>
   obtain ⟨I_same_each,I_same⟩:=ih
   exact ⟨Z12 (g:=Gx.mk P w K mg base) (m:=i+1) (k:=1+i+1) (Z0:=Z0) (Z1:=Z1) (c_part_told:=c_part_told) (P_part_told:=P_part_told) (c_judge_of:=c_judge_of) (P_judge_of:=P_judge_of) (t.ZV P w base) I_same t.b_len t.b_zip,Ybe (g:=Gx.mk P w K mg base) (m:=i+1) (k:=1+i+1) (Z0:=Z0) (Z1:=Z1) (c_part_told:=c_part_told) (P_part_told:=P_part_told) (c_judge_of:=c_judge_of) (P_judge_of:=P_judge_of) (t.f_same P w base) (Z9.mono (by omega)) I_same_each (Z4.mono (by omega)) (ZX.mono (by omega)) (ZY.mono (by omega)) t.Z2 t.Z3⟩
 obtain ⟨G_same_each,G_same⟩:=GP_same 121
 have ZG:=Z0J (g:=Gx.mk P w K mg base) (m:=0) (k:=123) (Z0:=Z0) (Z1:=Z1) (c_part_told:=c_part_told) (P_part_told:=P_part_told) (c_judge_of:=c_judge_of) (P_judge_of:=P_judge_of) (t.Z0g P w base) ((t.f_told P w base).noneX (fun _ _ _ _ h=>UK h)) (by decide) (by decide) Zp (by decide)
 have G_part_told_0:=Z01 (g:=Gx.mk P w K mg base) (m:=0) (k:=124) (Z0:=Z0) (Z1:=Z1) (c_part_told:=c_part_told) (P_part_told:=P_part_told) (c_judge_of:=c_judge_of) (P_judge_of:=P_judge_of) (t.Zt P w base) hB hC_part_told (Z5.mono (by decide)) (ZG.mono (by decide)) t.b_len
 have Z1e:=ZB (g:=Gx.mk P w K mg base) (m:=0) (k:=124) (Z0:=Z0) (Z1:=Z1) (c_part_told:=c_part_told) (P_part_told:=P_part_told) (c_judge_of:=c_judge_of) (P_judge_of:=P_judge_of) (t.Zg P w base) (Z9.mono (by decide)) (ZG.mono (by decide)) (by decide)
 have G_same_told_0:=Z02 (g:=Gx.mk P w K mg base) (m:=0) (k:=124) (Z0:=Z0) (Z1:=Z1) (c_part_told:=c_part_told) (P_part_told:=P_part_told) (c_judge_of:=c_judge_of) (P_judge_of:=P_judge_of) (t.Zu P w base) (G_same.mono (by decide)) ((t.f_told P w base).noneX (fun _ _ _ _ h=>UK h))
 have G_both_told_0:=Z03 (g:=Gx.mk P w K mg base) (m:=0) (k:=124) (Z0:=Z0) (Z1:=Z1) (c_part_told:=c_part_told) (P_part_told:=P_part_told) (c_judge_of:=c_judge_of) (P_judge_of:=P_judge_of) (t.Zv P w base) (Z4.mono (by decide)) (ZG.mono (by decide)) (by decide)
 have G_when_told_0:=Z04 (g:=Gx.mk P w K mg base) (m:=0) (k:=124) (Z0:=Z0) (Z1:=Z1) (c_part_told:=c_part_told) (P_part_told:=P_part_told) (c_judge_of:=c_judge_of) (P_judge_of:=P_judge_of) (t.Zw P w base) (Z4.mono (by decide)) (ZG.mono (by decide)) ((t.f_told P w base).noneX (fun _ _ _ _ h=>UK h)) (by decide)
 have G_each_told_0:=Z05 (g:=Gx.mk P w K mg base) (m:=0) (k:=124) (Z0:=Z0) (Z1:=Z1) (c_part_told:=c_part_told) (P_part_told:=P_part_told) (c_judge_of:=c_judge_of) (P_judge_of:=P_judge_of) (t.Zx P w base) (Z4.mono (by decide)) (Z5.mono (by decide)) (ZG.mono (by decide)) (by decide)
 have Z1l:=ZL (g:=Gx.mk P w K mg base) (m:=0) (k:=124) (Z0:=Z0) (Z1:=Z1) (c_part_told:=c_part_told) (P_part_told:=P_part_told) (c_judge_of:=c_judge_of) (P_judge_of:=P_judge_of) (t.Zm P w base) (ZX.mono (by decide)) (ZY.mono (by decide)) (Zq.mono (by decide)) (ZG.mono (by decide)) (by decide)
 have G_told_1:=VA (g:=Gx.mk P w K mg base) (m:=0) (k:=125) (Z0:=Z0) (Z1:=Z1) (c_part_told:=c_part_told) (P_part_told:=P_part_told) (c_judge_of:=c_judge_of) (P_judge_of:=P_judge_of) (t.f_told P w base) (Z4.mono (by decide)) (Zb.mono (by decide)) (Zi.mono (by decide)) (ZG.mono (by decide)) (G_part_told_0.mono (by decide)) (Z1e.mono (by decide)) (G_same_told_0.mono (by decide)) (G_both_told_0.mono (by decide)) (G_when_told_0.mono (by decide)) (G_each_told_0.mono (by decide)) (Z1l.mono (by decide)) (by decide) t.b_len t.b_sum
 have ZH:=Z0J (g:=Gx.mk P w K mg base) (m:=1) (k:=126) (Z0:=Z0) (Z1:=Z1) (c_part_told:=c_part_told) (P_part_told:=P_part_told) (c_judge_of:=c_judge_of) (P_judge_of:=P_judge_of) (t.Z0g P w base) (G_told_1.mono (by decide)) (by decide) (by decide) Zp (by decide)
 have G_part_told_1:=Z01 (g:=Gx.mk P w K mg base) (m:=1) (k:=127) (Z0:=Z0) (Z1:=Z1) (c_part_told:=c_part_told) (P_part_told:=P_part_told) (c_judge_of:=c_judge_of) (P_judge_of:=P_judge_of) (t.Zt P w base) hB hC_part_told (Z5.mono (by decide)) (ZH.mono (by decide)) t.b_len
 have Z1f:=ZB (g:=Gx.mk P w K mg base) (m:=1) (k:=127) (Z0:=Z0) (Z1:=Z1) (c_part_told:=c_part_told) (P_part_told:=P_part_told) (c_judge_of:=c_judge_of) (P_judge_of:=P_judge_of) (t.Zg P w base) (Z9.mono (by decide)) (ZH.mono (by decide)) (by decide)
 have G_same_told_1:=Z02 (g:=Gx.mk P w K mg base) (m:=1) (k:=127) (Z0:=Z0) (Z1:=Z1) (c_part_told:=c_part_told) (P_part_told:=P_part_told) (c_judge_of:=c_judge_of) (P_judge_of:=P_judge_of) (t.Zu P w base) (G_same.mono (by decide)) (G_told_1.mono (by decide))
 have G_both_told_1:=Z03 (g:=Gx.mk P w K mg base) (m:=1) (k:=127) (Z0:=Z0) (Z1:=Z1) (c_part_told:=c_part_told) (P_part_told:=P_part_told) (c_judge_of:=c_judge_of) (P_judge_of:=P_judge_of) (t.Zv P w base) (Z4.mono (by decide)) (ZH.mono (by decide)) (by decide)
 have G_when_told_1:=Z04 (g:=Gx.mk P w K mg base) (m:=1) (k:=127) (Z0:=Z0) (Z1:=Z1) (c_part_told:=c_part_told) (P_part_told:=P_part_told) (c_judge_of:=c_judge_of) (P_judge_of:=P_judge_of) (t.Zw P w base) (Z4.mono (by decide)) (ZH.mono (by decide)) (G_told_1.mono (by decide)) (by decide)
 have G_each_told_1:=Z05 (g:=Gx.mk P w K mg base) (m:=1) (k:=127) (Z0:=Z0) (Z1:=Z1) (c_part_told:=c_part_told) (P_part_told:=P_part_told) (c_judge_of:=c_judge_of) (P_judge_of:=P_judge_of) (t.Zx P w base) (Z4.mono (by decide)) (Z5.mono (by decide)) (ZH.mono (by decide)) (by decide)
 have Z1m:=ZL (g:=Gx.mk P w K mg base) (m:=1) (k:=127) (Z0:=Z0) (Z1:=Z1) (c_part_told:=c_part_told) (P_part_told:=P_part_told) (c_judge_of:=c_judge_of) (P_judge_of:=P_judge_of) (t.Zm P w base) (ZX.mono (by decide)) (ZY.mono (by decide)) (Zq.mono (by decide)) (ZH.mono (by decide)) (by decide)
 have G_told_2:=VA (g:=Gx.mk P w K mg base) (m:=1) (k:=128) (Z0:=Z0) (Z1:=Z1) (c_part_told:=c_part_told) (P_part_told:=P_part_told) (c_judge_of:=c_judge_of) (P_judge_of:=P_judge_of) (t.f_told P w base) (Z4.mono (by decide)) (Zb.mono (by decide)) (Zi.mono (by decide)) (ZH.mono (by decide)) (G_part_told_1.mono (by decide)) (Z1f.mono (by decide)) (G_same_told_1.mono (by decide)) (G_both_told_1.mono (by decide)) (G_when_told_1.mono (by decide)) (G_each_told_1.mono (by decide)) (Z1m.mono (by decide)) (by decide) t.b_len t.b_sum
 have ZI:=Z0J (g:=Gx.mk P w K mg base) (m:=2) (k:=129) (Z0:=Z0) (Z1:=Z1) (c_part_told:=c_part_told) (P_part_told:=P_part_told) (c_judge_of:=c_judge_of) (P_judge_of:=P_judge_of) (t.Z0g P w base) (G_told_2.mono (by decide)) (by decide) (by decide) Zp (by decide)
 have G_part_told_2:=Z01 (g:=Gx.mk P w K mg base) (m:=2) (k:=130) (Z0:=Z0) (Z1:=Z1) (c_part_told:=c_part_told) (P_part_told:=P_part_told) (c_judge_of:=c_judge_of) (P_judge_of:=P_judge_of) (t.Zt P w base) hB hC_part_told (Z5.mono (by decide)) (ZI.mono (by decide)) t.b_len
 have Z1g:=ZB (g:=Gx.mk P w K mg base) (m:=2) (k:=130) (Z0:=Z0) (Z1:=Z1) (c_part_told:=c_part_told) (P_part_told:=P_part_told) (c_judge_of:=c_judge_of) (P_judge_of:=P_judge_of) (t.Zg P w base) (Z9.mono (by decide)) (ZI.mono (by decide)) (by decide)
 have G_same_told_2:=Z02 (g:=Gx.mk P w K mg base) (m:=2) (k:=130) (Z0:=Z0) (Z1:=Z1) (c_part_told:=c_part_told) (P_part_told:=P_part_told) (c_judge_of:=c_judge_of) (P_judge_of:=P_judge_of) (t.Zu P w base) (G_same.mono (by decide)) (G_told_2.mono (by decide))
 have G_both_told_2:=Z03 (g:=Gx.mk P w K mg base) (m:=2) (k:=130) (Z0:=Z0) (Z1:=Z1) (c_part_told:=c_part_told) (P_part_told:=P_part_told) (c_judge_of:=c_judge_of) (P_judge_of:=P_judge_of) (t.Zv P w base) (Z4.mono (by decide)) (ZI.mono (by decide)) (by decide)
 have G_when_told_2:=Z04 (g:=Gx.mk P w K mg base) (m:=2) (k:=130) (Z0:=Z0) (Z1:=Z1) (c_part_told:=c_part_told) (P_part_told:=P_part_told) (c_judge_of:=c_judge_of) (P_judge_of:=P_judge_of) (t.Zw P w base) (Z4.mono (by decide)) (ZI.mono (by decide)) (G_told_2.mono (by decide)) (by decide)
 have G_each_told_2:=Z05 (g:=Gx.mk P w K mg base) (m:=2) (k:=130) (Z0:=Z0) (Z1:=Z1) (c_part_told:=c_part_told) (P_part_told:=P_part_told) (c_judge_of:=c_judge_of) (P_judge_of:=P_judge_of) (t.Zx P w base) (Z4.mono (by decide)) (Z5.mono (by decide)) (ZI.mono (by decide)) (by decide)
 have Z1n:=ZL (g:=Gx.mk P w K mg base) (m:=2) (k:=130) (Z0:=Z0) (Z1:=Z1) (c_part_told:=c_part_told) (P_part_told:=P_part_told) (c_judge_of:=c_judge_of) (P_judge_of:=P_judge_of) (t.Zm P w base) (ZX.mono (by decide)) (ZY.mono (by decide)) (Zq.mono (by decide)) (ZI.mono (by decide)) (by decide)
 have G_told_3:=VA (g:=Gx.mk P w K mg base) (m:=2) (k:=131) (Z0:=Z0) (Z1:=Z1) (c_part_told:=c_part_told) (P_part_told:=P_part_told) (c_judge_of:=c_judge_of) (P_judge_of:=P_judge_of) (t.f_told P w base) (Z4.mono (by decide)) (Zb.mono (by decide)) (Zi.mono (by decide)) (ZI.mono (by decide)) (G_part_told_2.mono (by decide)) (Z1g.mono (by decide)) (G_same_told_2.mono (by decide)) (G_both_told_2.mono (by decide)) (G_when_told_2.mono (by decide)) (G_each_told_2.mono (by decide)) (Z1n.mono (by decide)) (by decide) t.b_len t.b_sum
 have ZJ:=Z0J (g:=Gx.mk P w K mg base) (m:=3) (k:=132) (Z0:=Z0) (Z1:=Z1) (c_part_told:=c_part_told) (P_part_told:=P_part_told) (c_judge_of:=c_judge_of) (P_judge_of:=P_judge_of) (t.Z0g P w base) (G_told_3.mono (by decide)) (by decide) (by decide) Zp (by decide)
 have G_part_told_3:=Z01 (g:=Gx.mk P w K mg base) (m:=3) (k:=133) (Z0:=Z0) (Z1:=Z1) (c_part_told:=c_part_told) (P_part_told:=P_part_told) (c_judge_of:=c_judge_of) (P_judge_of:=P_judge_of) (t.Zt P w base) hB hC_part_told (Z5.mono (by decide)) (ZJ.mono (by decide)) t.b_len
 have Z1h:=ZB (g:=Gx.mk P w K mg base) (m:=3) (k:=133) (Z0:=Z0) (Z1:=Z1) (c_part_told:=c_part_told) (P_part_told:=P_part_told) (c_judge_of:=c_judge_of) (P_judge_of:=P_judge_of) (t.Zg P w base) (Z9.mono (by decide)) (ZJ.mono (by decide)) (by decide)
 have G_same_told_3:=Z02 (g:=Gx.mk P w K mg base) (m:=3) (k:=133) (Z0:=Z0) (Z1:=Z1) (c_part_told:=c_part_told) (P_part_told:=P_part_told) (c_judge_of:=c_judge_of) (P_judge_of:=P_judge_of) (t.Zu P w base) (G_same.mono (by decide)) (G_told_3.mono (by decide))
 have G_both_told_3:=Z03 (g:=Gx.mk P w K mg base) (m:=3) (k:=133) (Z0:=Z0) (Z1:=Z1) (c_part_told:=c_part_told) (P_part_told:=P_part_told) (c_judge_of:=c_judge_of) (P_judge_of:=P_judge_of) (t.Zv P w base) (Z4.mono (by decide)) (ZJ.mono (by decide)) (by decide)
 have G_when_told_3:=Z04 (g:=Gx.mk P w K mg base) (m:=3) (k:=133) (Z0:=Z0) (Z1:=Z1) (c_part_told:=c_part_told) (P_part_told:=P_part_told) (c_judge_of:=c_judge_of) (P_judge_of:=P_judge_of) (t.Zw P w base) (Z4.mono (by decide)) (ZJ.mono (by decide)) (G_told_3.mono (by decide)) (by decide)
 have G_each_told_3:=Z05 (g:=Gx.mk P w K mg base) (m:=3) (k:=133) (Z0:=Z0) (Z1:=Z1) (c_part_told:=c_part_told) (P_part_told:=P_part_told) (c_judge_of:=c_judge_of) (P_judge_of:=P_judge_of) (t.Zx P w base) (Z4.mono (by decide)) (Z5.mono (by decide)) (ZJ.mono (by decide)) (by decide)
 have Z1o:=ZL (g:=Gx.mk P w K mg base) (m:=3) (k:=133) (Z0:=Z0) (Z1:=Z1) (c_part_told:=c_part_told) (P_part_told:=P_part_told) (c_judge_of:=c_judge_of) (P_judge_of:=P_judge_of) (t.Zm P w base) (ZX.mono (by decide)) (ZY.mono (by decide)) (Zq.mono (by decide)) (ZJ.mono (by decide)) (by decide)
 have G_told:=VA (g:=Gx.mk P w K mg base) (m:=3) (k:=134) (Z0:=Z0) (Z1:=Z1) (c_part_told:=c_part_told) (P_part_told:=P_part_told) (c_judge_of:=c_judge_of) (P_judge_of:=P_judge_of) (t.f_told P w base) (Z4.mono (by decide)) (Zb.mono (by decide)) (Zi.mono (by decide)) (ZJ.mono (by decide)) (G_part_told_3.mono (by decide)) (Z1h.mono (by decide)) (G_same_told_3.mono (by decide)) (G_both_told_3.mono (by decide)) (G_when_told_3.mono (by decide)) (G_each_told_3.mono (by decide)) (Z1o.mono (by decide)) (by decide) t.b_len t.b_sum
 have G_says_true:=Yap (g:=Gx.mk P w K mg base) (k:=135) (Z0:=Z0) (Z1:=Z1) (c_part_told:=c_part_told) (P_part_told:=P_part_told) (c_judge_of:=c_judge_of) (P_judge_of:=P_judge_of) (t.Z0B P w base) (G_told.mono (by decide)) t.x_Astray t.m_Astray_Astray
 have G_judge_of:=YaI (g:=Gx.mk P w K mg base) (k:=136) (Z0:=Z0) (Z1:=Z1) (c_part_told:=c_part_told) (P_part_told:=P_part_told) (c_judge_of:=c_judge_of) (P_judge_of:=P_judge_of) (t.Z0N P w base) hB hC_judge_of (G_says_true.mono (by decide))
 have Z0f:=YaJ (g:=Gx.mk P w K mg base) (Z0:=Z0) (Z1:=Z1) (c_part_told:=c_part_told) (P_part_told:=P_part_told) (c_judge_of:=c_judge_of) (P_judge_of:=P_judge_of) (t.Z0O P w base)
 have G_law_thing_1:=Z06 (g:=Gx.mk P w K mg base) (m:=0) (k:=1) (Z0:=Z0) (Z1:=Z1) (c_part_told:=c_part_told) (P_part_told:=P_part_told) (c_judge_of:=c_judge_of) (P_judge_of:=P_judge_of) (t.Zo P w base) (Z0f.mono (by decide)) ((t.Zo P w base).none (fun _ _ _ _ h=>Ydr h)) t.Zl t.Z3
 have G_law_thing_2:=Z06 (g:=Gx.mk P w K mg base) (m:=1) (k:=2) (Z0:=Z0) (Z1:=Z1) (c_part_told:=c_part_told) (P_part_told:=P_part_told) (c_judge_of:=c_judge_of) (P_judge_of:=P_judge_of) (t.Zo P w base) (Z0f.mono (by decide)) (G_law_thing_1.mono (by decide)) t.Zl t.Z3
 have G_law_thing_3:=Z06 (g:=Gx.mk P w K mg base) (m:=2) (k:=3) (Z0:=Z0) (Z1:=Z1) (c_part_told:=c_part_told) (P_part_told:=P_part_told) (c_judge_of:=c_judge_of) (P_judge_of:=P_judge_of) (t.Zo P w base) (Z0f.mono (by decide)) (G_law_thing_2.mono (by decide)) t.Zl t.Z3
 have G_law_thing:=Z06 (g:=Gx.mk P w K mg base) (m:=3) (k:=4) (Z0:=Z0) (Z1:=Z1) (c_part_told:=c_part_told) (P_part_told:=P_part_told) (c_judge_of:=c_judge_of) (P_judge_of:=P_judge_of) (t.Zo P w base) (Z0f.mono (by decide)) (G_law_thing_3.mono (by decide)) t.Zl t.Z3
 have Z1b:=Yat (g:=Gx.mk P w K mg base) (Z0:=Z0) (Z1:=Z1) (c_part_told:=c_part_told) (P_part_told:=P_part_told) (c_judge_of:=c_judge_of) (P_judge_of:=P_judge_of) (t.Z0C P w base) t.b_bool t.b_int t.Z2
 have GP_law_alike:∀ i:Nat,((Gx.mk P w K mg base).Fn (0+i+1) "_law_alike" ["_law_one","_law_other_here"] (Z0m (i+1))):=by
  intro i
  induction i with
  | zero=>exact (Z13 (g:=Gx.mk P w K mg base) (m:=0) (k:=0) (Z0:=Z0) (Z1:=Z1) (c_part_told:=c_part_told) (P_part_told:=P_part_told) (c_judge_of:=c_judge_of) (P_judge_of:=P_judge_of) (t.ZW P w base) ((t.ZW P w base).none (fun _ _ _ _ h=>Ydt h)) t.b_all t.b_bool t.Z2 t.b_len t.b_list t.Z3 t.b_zip)
  | succ i ih =>
   have I_law_alike:=ih
   exact (Z13 (g:=Gx.mk P w K mg base) (m:=i+1) (k:=0+i+1) (Z0:=Z0) (Z1:=Z1) (c_part_told:=c_part_told) (P_part_told:=P_part_told) (c_judge_of:=c_judge_of) (P_judge_of:=P_judge_of) (t.ZW P w base) I_law_alike t.b_all t.b_bool t.Z2 t.b_len t.b_list t.Z3 t.b_zip)
 have G_law_alike:=GP_law_alike 61
 have GP_law_copy:∀ i:Nat,((Gx.mk P w K mg base).Fn (0+i+1) "_law_copy" ["_law_thing_here"] (Wi (i+1))):=by
  intro i
  induction i with
  | zero=>exact (Z1a (g:=Gx.mk P w K mg base) (m:=0) (k:=0) (Z0:=Z0) (Z1:=Z1) (c_part_told:=c_part_told) (P_part_told:=P_part_told) (c_judge_of:=c_judge_of) (P_judge_of:=P_judge_of) (t.Z07 P w base) ((t.Z07 P w base).none (fun _ _ _ _ h=>Yeu h)) t.Z2 t.b_list t.Z3)
  | succ i ih =>
   have I_law_copy:=ih
   exact (Z1a (g:=Gx.mk P w K mg base) (m:=i+1) (k:=0+i+1) (Z0:=Z0) (Z1:=Z1) (c_part_told:=c_part_told) (P_part_told:=P_part_told) (c_judge_of:=c_judge_of) (P_judge_of:=P_judge_of) (t.Z07 P w base) I_law_copy t.Z2 t.b_list t.Z3)
 have ZM:=GP_law_copy 61
 have G_law_other_1:=ZE (g:=Gx.mk P w K mg base) (m:=0) (k:=62) (Z0:=Z0) (Z1:=Z1) (c_part_told:=c_part_told) (P_part_told:=P_part_told) (c_judge_of:=c_judge_of) (P_judge_of:=P_judge_of) (t.Zf P w base) ((t.Zf P w base).none (fun _ _ _ _ h=>Ydu h)) (ZM.mono (by decide)) t.b_bool t.b_int t.Z2 t.b_len t.b_list t.b_str t.Z3
 have G_law_other_2:=ZE (g:=Gx.mk P w K mg base) (m:=1) (k:=63) (Z0:=Z0) (Z1:=Z1) (c_part_told:=c_part_told) (P_part_told:=P_part_told) (c_judge_of:=c_judge_of) (P_judge_of:=P_judge_of) (t.Zf P w base) (G_law_other_1.mono (by decide)) (ZM.mono (by decide)) t.b_bool t.b_int t.Z2 t.b_len t.b_list t.b_str t.Z3
 have G_law_other_3:=ZE (g:=Gx.mk P w K mg base) (m:=2) (k:=64) (Z0:=Z0) (Z1:=Z1) (c_part_told:=c_part_told) (P_part_told:=P_part_told) (c_judge_of:=c_judge_of) (P_judge_of:=P_judge_of) (t.Zf P w base) (G_law_other_2.mono (by decide)) (ZM.mono (by decide)) t.b_bool t.b_int t.Z2 t.b_len t.b_list t.b_str t.Z3
 have G_law_other_4:=ZE (g:=Gx.mk P w K mg base) (m:=3) (k:=65) (Z0:=Z0) (Z1:=Z1) (c_part_told:=c_part_told) (P_part_told:=P_part_told) (c_judge_of:=c_judge_of) (P_judge_of:=P_judge_of) (t.Zf P w base) (G_law_other_3.mono (by decide)) (ZM.mono (by decide)) t.b_bool t.b_int t.Z2 t.b_len t.b_list t.b_str t.Z3
 have G_law_other:=ZE (g:=Gx.mk P w K mg base) (m:=4) (k:=66) (Z0:=Z0) (Z1:=Z1) (c_part_told:=c_part_told) (P_part_told:=P_part_told) (c_judge_of:=c_judge_of) (P_judge_of:=P_judge_of) (t.Zf P w base) (G_law_other_4.mono (by decide)) (ZM.mono (by decide)) t.b_bool t.b_int t.Z2 t.b_len t.b_list t.b_str t.Z3
 have G_law_is:=YcN (g:=Gx.mk P w K mg base) (Z0:=Z0) (Z1:=Z1) (c_part_told:=c_part_told) (P_part_told:=P_part_told) (c_judge_of:=c_judge_of) (P_judge_of:=P_judge_of) (t.f_law_is P w base) t.b_bool t.Z2
 have G_law_rising:=Qn (g:=Gx.mk P w K mg base) (k:=1) (Z0:=Z0) (Z1:=Z1) (c_part_told:=c_part_told) (P_part_told:=P_part_told) (c_judge_of:=c_judge_of) (P_judge_of:=P_judge_of) (t.Z0n P w base) (Z1b.mono (by decide)) t.Z2 t.b_len t.b_list t.Z3
 exact Ydy (g:=Gx.mk P w K mg base) (k:=170) (Z0:=Z0) (Z1:=Z1) (c_part_told:=c_part_told) (P_part_told:=P_part_told) (c_judge_of:=c_judge_of) (P_judge_of:=P_judge_of) (G_same.mono (by decide)) (G_judge_of.mono (by decide)) (G_law_thing.mono (by decide)) (G_law_alike.mono (by decide)) (G_law_other.mono (by decide)) (ZM.mono (by decide)) (Z1b.mono (by decide)) (G_law_is.mono (by decide)) (G_law_rising.mono (by decide)) (by decide) t.b_list t.Zl hnd
end KW
theorem PySem.W.Fast.tw13426216048625073130:True:=trivial
theorem PySem.W.Fast.tw15690729888926247897:True:=trivial
theorem PySem.W.Fast.tw6468437020151982705:True:=trivial
theorem PySem.W.Fast.tw54242283872956138:True:=trivial
theorem PySem.W.Fast.tw14323446961816761939:True:=trivial
theorem PySem.W.Fast.tw7444864709861043440:True:=trivial
theorem PySem.W.Fast.tw5152885940652687529:True:=trivial
theorem PySem.W.Fast.tw2426482026719934638:True:=trivial
theorem PySem.W.Fast.tw13535787589328380028:True:=trivial
theorem PySem.W.Fast.tw10609522127668154560:True:=trivial
theorem PySem.W.Fast.tw9116959451067605027:True:=trivial
theorem PySem.W.Fast.tw13793168664171316526:True:=trivial
theorem PySem.W.Fast.tw8686997097177819476:True:=trivial
theorem PySem.W.Fast.tw16777997802604555159:True:=trivial
open PySem PySem.W PyProof.Rows
set_option maxRecDepth 100000 in
set_option maxHeartbeats 0 in
theorem PySem.Challenge.cw_countgen_k56_same_and_judges_holds : PySem.Challenge.rw_countgen_k56_same_and_judges.Holds := by
 w_on;o_law;k_head;(case hw=>w_witness2)
 k_fill
 refine' L2.YcA (l:=PySem.Challenge.rw_countgen_k56_same_and_judges) (tabs:=[("part_told",127,123),("judge_of",190,186)]) 170 "_law_script" KW.Qx ["_law_script","_law_way","_law_cells","_law_one","_law_other_here","_law_many","_law_k","_law_due","_law_here","_law_first","_law_second","_law_alike_here","_law_less","_law_added","_law_other_way","_law_both","_law_pair","_law_truth"] rfl rfl ⟨rfl,by decide,by decide,rfl⟩ KW.YU (fun w h Y=>by first | exact PySem.W.kIn_of Y | exact PySem.W.km_in_of Y) ?tR ?tT ?tN ?F
 case tR=>intro p hp;simp only [List.mem_cons,List.not_mem_nil,or_false] at hp;rcases hp with rfl | rfl<;>exact ⟨_,rfl⟩
 case tT=>intro w p hp;simp only [List.mem_cons,List.not_mem_nil,or_false] at hp;rcases hp with rfl | rfl<;>kernel_rfl
 case tN=>intro w p hp;simp only [List.mem_cons,List.not_mem_nil,or_false] at hp;rcases hp with rfl | rfl<;>kernel_rfl
 case F =>
  intro w mg h KX G
  refine' ⟨L2.Yck KX G ?a ?l ?c ?k (fun _ _ _ _ _ _ _ _ => .of_eq rfl),fun base hB hC=>KW.Ydz ⟨?ZR,?Z0M,?Z14,?Z15,?ZF,?ZS,?Zk,?Zz,?ZV,?f_same,?Z0g,?Zt,?Zg,?Zu,?Zv,?Zw,?Zm,?Zx,?f_told,?Z0B,?Z0N,?Z0O,?Zo,?Z0C,?ZW,?Z07,?Zf,?f_law_is,?Z0n,?b_all,?b_bool,?b_int,?Z2,?b_len,?b_list,?Zl,?b_str,?b_sum,?Z3,?b_zip,?x_CountError,?x_Astray,?xi_Astray,?xf_Astray,?xn_Astray_mark,?bi_CountError,?m_Astray_Astray⟩ _ w base hB (hC _ (.head _)) (hC _ (.tail _ (.head _))) (by decide)⟩
  (case a=>k_is)
  (case l=>k_is)
  (case c=>k_is)
  (case k=>k_is)
  case ZR =>
   refine' L2.YQ KX G ["thing"] ?a ?l ?c ?k (fun _ _ _ _ _ _ us hl=>by obtain ⟨_,rfl⟩:=KW.us1 hl;rfl)
   (case a=>k_is)
   (case l=>k_is)
   (case c=>k_is)
   (case k=>k_is)
  case Z0M =>
   refine' L2.YQ KX G ["thing"] ?a ?l ?c ?k (fun _ _ _ _ _ _ us hl=>by obtain ⟨_,rfl⟩:=KW.us1 hl;rfl)
   (case a=>k_is)
   (case l=>k_is)
   (case c=>k_is)
   (case k=>k_is)
  case Z14 =>
   refine' L2.YQ KX G ["thing"] ?a ?l ?c ?k (fun _ _ _ _ _ _ us hl=>by obtain ⟨_,rfl⟩:=KW.us1 hl;rfl)
   (case a=>k_is)
   (case l=>k_is)
   (case c=>k_is)
   (case k=>k_is)
  case Z15 =>
   refine' L2.YQ KX G ["thing"] ?a ?l ?c ?k (fun _ _ _ _ _ _ us hl=>by obtain ⟨_,rfl⟩:=KW.us1 hl;rfl)
   (case a=>k_is)
   (case l=>k_is)
   (case c=>k_is)
   (case k=>k_is)
  case ZF =>
   refine' L2.YQ KX G ["thing"] ?a ?l ?c ?k (fun _ _ _ _ _ _ us hl=>by obtain ⟨_,rfl⟩:=KW.us1 hl;rfl)
   (case a=>k_is)
   (case l=>k_is)
   (case c=>k_is)
   (case k=>k_is)
  case ZS =>
   refine' L2.YQ KX G ["thing"] ?a ?l ?c ?k (fun _ _ _ _ _ _ us hl=>by obtain ⟨_,rfl⟩:=KW.us1 hl;rfl)
   (case a=>k_is)
   (case l=>k_is)
   (case c=>k_is)
   (case k=>k_is)
  case Zk =>
   refine' L2.YQ KX G ["thing"] ?a ?l ?c ?k (fun _ _ _ _ _ _ us hl=>by obtain ⟨_,rfl⟩:=KW.us1 hl;rfl)
   (case a=>k_is)
   (case l=>k_is)
   (case c=>k_is)
   (case k=>k_is)
  case Zz =>
   refine' L2.YQ KX G ["thing"] ?a ?l ?c ?k (fun _ _ _ _ _ _ us hl=>by obtain ⟨_,rfl⟩:=KW.us1 hl;rfl)
   (case a=>k_is)
   (case l=>k_is)
   (case c=>k_is)
   (case k=>k_is)
  case ZV =>
   refine' L2.YQ KX G ["one","other"] ?a ?l ?c ?k (fun _ _ _ _ _ _ us hl=>by obtain ⟨_,_,rfl⟩:=KW.us2 hl;rfl)
   (case a=>k_is)
   (case l=>k_is)
   (case c=>k_is)
   (case k=>k_is)
  case f_same =>
   refine' L2.YQ KX G ["one","other"] ?a ?l ?c ?k (fun _ _ _ _ _ _ us hl=>by obtain ⟨_,_,rfl⟩:=KW.us2 hl;rfl)
   (case a=>k_is)
   (case l=>k_is)
   (case c=>k_is)
   (case k=>k_is)
  case Z0g =>
   refine' L2.YQ KX G ["mark","term","thing","can_take"] ?a ?l ?c ?k (fun _ _ _ _ _ _ us hl=>by obtain ⟨_,_,_,_,rfl⟩:=KW.us4 hl;rfl)
   (case a=>k_is)
   (case l=>k_is)
   (case c=>k_is)
   (case k=>k_is)
  case Zt =>
   refine' L2.Ya2 KX G ["body","thing"] ?a ?l ?c ?k ?e (fun _ _ _ _ _ _ us hl=>by obtain ⟨_,_,rfl⟩:=KW.us2 hl;rfl)
   (case a=>k_is)
   (case l=>k_is)
   (case c=>k_is)
   (case k=>k_is)
   (case e=>rfl)
  case Zg =>
   refine' L2.YQ KX G ["mark","body","thing"] ?a ?l ?c ?k (fun _ _ _ _ _ _ us hl=>by obtain ⟨_,_,_,rfl⟩:=KW.us3 hl;rfl)
   (case a=>k_is)
   (case l=>k_is)
   (case c=>k_is)
   (case k=>k_is)
  case Zu =>
   refine' L2.YQ KX G ["body","thing"] ?a ?l ?c ?k (fun _ _ _ _ _ _ us hl=>by obtain ⟨_,_,rfl⟩:=KW.us2 hl;rfl)
   (case a=>k_is)
   (case l=>k_is)
   (case c=>k_is)
   (case k=>k_is)
  case Zv =>
   refine' L2.YQ KX G ["body","thing"] ?a ?l ?c ?k (fun _ _ _ _ _ _ us hl=>by obtain ⟨_,_,rfl⟩:=KW.us2 hl;rfl)
   (case a=>k_is)
   (case l=>k_is)
   (case c=>k_is)
   (case k=>k_is)
  case Zw =>
   refine' L2.YQ KX G ["body","thing"] ?a ?l ?c ?k (fun _ _ _ _ _ _ us hl=>by obtain ⟨_,_,rfl⟩:=KW.us2 hl;rfl)
   (case a=>k_is)
   (case l=>k_is)
   (case c=>k_is)
   (case k=>k_is)
  case Zm =>
   refine' L2.YQ KX G ["body","thing"] ?a ?l ?c ?k (fun _ _ _ _ _ _ us hl=>by obtain ⟨_,_,rfl⟩:=KW.us2 hl;rfl)
   (case a=>k_is)
   (case l=>k_is)
   (case c=>k_is)
   (case k=>k_is)
  case Zx =>
   refine' L2.YQ KX G ["body","thing"] ?a ?l ?c ?k (fun _ _ _ _ _ _ us hl=>by obtain ⟨_,_,rfl⟩:=KW.us2 hl;rfl)
   (case a=>k_is)
   (case l=>k_is)
   (case c=>k_is)
   (case k=>k_is)
  case f_told =>
   refine' L2.YQ KX G ["term","thing"] ?a ?l ?c ?k (fun _ _ _ _ _ _ us hl=>by obtain ⟨_,_,rfl⟩:=KW.us2 hl;rfl)
   (case a=>k_is)
   (case l=>k_is)
   (case c=>k_is)
   (case k=>k_is)
  case Z0B =>
   refine' L2.YQ KX G ["term","thing"] ?a ?l ?c ?k (fun _ _ _ _ _ _ us hl=>by obtain ⟨_,_,rfl⟩:=KW.us2 hl;rfl)
   (case a=>k_is)
   (case l=>k_is)
   (case c=>k_is)
   (case k=>k_is)
  case Z0N =>
   refine' L2.Ya2 KX G ["term"] ?a ?l ?c ?k ?e (fun _ _ _ _ _ _ us hl=>by obtain ⟨_,rfl⟩:=KW.us1 hl;rfl)
   (case a=>k_is)
   (case l=>k_is)
   (case c=>k_is)
   (case k=>k_is)
   (case e=>rfl)
  case Z0O =>
   refine' L2.YQ KX G ["_law_cells","_law_many"] ?a ?l ?c ?k (fun _ _ _ _ _ _ us hl=>by obtain ⟨_,_,rfl⟩:=KW.us2 hl;rfl)
   (case a=>k_is)
   (case l=>k_is)
   (case c=>k_is)
   (case k=>k_is)
  case Zo =>
   refine' L2.YQ KX G ["_law_cells","_law_left"] ?a ?l ?c ?k (fun _ _ _ _ _ _ us hl=>by obtain ⟨_,_,rfl⟩:=KW.us2 hl;rfl)
   (case a=>k_is)
   (case l=>k_is)
   (case c=>k_is)
   (case k=>k_is)
  case Z0C =>
   refine' L2.YQ KX G ["_law_thing_here"] ?a ?l ?c ?k (fun _ _ _ _ _ _ us hl=>by obtain ⟨_,rfl⟩:=KW.us1 hl;rfl)
   (case a=>k_is)
   (case l=>k_is)
   (case c=>k_is)
   (case k=>k_is)
  case ZW =>
   refine' L2.YQ KX G ["_law_one","_law_other_here"] ?a ?l ?c ?k (fun _ _ _ _ _ _ us hl=>by obtain ⟨_,_,rfl⟩:=KW.us2 hl;rfl)
   (case a=>k_is)
   (case l=>k_is)
   (case c=>k_is)
   (case k=>k_is)
  case Z07 =>
   refine' L2.YQ KX G ["_law_thing_here"] ?a ?l ?c ?k (fun _ _ _ _ _ _ us hl=>by obtain ⟨_,rfl⟩:=KW.us1 hl;rfl)
   (case a=>k_is)
   (case l=>k_is)
   (case c=>k_is)
   (case k=>k_is)
  case Zf =>
   refine' L2.YQ KX G ["_law_thing_here","_law_cell"] ?a ?l ?c ?k (fun _ _ _ _ _ _ us hl=>by obtain ⟨_,_,rfl⟩:=KW.us2 hl;rfl)
   (case a=>k_is)
   (case l=>k_is)
   (case c=>k_is)
   (case k=>k_is)
  case f_law_is =>
   refine' L2.YQ KX G ["_law_found","_law_due"] ?a ?l ?c ?k (fun _ _ _ _ _ _ us hl=>by obtain ⟨_,_,rfl⟩:=KW.us2 hl;rfl)
   (case a=>k_is)
   (case l=>k_is)
   (case c=>k_is)
   (case k=>k_is)
  case Z0n =>
   refine' L2.YQ KX G ["_law_thing_here"] ?a ?l ?c ?k (fun _ _ _ _ _ _ us hl=>by obtain ⟨_,rfl⟩:=KW.us1 hl;rfl)
   (case a=>k_is)
   (case l=>k_is)
   (case c=>k_is)
   (case k=>k_is)
  case b_all =>
   refine' PySem.W.mg_none_of KX G ?a
   (case a=>k_is)
  case b_bool =>
   refine' PySem.W.mg_none_of KX G ?a
   (case a=>k_is)
  case b_int =>
   refine' PySem.W.mg_none_of KX G ?a
   (case a=>k_is)
  case Z2 =>
   refine' PySem.W.mg_none_of KX G ?a
   (case a=>k_is)
  case b_len =>
   refine' PySem.W.mg_none_of KX G ?a
   (case a=>k_is)
  case b_list =>
   refine' PySem.W.mg_none_of KX G ?a
   (case a=>k_is)
  case Zl =>
   refine' PySem.W.mg_none_of KX G ?a
   (case a=>k_is)
  case b_str =>
   refine' PySem.W.mg_none_of KX G ?a
   (case a=>k_is)
  case b_sum =>
   refine' PySem.W.mg_none_of KX G ?a
   (case a=>k_is)
  case Z3 =>
   refine' PySem.W.mg_none_of KX G ?a
   (case a=>k_is)
  case b_zip =>
   refine' PySem.W.mg_none_of KX G ?a
   (case a=>k_is)
  case x_CountError =>
   refine' PySem.W.mg_of KX G ?a
   (case a=>k_is)
  case x_Astray =>
   refine' PySem.W.mg_of KX G ?a
   (case a=>k_is)
  case xi_Astray =>
   refine' L2.Yec KX G ["self","mark"] ?aC ?a ?o ?i ?l ?c ?k (fun _ _ _ _ _ _ us hl=>by obtain ⟨_,_,rfl⟩:=KW.us2 hl;rfl)
   (case aC=>k_is)
   (case a=>k_is)
   (case o=>kernel_rfl)
   (case i=>k_is)
   (case l=>k_is)
   (case c=>k_is)
   (case k=>k_is)
  case xf_Astray =>
   refine' ⟨?a,?b,?c⟩
   (case a=>k_is)
   (case b=>kernel_rfl)
   (case c=>k_is)
  case xn_Astray_mark=>k_is
  case bi_CountError =>
   refine' L2.Ydk KX G ?a ?b ?c ?d
   (case a=>k_is)
   (case b=>k_is)
   (case c=>k_is)
   (case d=>k_is)
  case m_Astray_Astray=>kts_exm
