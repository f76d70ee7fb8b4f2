import PyProof.Rows.All
import Wide.All
import OpenK.AllK
import Wide.FinOn
import Lean
import PyProof.EqAt
import PyProof.EqKinds
import PyProof.TupleCall
import PyProof.NeData
import KE.KTryMore
import PyProof.ExcBaseAll.ValueError
import PyProof.ExcArgsOwn
import KE.KIntText
import PyProof.Rows.SetFrom
import PyProof.SetRoads
import PyProof.StrWalks
import PyProof.ListStr
import PyProof.Rows.StrSplitCount
import PyProof.MeetsStr
import PyProof.MeetsStr2
import PyProof.StrOps2
import KE.KTryOn
import OpenK.KMake
import PyProof.ReprRoads
import PyProof.ReprLen
import PyProof.StrLawsRepr
import PyProof.CallFns
import KE.KSortTup
import PySem.Challenge.RW_countgen_k24_lists_in_order_judged
set_option compiler.extract_closed false
set_option Elab.async false
set_option linter.all false
set_option maxRecDepth 100000
namespace L2
open PySem PySem.Spec PyProof.Rows
abbrev Key:=Sum Int Str
def W7:Key→Value→Bool
 | .inl k,v=>Value.isInt k v
 | .inr x,v=>Value.isStrOf x v
def keyH (w:World):Key→Int
 | .inl k=>hashInt k
 | .inr x=>hashStr w x
theorem Y1:∀ {k:Key} {v:Value},W7 k v=true→(∃ i t,k=Sum.inl i∧v=Value.int i t)∨(∃ x t,k=Sum.inr x∧v=Value.str x t)
 | .inl i,v,h=>by
  obtain ⟨t,e⟩:=Value.isInt_shape (k:=i) (v:=v) h
  exact .inl ⟨i,t,rfl,e⟩
 | .inr x,v,h=>by
  obtain ⟨t,e⟩:=Value.isStrOf_shape (x:=x) (v:=v) h
  exact .inr ⟨x,t,rfl,e⟩
theorem Ya6 (i:Int) (t:Tok):W7 (.inl i) (.int i t)=true:=by simp [W7,Value.isInt]
theorem Ya7 (x:Str) (t:Tok):W7 (.inr x) (.str x t)=true:=by simp [W7,Value.isStrOf]
theorem YdQ (a b:Int):decide ((Sum.inl a:Key)=Sum.inl b)=(a==b):=by
 by_cases e:a=b
 ·subst e;simp
 ·have h:¬ (Sum.inl a:Key)=Sum.inl b:=fun q=>e (Sum.inl.inj q)
  rw [decide_eq_false h]
  exact (beq_eq_false_iff_ne.mpr e).symm
theorem YdR (a b:Str):decide ((Sum.inr a:Key)=Sum.inr b)=decide (a=b):=by
 by_cases e:a=b
 ·subst e;simp
 ·have h:¬ (Sum.inr a:Key)=Sum.inr b:=fun q=>e (Sum.inr.inj q)
  rw [decide_eq_false h,decide_eq_false e]
theorem YdS (a:Int) (b:Str):decide ((Sum.inl a:Key)=Sum.inr b)=false:=decide_eq_false (fun q=>nomatch q)
theorem YdT (a:Str) (b:Int):decide ((Sum.inr a:Key)=Sum.inl b)=false:=decide_eq_false (fun q=>nomatch q)
def Xm (prog:Program) (w:World):PySem.KeyKind prog w Key where
 is:=W7
 hash:=keyH w
 inj:=fun v a b ha hb=>by
  rcases Y1 ha with ⟨i,t,rfl,rfl⟩ | ⟨x,t,rfl,rfl⟩
  ·rcases Y1 hb with ⟨j,u,rfl,e⟩ | ⟨y,u,rfl,e⟩
   ·injection e with e1 _;rw [e1]
   ·exact nomatch e
  ·rcases Y1 hb with ⟨j,u,rfl,e⟩ | ⟨y,u,rfl,e⟩
   ·exact nomatch e
   ·injection e with e1 _;rw [e1]
 byValue:=fun k v h=>by
  rcases Y1 h with ⟨i,t,rfl,rfl⟩ | ⟨x,t,rfl,rfl⟩<;>rfl
 pyHash:=fun hv h=>by
  rcases Y1 hv with ⟨i,t,rfl,rfl⟩ | ⟨x,t,rfl,rfl⟩
  ·exact wpAny_pyHash_int h
  ·exact wpAny_pyHash_str h
 eqBool:=fun hu hv h=>by
  rcases Y1 hu with ⟨i,t,rfl,rfl⟩ | ⟨x,t,rfl,rfl⟩
  ·rcases Y1 hv with ⟨j,u,rfl,rfl⟩ | ⟨y,u,rfl,rfl⟩
   ·rw [YdQ] at h;exact wpAny_eqBool_int h
   ·rw [YdS] at h;exact SeqAt.EqAt.int_str i t y u _ _ _ _ h
  ·rcases Y1 hv with ⟨j,u,rfl,rfl⟩ | ⟨y,u,rfl,rfl⟩
   ·rw [YdT] at h;exact SeqAt.EqAt.str_int x t j u _ _ _ _ h
   ·rw [YdR] at h;exact wpAny_eqBool_str h
 «strs»:=fun k x t v h=>by
  rcases Y1 h with ⟨i,u,rfl,e⟩ | ⟨y,u,rfl,e⟩
  ·exact nomatch e
  ·injection e with e1 _
   subst e1
   cases v<;>rfl
theorem QT (prog:Program) (w:World) (i:Int) (t:Tok):(Xm prog w).is (.inl i) (.int i t)=true:=Ya6 i t
theorem QU (prog:Program) (w:World) (x:Str) (t:Tok):(Xm prog w).is (.inr x) (.str x t)=true:=Ya7 x t
end L2
namespace L2
open PySem PySem.Spec PyProof.Rows
inductive V where
 | non | bl (b:Bool) | int (i:Int) | str (x:Str) | byt (b:Array UInt8) | flt (b:UInt64) | ref (a:Addr) | ty (n:String)
 deriving DecidableEq
def Yr:V→Value→Prop
 | .non,u=>u=Value.none
 | .bl b,u=>u=Value.bool b
 | .int i,u=>∃ t,u=Value.int i t
 | .str x,u=>∃ t,u=Value.str x t
 | .byt b,u=>∃ t,u=Value.bytes b t
 | .flt b,u=>∃ t,u=Value.float b t
 | .ref a,u=>u=Value.ref a
 | .ty n,u=>u=Value.type n
abbrev Yn:List V→List Value→Prop:=Paired Yr
theorem Yn.length {xs:List V} {us:List Value} (r:Yn xs us):xs.length=us.length:=Paired.length r
theorem Yn.get:∀ {xs:List V} {us:List Value} {i:Nat} {x:V},Yn xs us→xs[i]?=some x→∃ u,us[i]?=some u∧Yr x u
 | _,_,_,_,.nil,e=>by simp at e
 | _,_,0,_,.cons r _,e=>by simp at e;subst e;exact ⟨_,rfl,r⟩
 | _,_,i+1,x,.cons _ t,e=>by
  obtain ⟨u,h1,h2⟩:=Yn.get (i:=i) (x:=x) t (by simpa using e)
  exact ⟨u,by simpa using h1,h2⟩
theorem Yn.set {x:V} {u:Value} (r:Yr x u):∀ {xs:List V} {us:List Value} (i:Nat),Yn xs us→Yn (xs.set i x) (us.set i u)
 | _,_,_,.nil => .nil
 | _,_,0,.cons _ t => .cons r t
 | _,_,i+1,.cons q t => .cons q (Yn.set r i t)
theorem Yn.append:∀ {xs ys:List V} {us ws:List Value},Yn xs us→Yn ys ws→Yn (xs++ys) (us++ws)
 | _,_,_,_,.nil,s=>s
 | _,_,_,_,.cons r t,s => .cons r (Yn.append t s)
theorem Yn.take:∀ {xs:List V} {us:List Value} (n:Nat),Yn xs us→Yn (xs.take n) (us.take n)
 | _,_,0,_ => .nil
 | _,_,_+1,.nil => .nil
 | _,_,n+1,.cons r t => .cons r (Yn.take n t)
theorem Yn.drop:∀ {xs:List V} {us:List Value} (n:Nat),Yn xs us→Yn (xs.drop n) (us.drop n)
 | _,_,0,r=>r
 | _,_,_+1,.nil => .nil
 | _,_,n+1,.cons _ t=>Yn.drop n t
def UX:Option V→Option Value→Prop
 | some v,some u=>Yr v u
 | none,none=>True
 | _,_=>False
def KV {κ:Type}:List (κ×V)→List (κ×Value)→Prop:=Paired fun (p:κ×V) (q:κ×Value)=>p.1=q.1∧Yr p.2 q.2
def kV:Key→V
 | .inl i => .int i
 | .inr x => .str x
inductive HO where
 /-- a list -/
 | lst (xs:List V)
 /-- a tuple (never changes) -/
 | tup (xs:List V)
 /-- a dict whose keys are ints and texts;one whose keys are tuples of ints and texts (the empty one is both) -/
 | dK (kvs:List (Key×V)) | dT (kvs:List (List Key×V))
 /-- a set of ints: its members,its size -/
 | set (S:Int→Bool) (n:Nat)
 /-- an instance of the class at C,its dict at dx,its attributes -/
 | ins (C dx:Addr) (fs:List (Str×V))
 /-- the dict of the instance at x -/
 | own (x:Addr)
 /-- the dict of an exception -/
 | xd (fs:List (Str×V))
 /-- a bound method,f of x -/
 | met (f x:Addr)
 /-- a range object lo,lo+1,.. below hi -/
 | rng (lo hi:Int)
 /-- a thing that is known to the object (the script;a dict while a loop walks it): read,never written while it is so -/
 | frz (o:Obj) (u:HO)
 /-- a code object's table -/
 | tbl (ps:Array Value)
 /-- any other thing,by what is true of its one object (a def of one's own: SetO a S n:=HO.ext fun h => ..) -/
 | ext (φ:Heap→Prop)
abbrev Hp:=Addr→Option HO
def upd (H:Hp) (a:Addr) (o:HO):Hp:=fun b=>if b=a then some o else H b
theorem Yc {H:Hp} {a:Addr} {o:HO}:upd H a o a=some o:=by unfold upd;rw [if_pos rfl]
theorem Yh {H:Hp} {a b:Addr} {o:HO} (h:b≠a):upd H a o b=H b:=by unfold upd;rw [if_neg h]
theorem X4 {H:Hp} {a b:Addr} {o u:HO} (h:H a=some o) (h':H b=some u) (d:o≠u):a≠b:=by
 intro e;subst e;rw [h] at h';exact d (Option.some.inj h')
theorem Yv {H:Hp} {a b:Addr} {o:HO} (h:H a=some o) (h':H b=none):a≠b:=by
 intro e;subst e;rw [h] at h';cases h'
section
variable (P:Program) (w:World)
def YJ (H:Hp) (h:Heap) (a:Addr):HO→Prop
 | .lst xs=>xs.length≤sizeLine∧∃ (its:List Value) (n:Nat),Yn xs its∧h.get? a=some { cls := .type "list",data := .seq its.toArray n }
 | .tup xs=>xs.length≤sizeLine∧∃ its:List Value,Yn xs its∧IsTup h a its.toArray
 | .dK kvs=>kvs.length≤sizeLine∧(a==sysModules)=false∧∃ vs,KV kvs vs∧h.DictOf (Xm P w) a vs
 | .dT kvs=>kvs.length≤sizeLine∧(a==sysModules)=false∧∃ xs:List (List Key×Addr×Value),
   Paired (fun (p:List Key×V) (q:List Key×Addr×Value)=>p.1=q.1∧H q.2.1=some (.tup (p.1.map kV))∧Yr p.2 q.2.2) kvs xs ∧
   ∃ o es ep,h.get? a=some o∧o.ExactDict∧o.data = .dict es ep∧es.toList=xs.map (entryOfKey (tupleKind (Xm P w)))∧(xs.map (·.1)).Nodup
 | .set S n=>h.SetOf (intKind P w) a S n
 | .ins C dx fs=>H dx=some (.own a)∧fs.length≤1000∧dx≠a∧h.get? a=some (PySem.W.instObj C dx) ∧
   ∃ mA,h.Ns1 dx mA∧(∀ f,UX (fs.lookup f) (mA f))∧PySem.Within mA (fs.map (·.1))
 | .own _=>∃ o,h.get? a=some o
 | .xd fs=>∃ mA,h.Ns1 a mA∧∀ f,UX (fs.lookup f) (mA f)
 | .rng lo hi=>∃ t u v,h.get? a=some { cls := .type "range",data := .fields #[.int lo t,.int hi u,.int 1 v] }
 | .frz o u=>h.get? a=some o∧YJ H h a u
 | .tbl ps=>h.get? a=some { cls := .none,data := .fields ps }
 | .met f x=>h.get? a=some (PySem.W.methodObj (.ref f) (.ref x))
 | .ext φ=>φ h∧(∃ o,h.get? a=some o)∧∀ h1 h2:Heap,φ h1→(∀ o,h1.get? a=some o→h2.get? a=some o)→φ h2
def HOk (H:Hp) (h:Heap):Prop:=∀ a o,H a=some o→YJ P w H h a o
end
section
variable {P:Program} {w:World} {H H':Hp} {h h':Heap} {a:Addr} {o:HO}
theorem YJ.lt (x:YJ P w H h a o):a<h.objs.size:=by
 cases o with
 | lst xs=>obtain ⟨_,_,_,_,e⟩:=x;exact Heap.lt_size e
 | tup xs=>obtain ⟨_,_,_,p⟩:=x;exact p.lt
 | dK kvs=>obtain ⟨_,_,_,_,o,_,_,e,_⟩:=x;exact Heap.lt_size e
 | dT kvs=>obtain ⟨_,_,_,_,o,_,_,e,_⟩:=x;exact Heap.lt_size e
 | set S n=>obtain ⟨o,_,_,_,e,_⟩:=x;exact Heap.lt_size e
 | ins C dx fs=>obtain ⟨_,_,_,e,_⟩:=x;exact Heap.lt_size e
 | own y=>obtain ⟨_,e⟩:=x;exact Heap.lt_size e
 | xd fs=>obtain ⟨_,⟨_,_,_,e,_⟩,_⟩:=x;exact Heap.lt_size e
 | rng lo hi=>obtain ⟨_,_,_,e⟩:=x;exact Heap.lt_size e
 | frz ob u=>obtain ⟨e,_⟩:=x;exact Heap.lt_size e
 | tbl ps=>exact Heap.lt_size (show h.get? a=some _ from x)
 | met f y=>exact Heap.lt_size (show h.get? a=some _ from x)
 | ext φ=>obtain ⟨_,⟨_,e⟩,_⟩:=x;exact Heap.lt_size e
theorem Paired.mapP {α β:Type} {F G:α→β→Prop}:∀ {l₁:List α} {l₂:List β},Paired F l₁ l₂→(∀ a b,F a b→G a b)→Paired G l₁ l₂
 | _,_,.nil,_ => .nil
 | _,_,.cons r t,f => .cons (f _ _ r) (Paired.mapP t f)
theorem YJ.stay (x:YJ P w H h a o) (k:∀ b u,(b=a∨H b=some (.own a))→h.get? b=some u→h'.get? b=some u)
  (ho:∀ b,H b=some (.own a)→H' b=some (.own a)) (ht:∀ b xs,H b=some (.tup xs)→H' b=some (.tup xs)):YJ P w H' h' a o:=by
 induction o with
 | lst xs=>obtain ⟨z,its,n,r,e⟩:=x;exact ⟨z,its,n,r,k _ _ (.inl rfl) e⟩
 | tup xs=>obtain ⟨z,its,r,ob,e,c⟩:=x;exact ⟨z,its,r,ob,k _ _ (.inl rfl) e,c⟩
 | dK kvs=>obtain ⟨z,y,vs,r,ob,es,ep,e,c⟩:=x;exact ⟨z,y,vs,r,ob,es,ep,k _ _ (.inl rfl) e,c⟩
 | dT kvs =>
  obtain ⟨z,y,xs,r,ob,es,ep,e,c⟩:=x
  exact ⟨z,y,xs,Paired.mapP r fun p q z=>⟨z.1,ht _ _ z.2.1,z.2.2⟩,ob,es,ep,k _ _ (.inl rfl) e,c⟩
 | set S n=>obtain ⟨ob,es,ep,t,e,c⟩:=x;exact ⟨ob,es,ep,t,k _ _ (.inl rfl) e,c⟩
 | ins C dx fs =>
  obtain ⟨d,z,ne,e,mA,⟨od,es,ep,e2,c⟩,r⟩:=x
  exact ⟨ho _ d,z,ne,k _ _ (.inl rfl) e,mA,⟨od,es,ep,k _ _ (.inr d) e2,c⟩,r⟩
 | own y=>obtain ⟨ob,e⟩:=x;exact ⟨ob,k _ _ (.inl rfl) e⟩
 | xd fs=>obtain ⟨mA,⟨od,es,ep,e,c⟩,r⟩:=x;exact ⟨mA,⟨od,es,ep,k _ _ (.inl rfl) e,c⟩,r⟩
 | rng lo hi=>obtain ⟨t,u,v,e⟩:=x;exact ⟨t,u,v,k _ _ (.inl rfl) e⟩
 | frz ob u ih=>obtain ⟨e,q⟩:=x;exact ⟨k _ _ (.inl rfl) e,ih q⟩
 | tbl ps =>
  have e:h.get? a=some { cls := .none,data := .fields ps }:=x
  show h'.get? a=some { cls := .none,data := .fields ps }
  exact k a _ (.inl rfl) e
 | met f y =>
  have e:h.get? a=some (PySem.W.methodObj (.ref f) (.ref y)):=x
  show h'.get? a=some (PySem.W.methodObj (.ref f) (.ref y))
  exact k a _ (.inl rfl) e
 | ext φ=>obtain ⟨p,⟨o,e⟩,st⟩:=x;exact ⟨st _ _ p fun o q=>k _ _ (.inl rfl) q,⟨o,k _ _ (.inl rfl) e⟩,st⟩
theorem HOk.lt (x:HOk P w H h) (e:H a=some o):a<h.objs.size:=(x a o e).lt
theorem HOk.fresh (x:HOk P w H h) (e:h.objs.size≤a):H a=none:=by
 cases q:H a with
 | none=>rfl
 | some u=>exact absurd (Nat.lt_of_lt_of_le (x.lt q) e) (Nat.lt_irrefl _)
theorem HOk.kept (x:HOk P w H h) (k:∀ b u,h.get? b=some u→h'.get? b=some u):HOk P w H h':=fun a o e =>
 (x a o e).stay (fun b u _ q=>k b u q) (fun _ q=>q) fun _ _ q=>q
theorem HOk.laid (x:HOk P w H h) (k:∀ b u,h.get? b=some u→h'.get? b=some u) (hp:h.objs.size≤a) (new:YJ P w (upd H a o) h' a o):HOk P w (upd H a o) h':=fun b u e=>by
 have hn:=x.fresh hp
 by_cases hb:b=a
 ·subst hb;rw [Yc] at e;cases e;exact new
 ·rw [Yh hb] at e
  exact (x b u e).stay (fun c v _ q=>k c v q) (fun c q=>by rw [Yh (Yv q hn)];exact q) fun c xs q=>by rw [Yh (Yv q hn)];exact q
end
def Rd (H:Hp) (a:Addr) (u:HO):Prop:=H a=some u∨∃ o,H a=some (.frz o u)
theorem Rd.of {H:Hp} {a:Addr} {u:HO} (h:H a=some u):Rd H a u := .inl h
theorem Rd.ok {P:Program} {w:World} {H:Hp} {h:Heap} {a:Addr} {u:HO} (r:Rd H a u) (x:HOk P w H h):YJ P w H h a u:=by
 rcases r with r | ⟨o,r⟩
 ·exact x a u r
 ·obtain ⟨_,q⟩:=x a _ r
  exact q
def Mut:Option HO→Prop
 | some (.lst _)=>True
 | some (.dK _)=>True
 | some (.dT _)=>True
 | some (.set _ _)=>True
 | some (.ins _ _ _)=>True
 | some (.ext _)=>True
 | _=>False
section
variable {P:Program} {w:World} {H:Hp} {h h':Heap} {x e:Addr} {o':HO}
theorem HOk.write (ok:HOk P w H h) (mu:Mut (H x)) (he:e=x∨H e=some (.own x)) (k:∀ b u,b≠e→h.get? b=some u→h'.get? b=some u) (heo:∃ u,h'.get? e=some u)
  (new:YJ P w (upd H x o') h' x o'):HOk P w (upd H x o') h':=fun b u q=>by
 have nown:∀ c y,H c=some (.own y)→c≠x:=fun c y r z=>by subst z;rw [r] at mu;exact mu
 have ntup:∀ c xs,H c=some (.tup xs)→c≠x:=fun c xs r z=>by subst z;rw [r] at mu;exact mu
 by_cases hb:b=x
 ·subst hb;rw [Yc] at q;cases q;exact new
 ·rw [Yh hb] at q
  by_cases hbe:b=e
  ·have q':H b=some (.own x):=by
    rcases he with z | z
    ·exact absurd (hbe.trans z) hb
    ·rw [hbe];exact z
   rw [q] at q';cases q'
   obtain ⟨v,hv⟩:=heo
   exact ⟨v,by rw [hbe];exact hv⟩
  ·refine (ok b u q).stay (fun c v hc r=>k c v ?_ r) (fun c r=>by rw [Yh (nown c b r)];exact r) fun c xs r=>by rw [Yh (ntup c xs r)];exact r
   rcases hc with rfl | hc
   ·exact hbe
   ·rintro rfl
    rcases he with z | z
    ·exact nown c b hc z
    ·rw [hc] at z;cases z;exact hb rfl
end
structure Un (fs ex:List Addr) (H H':Hp) (h h':Heap):Prop where
 keep:∀ b o,h.get? b=some o→H b=none→b∉fs→b∉ex→h'.get? b=some o
 slot:∀ b o,h.get? b=some o→H b=none→b∈fs→b∉ex→∃ sl,h'.get? b=some { o with slots:=sl }
 free:∀ b o,h.get? b=some o→H b=none→b∉ex→H' b=none
 there:∀ b o,h.get? b=some o→b∉ex→∃ o',h'.get? b=some o'
 tups:∀ b xs,H b=some (.tup xs)→H' b=some (.tup xs)
 frzs:∀ b o u,H b=some (.frz o u)→H' b=some (.frz o u)
 tbls:∀ b ps,H b=some (.tbl ps)→∃ more,H' b=some (.tbl (ps++more))
section
variable {fs fs' ex ex':List Addr} {H H1 H2:Hp} {h h1 h2 h':Heap} {a x e:Addr} {o:HO}
theorem Un.any (u:Un fs ex H H1 h h1) {b:Addr} {ob:Obj} (q:h.get? b=some ob) (n:H b=none) (hx:b∉ex):∃ sl,h1.get? b=some { ob with slots:=sl }:=by
 by_cases hb:b∈fs
 ·exact u.slot b ob q n hb hx
 ·exact ⟨ob.slots,u.keep b ob q n hb hx⟩
theorem Un.trans (a:Un fs ex H H1 h h1) (b:Un fs ex H1 H2 h1 h2):Un fs ex H H2 h h2 where
 keep:=fun c ob q n hc hx=>b.keep c ob (a.keep c ob q n hc hx) (a.free c ob q n hx) hc hx
 slot:=fun c ob q n hc hx=>by
  obtain ⟨sl,e1⟩:=a.slot c ob q n hc hx
  obtain ⟨sl',e2⟩:=b.slot c _ e1 (a.free c ob q n hx) hc hx
  exact ⟨sl',e2⟩
 free:=fun c ob q n hx=>by
  obtain ⟨o',e1⟩:=a.there c ob q hx
  exact b.free c o' e1 (a.free c ob q n hx) hx
 there:=fun c ob q hx=>by
  obtain ⟨o',e1⟩:=a.there c ob q hx
  exact b.there c o' e1 hx
 tups:=fun c xs q=>b.tups c xs (a.tups c xs q)
 frzs:=fun c ob xs q=>b.frzs c ob xs (a.frzs c ob xs q)
 tbls:=fun c ps q=>by
  obtain ⟨m1,e1⟩:=a.tbls c ps q
  obtain ⟨m2,e2⟩:=b.tbls c _ e1
  exact ⟨m1++m2,by rw [e2,Array.append_assoc]⟩
theorem Un.kept (k:∀ b u,h.get? b=some u→h'.get? b=some u):Un fs ex H H h h' :=
 ⟨fun b ob q _ _ _=>k b ob q,fun b ob q _ _ _=>⟨ob.slots,k b ob q⟩,fun _ _ _ n _=>n,fun b ob q _=>⟨ob,k b ob q⟩,fun _ _ q=>q,fun _ _ _ q=>q,fun _ ps q=>⟨#[],by rw [q];simp⟩⟩
theorem Un.refl:Un fs ex H H h h:=Un.kept fun _ _ q=>q
theorem Un.laid (k:∀ b u,h.get? b=some u→h'.get? b=some u) (hp:h.objs.size≤a) (hn:H a=none):Un fs ex H (upd H a o) h h' where
 keep:=fun b u q _ _ _=>k b u q
 slot:=fun b u q _ _ _=>⟨u.slots,k b u q⟩
 free:=fun b u q n _=>by rw [Yh (Nat.ne_of_lt (Nat.lt_of_lt_of_le (Heap.lt_size q) hp))];exact n
 there:=fun b u q _=>⟨u,k b u q⟩
 tups:=fun b xs q=>by rw [Yh (Yv q hn)];exact q
 frzs:=fun b u xs q=>by rw [Yh (Yv q hn)];exact q
 tbls:=fun b ps q=>⟨#[],by rw [Yh (Yv q hn),q];simp⟩
theorem Un.write (mu:Mut (H x)) (he:e=x∨H e=some (.own x)) (k:∀ b u,b≠e→h.get? b=some u→h'.get? b=some u) (heo:∃ u,h'.get? e=some u):Un fs ex H (upd H x o) h h':=by
 have hx:∀ b,H b=none→b≠x:=fun b n z=>by subst z;rw [n] at mu;exact mu
 have hb:∀ b,H b=none→b≠e:=fun b n z=>by
  subst z
  rcases he with r | r
  ·exact hx b n r
  ·rw [n] at r;cases r
 have hm:∀ b u,H b=some u→¬ Mut (some u)→b≠x:=fun b u q nm z=>by subst z;rw [q] at mu;exact nm mu
 refine ⟨fun b u q n _ _=>k b u (hb b n) q,fun b u q n _ _=>⟨u.slots,k b u (hb b n) q⟩,fun b u q n _=>by rw [Yh (hx b n)];exact n,fun b u q _=>?_,
  fun b xs q=>by rw [Yh (hm b _ q fun z=>z)];exact q,fun b u xs q=>by rw [Yh (hm b _ q fun z=>z)];exact q,fun b ps q=>⟨#[],by rw [Yh (hm b _ q fun z=>z),q];simp⟩⟩
 by_cases hbe:b=e
 ·subst hbe;exact heo
 ·exact ⟨u,k b u hbe q⟩
end
def trk (h:Heap) (H:Hp):List Addr:=(List.range h.objs.size).filter fun a=>(H a).isSome
def Wk (h:Heap) (H:Hp):Heap:=PySem.W.hideAll h (trk h H)
theorem Ya8 (h:Heap) (H:Hp):(Wk h H).objs.size=h.objs.size:=PySem.W.hideAll_size _ _
theorem Yb9 {h:Heap} {H:Hp} {b:Addr} {o:Obj} (e:h.get? b=some o) (n:H b=none):(Wk h H).get? b=some o :=
 PySem.W.hideAll_get _ e fun hm=>by
  have q:(H b).isSome=true:=(List.mem_filter.mp hm).2
  rw [n] at q;simp at q
theorem Yda {h:Heap} {H:Hp} {b:Addr} {o:Obj} (e:(Wk h H).get? b=some o):h.get? b=some o∧H b=none:=by
 have e':h.get? b=some o:=PySem.W.of_hideAll (trk h H) e
 refine ⟨e',?_⟩
 cases q:H b with
 | none=>rfl
 | some x =>
  have hm:b∈trk h H:=List.mem_filter.mpr ⟨List.mem_range.mpr (Heap.lt_size e'),by simp [q]⟩
  have z:(Wk h H).get? b=none:=PySem.W.hideAll_none (trk h H) hm
  rw [z] at e;cases e
def Ydb (g h:Heap) (L:Addr):List (Addr×Obj):=(List.range h.objs.size).filterMap fun a=>if a=L∨(g.get? a).isSome=true then none else (h.get? a).map fun o=>(a,o)
def YV (g h:Heap) (L d:Addr):List (Addr×Obj):=(Ydb g h L).filter fun p=>decide (p.1≠d)
end L2
namespace L2
open PySem PySem.Spec PyProof.Rows
structure Mod (K:PySem.W.Frag) (mg:Str→Option Value) (base:Heap):Prop where
 kin:K.In base
 glob:base.Ns mainGlobals mg
 blt:∃ mb,base.Ns builtinsNs mb∧∀ x:Str,x≠"__name__"→mb x=bootBuiltins x
 nolimit:base.NoLimit
structure Cx where
 prog:Program
 w:World
 K:PySem.W.Frag
 mg:Str→Option Value
 base:Heap
 A:Around
 N:List Str
 s₀:Shared
 H₀:Hp
 env:Env
 outer:List Env
 stack:List Env
 ex:List Addr
 fn:Str→Bool
 calm:Bool
 pn:List (Addr×Obj)
 xe:Value→Shared→Prop
def frs (l:List Env):List Addr:=l.filterMap (·.frame)
abbrev Cx.fs (X:Cx):List Addr:=frs X.outer
def Vis (sc:Scope) (x:Str):Prop:=sc.names.lookup x=some .local∨sc.names.lookup x=some .cell∨sc.names.lookup x=some .free
def Loc (sc:Scope) (x:Str):Prop:=sc.names.lookup x=some .local∨sc.names.lookup x=some .cell
def Look (env:Env) (h:Heap) (m:Str→Option Value) (x:Str) (u:Value):Prop :=
 (env.kindOf x=some .local∧m x=some u)∨((env.kindOf x=some .cell∨env.kindOf x=some .free)∧∃ c,env.cells.lookup x=some c∧h.IsCell c (some u))
structure Cx.Ok (X:Cx):Prop where
 mod:Mod X.K X.mg X.base
 kind:X.env.scope.kind = .function
 glob:X.env.globals=mainGlobals
 blt:X.env.builtins=builtinsNs
 above:X.s₀.heap.objs.size≤X.env.locals
 inj:∀ x y c,X.env.cells.lookup x=some c→X.env.cells.lookup y=some c→x=y
 has:∀ x,(X.env.kindOf x=some .cell∨X.env.kindOf x=some .free)→∃ c,X.env.cells.lookup x=some c
 cab:∀ x c,X.fn x=true→X.env.cells.lookup x=some c→X.s₀.heap.objs.size≤c
 hd:X.calm=true→X.A.handled=none
 frames:X.A.frames=some X.stack
 stk:X.stack=X.outer∨(X.stack=X.env::X.outer∧X.env.frame=some X.env.locals)
 exf:∀ b∈X.ex,b≠X.env.locals∧∀ x c,X.env.cells.lookup x=some c→c≠b
 bs:∀ b o,X.base.get? b=some o→X.s₀.heap.get? b=some o∧X.H₀ b=none
 bsz:X.base.objs.size≤X.s₀.heap.objs.size
 noex:∀ b o,X.base.get? b=some o→b∉X.ex
 exfs:∀ b∈X.ex,b∉X.fs
 funs:X.s₀.heap.FunFrames X.base X.outer
 frf:∀ b∈X.fs,X.H₀ b=none
structure Inv (X:Cx) (pins:List (Addr×Obj)) (σ:List (Option V)) (H:Hp) (s:Shared):Prop where
 ok:X.Ok
 os:s.os=X.s₀.os
 bare:AllBare s.gens
 base:Un X.fs X.ex X.H₀ H X.s₀.heap s.heap
 loc:∃ m,s.heap.Ns X.env.locals m∧∀ (i:Nat) (x:Str) (v:V),X.N[i]?=some x→σ[i]?=some (some v)→Vis X.env.scope x→∃ u,Yr v u∧Look X.env s.heap m x u
 cell:∀ x c,X.env.cells.lookup x=some c→∃ v,s.heap.IsCell c v
 free:H X.env.locals=none
 freeC:∀ x c,X.env.cells.lookup x=some c→H c=none
 pin:∀ p∈X.pn++pins,s.heap.get? p.1=some p.2∧H p.1=none∧p.1≠X.env.locals∧p.1∉X.fs∧∀ v,p.2.data ≠ .cell v
 hok:HOk X.prog X.w H s.heap
 len:σ.length=X.N.length
section
variable {X:Cx} {pins:List (Addr×Obj)} {σ:List (Option V)} {H H':Hp} {s:Shared} {h':Heap}
theorem Cx.Ok.nofr (ok:X.Ok) {b:Addr} {o:Obj} (e:X.base.get? b=some o):b∉X.fs:=fun hb=>by
 have:=(ok.funs.mem hb).1
 rw [e] at this;cases this
theorem Inv.bs (I:Inv X pins σ H s):∀ b o,X.base.get? b=some o→s.heap.get? b=some o∧H b=none:=fun b o e =>
 ⟨I.base.keep b o (I.ok.bs b o e).1 (I.ok.bs b o e).2 (I.ok.nofr e) (I.ok.noex b o e),I.base.free b o (I.ok.bs b o e).1 (I.ok.bs b o e).2 (I.ok.noex b o e)⟩
theorem Inv.bk (I:Inv X pins σ H s):∀ b o,X.base.get? b=some o→s.heap.get? b=some o:=fun b o e=>(I.bs b o e).1
theorem Inv.mod (I:Inv X pins σ H s):Mod X.K X.mg X.base:=I.ok.mod
theorem Inv.kIn (I:Inv X pins σ H s):X.K.In s.heap:=I.ok.mod.kin.keeps I.bk
theorem Inv.lt (I:Inv X pins σ H s):X.env.locals<s.heap.objs.size:=let ⟨_,hn,_⟩:=I.loc;hn.lt
theorem Inv.sz (I:Inv X pins σ H s):X.s₀.heap.objs.size≤s.heap.objs.size:=Nat.le_trans I.ok.above (Nat.le_of_lt I.lt)
theorem Inv.nofs (I:Inv X pins σ H s) {a:Addr} (h:s.heap.objs.size≤a):a∉X.fs:=fun hb=>by
 obtain ⟨_,o,ho,_⟩:=I.ok.funs.mem hb
 exact absurd (Nat.lt_of_lt_of_le (Heap.lt_size ho) (Nat.le_trans I.sz h)) (Nat.lt_irrefl _)
theorem Inv.cne (I:Inv X pins σ H s):∀ x c,X.env.cells.lookup x=some c→c≠X.env.locals:=fun x c e z=>by
 obtain ⟨v,o,ho,hd⟩:=I.cell x c e
 obtain ⟨m,⟨o',es,ep,ho',hd',_⟩,_⟩:=I.loc
 rw [z,ho'] at ho;cases ho;rw [hd'] at hd;cases hd
theorem Inv.funs (I:Inv X pins σ H s):s.heap.FunFrames X.base X.outer:=by
 have all:∀ (l:List Env),(∀ b∈frs l,b∈X.fs)→X.s₀.heap.FunFrames X.base l→s.heap.FunFrames X.base l:=by
  intro l
  induction l with
  | nil=>intro _ _;trivial
  | cons env r ih =>
   intro hs hl
   obtain ⟨hk,⟨L,o,hf,hn,ho,hd⟩,hr⟩:=hl
   have hL:L∈X.fs:=hs L (by unfold frs;rw [List.filterMap_cons,hf];exact List.mem_cons_self)
   obtain ⟨sl,e⟩:=I.base.slot L o ho (I.ok.frf L hL) hL fun z=>I.ok.exfs L z hL
   exact ⟨hk,⟨L,_,hf,hn,e,hd⟩,ih (fun b hb=>hs b (by unfold frs;rw [List.filterMap_cons,hf];exact List.mem_cons_of_mem _ hb)) hr⟩
 exact all X.outer (fun _ hb=>hb) I.ok.funs
theorem Inv.stack (I:Inv X pins σ H s):s.heap.FunFrames X.base X.stack:=by
 rcases I.ok.stk with e | ⟨e,hf⟩
 ·rw [e];exact I.funs
 ·rw [e]
  obtain ⟨m,hn,_⟩:=I.loc
  refine .cons (by rw [I.ok.kind];decide) hf hn ?_ I.funs
  exact Heap.get?_none_of_le (Nat.le_trans I.ok.bsz I.ok.above)
theorem Inv.stkSub (I:Inv X pins σ H s):∀ b∈frs X.stack,b∈X.env.locals::X.fs:=fun b hb=>by
 rcases I.ok.stk with e | ⟨e,hf⟩
 ·rw [e] at hb;exact List.mem_cons_of_mem _ hb
 ·rw [e] at hb
  unfold frs at hb
  rw [List.filterMap_cons,hf] at hb
  exact hb
theorem Inv.stkFree (I:Inv X pins σ H s):∀ b∈frs X.stack,H b=none:=fun b hb=>by
 rcases List.mem_cons.mp (I.stkSub b hb) with e | hb
 ·rw [e];exact I.free
 ·obtain ⟨_,o,ho,_⟩:=I.ok.funs.mem hb
  exact I.base.free b o ho (I.ok.frf b hb) fun z=>I.ok.exfs b z hb
theorem Inv.step {g':Array GenState} {t':Nat} {d':Drawn} {ch:List Addr} (I:Inv X pins σ H s)
  (hch:∀ b∈ch,(b∈X.ex∨X.s₀.heap.objs.size≤b)∧b≠X.env.locals∧(∀ x c,X.env.cells.lookup x=some c→c≠b)∧∀ p∈X.pn++pins,p.1≠b)
  (keep:∀ b o,b≠X.env.locals→b∉X.fs→b∉ch→s.heap.get? b=some o→H b=none→h'.get? b=some o)
  (slot:∀ b o,b≠X.env.locals→b∈X.fs→b∉ch→s.heap.get? b=some o→H b=none→∃ sl,h'.get? b=some { o with slots:=sl }) (free:∀ b o,b∉ch→s.heap.get? b=some o→H b=none→H' b=none)
  (there:∀ b o,b∉ch→s.heap.get? b=some o→∃ o',h'.get? b=some o')
  (tups:∀ b xs,H b=some (.tup xs)→H' b=some (.tup xs)) (frzs:∀ b o u,H b=some (.frz o u)→H' b=some (.frz o u)) (tbls:∀ b ps,H b=some (.tbl ps)→∃ more,H' b=some (.tbl (ps++more)))
  (ns:∀ m,s.heap.Ns X.env.locals m→h'.Ns X.env.locals m) (hok:HOk X.prog X.w H' h') (hg:AllBare g') :
  Inv X pins σ H' { s with heap:=h',gens:=g',drawn:=d',toks:=t' }:=by
 have neL:∀ b o,X.s₀.heap.get? b=some o→b≠X.env.locals:=fun b o e=>Nat.ne_of_lt (Nat.lt_of_lt_of_le (Heap.lt_size e) I.ok.above)
 have neC:∀ b o,X.s₀.heap.get? b=some o→b∉X.ex→b∉ch:=fun b o e hx hb=>by
  rcases (hch b hb).1 with z | z
  ·exact hx z
  ·exact absurd (Nat.lt_of_lt_of_le (Heap.lt_size e) z) (Nat.lt_irrefl _)
 have cellK:∀ x c,X.env.cells.lookup x=some c→∀ v,s.heap.IsCell c v→h'.IsCell c v:=fun x c e v ⟨o,ho,hd⟩=>by
  have nch:c∉ch:=fun z=>(hch c z).2.2.1 x c e rfl
  by_cases hc:c∈X.fs
  ·obtain ⟨sl,q⟩:=slot c o (I.cne x c e) hc nch ho (I.freeC x c e)
   exact ⟨_,q,hd⟩
  ·exact ⟨o,keep c o (I.cne x c e) hc nch ho (I.freeC x c e),hd⟩
 refine ⟨I.ok,I.os,hg,⟨fun b o e n hb hx=>?_,fun b o e n hb hx=>?_,fun b o e n hx=>?_,fun b o e hx=>?_,fun b xs e=>tups b xs (I.base.tups b xs e),fun b o xs e=>frzs b o xs (I.base.frzs b o xs e),fun b ps e=>?_⟩,?_,fun x c e=>?_,?_,fun x c e=>?_,fun p hp=>?_,hok,I.len⟩
 ·exact keep b o (neL b o e) hb (neC b o e hx) (I.base.keep b o e n hb hx) (I.base.free b o e n hx)
 ·obtain ⟨sl,e1⟩:=I.base.slot b o e n hb hx
  obtain ⟨sl',e2⟩:=slot b _ (neL b o e) hb (neC b o e hx) e1 (I.base.free b o e n hx)
  exact ⟨sl',e2⟩
 ·obtain ⟨o',e1⟩:=I.base.there b o e hx
  exact free b o' (neC b o e hx) e1 (I.base.free b o e n hx)
 ·obtain ⟨o',e1⟩:=I.base.there b o e hx
  exact there b o' (neC b o e hx) e1
 ·obtain ⟨m1,e1⟩:=I.base.tbls b ps e
  obtain ⟨m2,e2⟩:=tbls b _ e1
  exact ⟨m1++m2,by rw [e2,Array.append_assoc]⟩
 ·obtain ⟨m,hn,hl⟩:=I.loc
  refine ⟨m,ns m hn,fun i x v e1 e2 e3=>?_⟩
  obtain ⟨u,r,l⟩:=hl i x v e1 e2 e3
  refine ⟨u,r,?_⟩
  rcases l with l | ⟨k,c,e,z⟩
  ·exact .inl l
  ·exact .inr ⟨k,c,e,cellK x c e _ z⟩
 ·obtain ⟨v,z⟩:=I.cell x c e
  exact ⟨v,cellK x c e v z⟩
 ·obtain ⟨m,⟨o,_,_,ho,_⟩,_⟩:=I.loc
  exact free _ o (fun z=>(hch _ z).2.1 rfl) ho I.free
 ·obtain ⟨v,o,ho,hd⟩:=I.cell x c e
  exact free c o (fun z=>(hch c z).2.2.1 x c e rfl) ho (I.freeC x c e)
 ·obtain ⟨e,n,ne,nf,d⟩:=I.pin p hp
  have nch:p.1∉ch:=fun z=>(hch p.1 z).2.2.2 p hp rfl
  exact ⟨keep p.1 p.2 ne nf nch e n,free p.1 p.2 nch e n,ne,nf,d⟩
theorem Inv.un {t':Nat} (I:Inv X pins σ H s) (u:Un X.fs [] H H' s.heap h') (hok:HOk X.prog X.w H' h'):Inv X pins σ H' { s with heap:=h',toks:=t' }:=by
 obtain ⟨m,⟨o,es,ep,ho,r⟩,_⟩:=id I.loc
 obtain ⟨sl,hL⟩:=u.any ho I.free (by simp)
 exact I.step (g':=s.gens) (d':=s.drawn) (ch:=[]) (fun _ z=>nomatch z) (fun b o _ hb _ e n=>u.keep b o e n hb (by simp)) (fun b o _ hb _ e n=>u.slot b o e n hb (by simp)) (fun b o _ e n=>u.free b o e n (by simp)) (fun b o _ e=>u.there b o e (by simp)) u.tups u.frzs u.tbls (fun m' hm=>by
  obtain ⟨o',es',ep',ho',r'⟩:=hm
  rw [ho] at ho';cases ho'
  exact ⟨_,es',ep',hL,r'⟩) hok I.bare
theorem Inv.call {g':Array GenState} {t':Nat} {d':Drawn} {ch:List Addr} (I:Inv X pins σ H s) (u:Un (frs X.stack) ch H H' s.heap h') (hok:HOk X.prog X.w H' h') (hg:AllBare g')
  (hch:∀ b∈ch,(b∈X.ex∨X.s₀.heap.objs.size≤b)∧b≠X.env.locals∧(∀ x c,X.env.cells.lookup x=some c→c≠b)∧∀ p∈X.pn++pins,p.1≠b) :
  Inv X pins σ H' { s with heap:=h',gens:=g',drawn:=d',toks:=t' }:=by
 obtain ⟨m,⟨o,es,ep,ho,r⟩,_⟩:=id I.loc
 obtain ⟨sl,hL⟩:=u.any ho I.free fun z=>(hch _ z).2.1 rfl
 exact I.step (ch:=ch) hch (fun b o hL hb hc e n=>u.keep b o e n (fun z=>(List.mem_cons.mp (I.stkSub b z)).elim hL hb) hc) (fun b o _ _ hc e n=>u.any e n hc) (fun b o hc e n=>u.free b o e n hc) (fun b o hc e=>u.there b o e hc) u.tups u.frzs u.tbls (fun m' hm=>by
  obtain ⟨o',es',ep',ho',r'⟩:=hm
  rw [ho] at ho';cases ho'
  exact ⟨_,es',ep',hL,r'⟩) hok hg
theorem Inv.turned {t':Nat} {it:Addr} (I:Inv X pins σ H s) (k:∀ b o,b≠it→s.heap.get? b=some o→h'.get? b=some o) (hn:H it=none) (hL:it≠X.env.locals)
  (h1:it∈X.ex∨X.s₀.heap.objs.size≤it) (h2:∀ x c,X.env.cells.lookup x=some c→c≠it) (h3:∀ p∈X.pn++pins,p.1≠it):Inv X pins σ H { s with heap:=h',toks:=t' }:=by
 have nit:∀ b u,H b=some u→b≠it:=fun b u e z=>by rw [z,hn] at e;cases e
 refine I.step (g':=s.gens) (d':=s.drawn) (ch:=[it]) (fun b hb=>?_) (fun b o _ _ hc e _=>k b o (fun z=>hc (by simp [z])) e) (fun b o _ _ hc e _=>⟨o.slots,k b o (fun z=>hc (by simp [z])) e⟩) (fun _ _ _ _ n=>n)
  (fun b o hc e=>⟨o,k b o (fun z=>hc (by simp [z])) e⟩) (fun _ _ e=>e) (fun _ _ _ e=>e) (fun b ps e=>⟨#[],by rw [e];simp⟩) (fun m hm=>?_) (fun b u e=>?_) I.bare
 ·have e:b=it:=by simpa using hb
  subst e
  exact ⟨h1,hL,h2,h3⟩
 ·obtain ⟨o,es,ep,ho,r⟩:=hm
  exact ⟨o,es,ep,k _ o (Ne.symm hL) ho,r⟩
 ·refine (I.hok b u e).stay (fun c v hc q=>k c v ?_ q) (fun _ q=>q) fun _ _ q=>q
  rcases hc with z | z
  ·rw [z];exact nit b u e
  ·exact nit c _ z
theorem Inv.tok (I:Inv X pins σ H s) (t:Nat):Inv X pins σ H { s with toks:=t }:=I.un (h':=s.heap) (t':=t) Un.refl I.hok
theorem Inv.kept {t':Nat} (I:Inv X pins σ H s) (k:∀ b u,s.heap.get? b=some u→h'.get? b=some u):Inv X pins σ H { s with heap:=h',toks:=t' }:=I.un (Un.kept k) (I.hok.kept k)
theorem Inv.laid {a:Addr} {o:HO} {t':Nat} (I:Inv X pins σ H s) (k:∀ b u,s.heap.get? b=some u→h'.get? b=some u) (hp:s.heap.objs.size≤a) (new:YJ X.prog X.w (upd H a o) h' a o) :
  Inv X pins σ (upd H a o) { s with heap:=h',toks:=t' }:=I.un (Un.laid k hp (I.hok.fresh hp)) (I.hok.laid k hp new)
theorem Inv.write {x e:Addr} {o:HO} {t':Nat} (I:Inv X pins σ H s) (mu:Mut (H x)) (he:e=x∨H e=some (.own x)) (k:∀ b u,b≠e→s.heap.get? b=some u→h'.get? b=some u) (heo:∃ u,h'.get? e=some u)
  (new:YJ X.prog X.w (upd H x o) h' x o):Inv X pins σ (upd H x o) { s with heap:=h',toks:=t' }:=I.un (Un.write mu he k heo) (I.hok.write mu he k heo new)
theorem Inv.pins_of {pins':List (Addr×Obj)} (I:Inv X pins σ H s) (h:∀ p∈pins',s.heap.get? p.1=some p.2∧H p.1=none∧p.1≠X.env.locals∧p.1∉X.fs∧∀ v,p.2.data ≠ .cell v):Inv X pins' σ H s :=
 ⟨I.ok,I.os,I.bare,I.base,I.loc,I.cell,I.free,I.freeC,fun p hp=>(List.mem_append.mp hp).elim (fun z=>I.pin p (List.mem_append_left _ z)) (h p),I.hok,I.len⟩
theorem UY {N:List Str} (hN:N.Nodup) {i j:Nat} {x:Str} (a:N[i]?=some x) (b:N[j]?=some x):i=j:=by
 obtain ⟨h1,e1⟩:=List.getElem?_eq_some_iff.mp a
 obtain ⟨h2,e2⟩:=List.getElem?_eq_some_iff.mp b
 exact (List.getElem_inj hN).mp (e1.trans e2.symm)
theorem Ya9 {M:Model} {A:Around} {E:Value→Shared→Prop} {i:Nat} {x:Str} {v:V} {u:Value} {Q:Unit→Shared→Prop} (I:Inv X pins σ H s) (hN:X.N.Nodup) (hi:X.N[i]?=some x) (hx:Loc X.env.scope x) (r:Yr v u)
  (h:∀ s',Inv X pins (σ.set i (some v)) H s'→(∃ a,Heap.SameBut a s.heap s'.heap∧(a=X.env.locals∨X.env.cells.lookup x=some a))→Q () s') (hf:X.fn x=true∨X.env.scope.names.lookup x=some .local:=by first | exact .inl rfl | exact .inr rfl | assumption):wpAny M A (storeName X.env x u) Q E s:=by
 obtain ⟨m,hn,hl⟩:=id I.loc
 have hcls:(X.env.scope.kind == .class||(X.env.scope.kind == .module&&X.env.locals != X.env.globals))=false:=by rw [I.ok.kind];rfl
 have hiσ:i<σ.length:=by rw [I.len];exact (List.getElem?_eq_some_iff.mp hi).1
 have cne:=I.cne
 have tracked:∀ {a:Addr} {h':Heap},(∃ o,s.heap.get? a=some o∧H a=none)→Heap.SameBut a s.heap h'→HOk X.prog X.w H h':=fun {a h'} ha hs b ob e=>by
  obtain ⟨_,_,hfree⟩:=ha
  refine (I.hok b ob e).stay (fun c w' hc q=>(hs.2 c ?_).trans q) (fun _ q=>q) fun _ _ q=>q
  rintro rfl
  rcases hc with rfl | hc
  ·rw [hfree] at e;cases e
  ·rw [hfree] at hc;cases hc
 rcases hx with hk | hk
 ·refine wpAny_storeName_local hk hn (fun h' hn' hs=>?_) hcls
  obtain ⟨oL,_,_,hoL,_⟩:=id hn
  refine h _ ⟨I.ok,I.os,I.bare,⟨fun b o e n hb hx=>?_,fun b o e n hb hx=>?_,I.base.free,fun b o e hx=>?_,I.base.tups,I.base.frzs,I.base.tbls⟩,⟨_,hn',fun j y v' e1 e2 e3=>?_⟩,fun y c e=>?_,I.free,I.freeC,fun p hp=>?_,tracked ⟨oL,hoL,I.free⟩ hs,by simpa using I.len⟩ ⟨_,hs,.inl rfl⟩
  ·exact (hs.2 b (Nat.ne_of_lt (Nat.lt_of_lt_of_le (Heap.lt_size e) I.ok.above))).trans (I.base.keep b o e n hb hx)
  ·obtain ⟨sl,e1⟩:=I.base.slot b o e n hb hx
   exact ⟨sl,(hs.2 b (Nat.ne_of_lt (Nat.lt_of_lt_of_le (Heap.lt_size e) I.ok.above))).trans e1⟩
  ·obtain ⟨o',e1⟩:=I.base.there b o e hx
   exact ⟨o',(hs.2 b (Nat.ne_of_lt (Nat.lt_of_lt_of_le (Heap.lt_size e) I.ok.above))).trans e1⟩
  ·by_cases hj:j=i
   ·subst hj
    rw [hi] at e1;cases e1
    rw [List.getElem?_set_self hiσ] at e2
    cases e2
    exact ⟨u,r,.inl ⟨hk,by simp⟩⟩
   ·rw [List.getElem?_set_ne (Ne.symm hj)] at e2
    obtain ⟨u',r',q⟩:=hl j y v' e1 e2 e3
    refine ⟨u',r',?_⟩
    rcases q with ⟨k,e⟩ | ⟨k,c,e,z⟩
    ·refine .inl ⟨k,?_⟩
     have:y≠x:=fun e=>hj (UY hN e1 (e▸hi))
     simp [this,e]
    ·exact .inr ⟨k,c,e,z.sameBut hs (cne y c e)⟩
  ·obtain ⟨w',z⟩:=I.cell y c e
   exact ⟨w',z.sameBut hs (cne y c e)⟩
  ·obtain ⟨e,n,ne,nf,d⟩:=I.pin p hp
   exact ⟨(hs.2 p.1 ne).trans e,n,ne,nf,d⟩
 ·have hfn:X.fn x=true:=by
   rcases hf with z | z
   ·exact z
   ·rw [z] at hk;cases hk
  obtain ⟨c,hc⟩:=I.ok.has x (.inl hk)
  obtain ⟨w',z⟩:=I.cell x c hc
  refine wpAny_storeName_cell I.ok.kind hk hc z (fun h' hc' hs=>?_)
  obtain ⟨oc,hoc,hocd⟩:=id z
  refine h { s with heap:=h' } ⟨I.ok,I.os,I.bare,⟨fun b o e n hb hx=>?_,fun b o e n hb hx=>?_,I.base.free,fun b o e hx=>?_,I.base.tups,I.base.frzs,I.base.tbls⟩,⟨m,hn.sameBut hs (Ne.symm (cne x c hc)),fun j y v' e1 e2 e3=>?_⟩,fun y c' e=>?_,I.free,I.freeC,fun p hp=>?_,tracked ⟨oc,hoc,I.freeC x c hc⟩ hs,by simpa using I.len⟩ ⟨c,hs,.inr hc⟩
  ·exact (hs.2 b (Nat.ne_of_lt (Nat.lt_of_lt_of_le (Heap.lt_size e) (I.ok.cab x c hfn hc)))).trans (I.base.keep b o e n hb hx)
  ·obtain ⟨sl,e1⟩:=I.base.slot b o e n hb hx
   exact ⟨sl,(hs.2 b (Nat.ne_of_lt (Nat.lt_of_lt_of_le (Heap.lt_size e) (I.ok.cab x c hfn hc)))).trans e1⟩
  ·obtain ⟨o',e1⟩:=I.base.there b o e hx
   exact ⟨o',(hs.2 b (Nat.ne_of_lt (Nat.lt_of_lt_of_le (Heap.lt_size e) (I.ok.cab x c hfn hc)))).trans e1⟩
  ·by_cases hj:j=i
   ·subst hj
    rw [hi] at e1;cases e1
    rw [List.getElem?_set_self hiσ] at e2
    cases e2
    exact ⟨u,r,.inr ⟨.inl hk,c,hc,hc'⟩⟩
   ·rw [List.getElem?_set_ne (Ne.symm hj)] at e2
    obtain ⟨u',r',q⟩:=hl j y v' e1 e2 e3
    refine ⟨u',r',?_⟩
    rcases q with q | ⟨k,c',e,z'⟩
    ·exact .inl q
    ·refine .inr ⟨k,c',e,z'.sameBut hs ?_⟩
     rintro rfl
     exact hj (UY hN e1 (I.ok.inj _ _ _ e hc▸hi))
  ·by_cases hcc:c'=c
   ·subst hcc;exact ⟨_,hc'⟩
   ·obtain ⟨w2,z2⟩:=I.cell y c' e
    exact ⟨w2,z2.sameBut hs hcc⟩
  ·obtain ⟨e,n,ne,nf,d⟩:=I.pin p hp
   refine ⟨(hs.2 p.1 ?_).trans e,n,ne,nf,d⟩
   intro q
   rw [q,hoc] at e
   have q':oc=p.2:=Option.some.inj e
   exact d w' (by rw [← q'];exact hocd)
theorem UZ {M:Model} {A:Around} {E:Value→Shared→Prop} {i:Nat} {x:Str} {v:V} {u:Value} {Q:Unit→Shared→Prop} (I:Inv X pins σ H s) (hN:X.N.Nodup) (hi:X.N[i]?=some x) (hx:Loc X.env.scope x) (r:Yr v u)
  (h:∀ s',Inv X pins (σ.set i (some v)) H s'→Q () s') (hf:X.fn x=true∨X.env.scope.names.lookup x=some .local:=by first | exact .inl rfl | exact .inr rfl | assumption):wpAny M A (storeName X.env x u) Q E s :=
 Ya9 I hN hi hx r (fun s' I' _=>h s' I') hf
theorem Inv.call' {s':Shared} {ch:List Addr} (I:Inv X pins σ H s) (ho:s'.os=s.os) (u:Un (frs X.stack) ch H H' s.heap s'.heap) (hok:HOk X.prog X.w H' s'.heap) (hg:AllBare s'.gens)
  (hch:∀ b∈ch,(b∈X.ex∨X.s₀.heap.objs.size≤b)∧b≠X.env.locals∧(∀ x c,X.env.cells.lookup x=some c→c≠b)∧∀ p∈X.pn++pins,p.1≠b):Inv X pins σ H' s':=by
 obtain ⟨h',g',d',t',o'⟩:=s'
 have e:o'=s.os:=ho
 subst e
 exact I.call (g':=g') (t':=t') (d':=d') u hok hg hch
end
abbrev XK:=Value→Option Addr→Hp→Prop
abbrev St:=List (Option V)
abbrev VK:=V→Hp→Prop
abbrev TE:=St→Hp→VK→Prop
abbrev TT:=St→Hp→(Bool→Hp→Prop)→Prop
abbrev TA:=St→Hp→(List V→Hp→Prop)→Prop
structure Ends where
 nx:St→Hp→Prop
 rt:VK
 bk:St→Hp→Prop:=fun _ _=>False
 ct:St→Hp→Prop:=fun _ _=>False
abbrev TS:=Ends→St→Hp→Prop
def EP (X:Cx) (pins:List (Addr×Obj)) (σ:St) (Q:VK) (u:Value) (s':Shared):Prop:=∃ v H',Inv X pins σ H' s'∧Yr v u∧Q v H'
def TP (X:Cx) (pins:List (Addr×Obj)) (σ:St) (Q:Bool→Hp→Prop) (b:Bool) (s':Shared):Prop:=∃ H',Inv X pins σ H' s'∧Q b H'
def AP (X:Cx) (pins:List (Addr×Obj)) (σ:St) (Q:List V→Hp→Prop) (us:List Value) (s':Shared):Prop:=∃ vs H',Inv X pins σ H' s'∧Yn vs us∧Q vs H'
def SP (X:Cx) (pins:List (Addr×Obj)) (D:Ends) (f:Flow) (s':Shared):Prop :=
 match f with
 | .next=>∃ σ' H',Inv X pins σ' H' s'∧D.nx σ' H'
 | .brk=>∃ σ' H',Inv X pins σ' H' s'∧D.bk σ' H'
 | .cont=>∃ σ' H',Inv X pins σ' H' s'∧D.ct σ' H'
 | .ret u=>∃ v σ' H',Inv X pins σ' H' s'∧Yr v u∧D.rt v H'
def PE (X:Cx) (e:Expr) (t:TE):Prop :=
 ∀ (pins:List (Addr×Obj)) (s:Shared) (σ:St) (H:Hp) (Q:VK),Inv X pins σ H s→t σ H Q→wpAny (model X.prog X.w) X.A (eval e X.env) (EP X pins σ Q) X.xe s
def PT (X:Cx) (e:Expr) (t:TT):Prop :=
 ∀ (pins:List (Addr×Obj)) (s:Shared) (σ:St) (H:Hp) (Q:Bool→Hp→Prop),Inv X pins σ H s→t σ H Q→wpAny (model X.prog X.w) X.A (isTrue e X.env (eval e X.env)) (TP X pins σ Q) X.xe s
def PW (X:Cx) (e:Expr) (t:TT):Prop :=
 ∀ (whole:Sem Value) (pins:List (Addr×Obj)) (s:Shared) (σ:St) (H:Hp) (Q:Bool→Hp→Prop),Inv X pins σ H s→t σ H Q→wpAny (model X.prog X.w) X.A (isTrue e X.env whole) (TP X pins σ Q) X.xe s
theorem PW.pt {X:Cx} {e:Expr} {t:TT} (h:PW X e t):PT X e t:=h _
def PA (X:Cx) (es:List Expr) (t:TA):Prop :=
 ∀ (pos:Pos) (pins:List (Addr×Obj)) (s:Shared) (σ:St) (H:Hp) (Q:List V→Hp→Prop),Inv X pins σ H s→t σ H Q→wpAny (model X.prog X.w) X.A (spliced (backTo pos (starEach es X.env))) (AP X pins σ Q) X.xe s
def PS (X:Cx) (st:Stmt) (t:TS):Prop :=
 ∀ (pins:List (Addr×Obj)) (s:Shared) (σ:St) (H:Hp) (D:Ends),Inv X pins σ H s→t D σ H→wpAny (model X.prog X.w) X.A (exec st X.env) (SP X pins D) X.xe s
def PSs (X:Cx) (st:List Stmt) (t:TS):Prop :=
 ∀ (pins:List (Addr×Obj)) (s:Shared) (σ:St) (H:Hp) (D:Ends),Inv X pins σ H s→t D σ H→wpAny (model X.prog X.w) X.A (execs st X.env) (SP X pins D) X.xe s
theorem thn {α:Type} {t:Sem α} {Q Q':α→Shared→Prop} {M:Model} {A:Around} {E:Value→Shared→Prop} {s:Shared} (h:wpAny M A t Q E s) (hQ:∀ a s,Q a s→Q' a s):wpAny M A t Q' E s:=wpAny_mono h hQ fun _ _ x=>x
end L2
namespace L2
open PySem PySem.Spec PyProof.Rows
section
variable {X:Cx}
def tVar (i:Nat):TE:=fun σ H Q=>∃ v,σ[i]?=some (some v)∧Q v H
def tC (v:V):TE:=fun _ H Q=>Q v H
theorem YdU {i:Nat} {x:Str} {pos:Pos} (hN:X.N[i]?=some x) (hv:Vis X.env.scope x) (hd:(x==("__debug__":Str))=false:=by decide) (hcd:(x==("__classdict__":Str))=false:=by decide):PE X (.Name x pos) (tVar i):=by
 intro pins s σ H Q I h
 obtain ⟨v,e,h⟩:=h
 obtain ⟨m,hn,hl⟩:=I.loc
 obtain ⟨u,r,l⟩:=hl i x v hN e hv
 have fin:EP X pins σ Q u s:=⟨v,H,I,r,h⟩
 rcases l with ⟨hk,hm⟩ | ⟨hk,c,hc,hcell⟩
 ·exact wpAny_Name (wpAny_loadName_local I.ok.kind hk hn hm fin) hd
 ·rcases hk with hk | hk
  ·exact wpAny_Name (wpAny_loadName_cell I.ok.kind hk hc hcell fin) hd
  ·exact wpAny_Name (wpAny_loadName_free I.ok.kind hk hc hcell fin hcd) hd
theorem Ye {i j pos}:PE X (.Constant (.int i) j pos) (tC (.int i)):=fun _ _ _ H _ I h=>wpAny_Constant_int ⟨.int i,H,I.tok _,⟨_,rfl⟩,h⟩
theorem X5 {b j pos}:PE X (.Constant (.bool b) j pos) (tC (.bl b)):=fun _ _ _ H _ I h=>Constant_bool ⟨.bl b,H,I,rfl,h⟩
theorem Xz {j pos}:PE X (.Constant .none j pos) (tC .non):=fun _ _ _ H _ I h=>Constant_none ⟨.non,H,I,rfl,h⟩
theorem YA {x j pos}:PE X (.Constant (.str x) j pos) (tC (.str x)):=fun _ _ _ H _ I h=>Calls.Constant_str ⟨.str x,H,I.tok _,⟨_,rfl⟩,h⟩
def Gl (X:Cx) (x:Str):Prop:=X.env.kindOf x=some .globalImplicit
theorem Yab {E:Value→Shared→Prop} {pins:List (Addr×Obj)} {s:Shared} {σ:St} {H:Hp} {x:Str} {u:Value} {pos:Pos} {Q:Value→Shared→Prop} (I:Inv X pins σ H s) (hg:Gl X x) (hm:X.mg x=some u) (h:Q u s)
  (hd:(x==("__debug__":Str))=false:=by decide):wpAny (model X.prog X.w) X.A (eval (.Name x pos) X.env) Q E s :=
 Calls.Name_function_global I.ok.kind hg (Calls.loadGlobal_global (by rw [I.ok.glob];exact I.mod.glob.keeps I.bk) hm h) hd
theorem XA {E:Value→Shared→Prop} {pins:List (Addr×Obj)} {s:Shared} {σ:St} {H:Hp} {x:Str} {u:Value} {pos:Pos} {Q:Value→Shared→Prop} (I:Inv X pins σ H s) (hg:Gl X x) (hm:X.mg x=none) (hv:bootBuiltins x=some u) (h:Q u s)
  (hn:x≠"__name__":=by decide) (hd:(x==("__debug__":Str))=false:=by decide):wpAny (model X.prog X.w) X.A (eval (.Name x pos) X.env) Q E s:=by
 obtain ⟨mb,h1,h2⟩:=I.mod.blt
 exact Calls.Name_function_global I.ok.kind hg (Calls.loadGlobal_builtin (by rw [I.ok.glob];exact I.mod.glob.keeps I.bk) hm (by rw [I.ok.blt];exact h1.keeps I.bk) ((h2 x hn).trans hv) h) hd
theorem Ydc {x:Str} {v:V} {u:Value} {pos:Pos} (hg:Gl X x) (hm:X.mg x=some u) (r:Yr v u) (hd:(x==("__debug__":Str))=false:=by decide):PE X (.Name x pos) (tC v) :=
 fun _ _ _ H _ I h=>Yab I hg hm ⟨v,H,I,r,h⟩ hd
theorem Ydd {x:Str} {v:V} {u:Value} {pos:Pos} (hg:Gl X x) (hm:X.mg x=none) (hv:bootBuiltins x=some u) (r:Yr v u) (hn:x≠"__name__":=by decide) (hd:(x==("__debug__":Str))=false:=by decide):PE X (.Name x pos) (tC v) :=
 fun _ _ _ H _ I h=>XA I hg hm hv ⟨v,H,I,r,h⟩ hn hd
variable {a b:Expr} {ta tb:TE} {pos:Pos}
def tB (t:TE):TT:=fun σ H Q=>t σ H fun x H1=>∃ c,x = .bl c∧Q c H1
theorem XB {e:Expr} {t:TE} (h:PE X e t) (he:∀ whole,isTrue e X.env whole=(do let v ← whole;standAt e.pos;holding [v] (truthy v))):PT X e (tB t):=by
 intro pins s σ H Q I hw
 refine isTrue_plain (thn (h pins s σ H _ I hw) fun v s1 ⟨x,H1,I1,r1,q1⟩=>?_) (he _)
 obtain ⟨d,rfl,q⟩:=q1
 cases r1
 exact wpAny_truthy_bool ⟨H1,I1,q⟩
variable {tA tB':TT} {YV:List Expr}
def tAnd (t u:TT):TT:=fun σ H Q=>t σ H fun c H1=>if c=true then u σ H1 Q else Q false H1
def tOr (t u:TT):TT:=fun σ H Q=>t σ H fun c H1=>if c=true then Q true H1 else u σ H1 Q
def tNot (t:TT):TT:=fun σ H Q=>t σ H fun c H1=>Q (!c) H1
theorem WW (ha:PT X a tA):PW X (.BoolOp .Or [a] pos) tA:=by
 intro wh pins s σ H Q I h
 refine isTrue_or (thn (ha pins s σ H Q I h) fun c s1 e=>?_)
 cases c with
 | false=>exact isTrue_or_nil e
 | true=>exact e
theorem W8 (ha:PT X a tA) (hb:PW X (.BoolOp .Or (b::YV) pos) tB'):PW X (.BoolOp .Or (a::b::YV) pos) (tOr tA tB'):=by
 intro wh pins s σ H Q I h
 refine isTrue_or (thn (ha pins s σ H _ I h) fun c s1 ⟨H1,I1,q1⟩=>?_)
 cases c with
 | true=>exact ⟨H1,I1,q1⟩
 | false=>exact hb wh pins s1 σ H1 Q I1 q1
theorem Wl (ha:PT X a tA):PT X (.UnaryOp .Not a pos) (tNot tA):=by
 intro pins s σ H Q I h
 exact isTrue_not (ha pins s σ H (fun c H1=>Q (!c) H1) I h)
def YcO (ta tb:TE):TE:=fun σ H Q=>ta σ H fun x H1=>∃ c,x = .bl c∧if c=true then tb σ H1 Q else Q (.bl false) H1
def tOrV (ta tb:TE):TE:=fun σ H Q=>ta σ H fun x H1=>∃ c,x = .bl c∧if c=true then Q (.bl true) H1 else tb σ H1 Q
def YcP (ta:TE):TE:=fun σ H Q=>ta σ H fun x H1=>∃ c,x = .bl c∧Q (.bl (!c)) H1
theorem XC {op} {t:TE} (h:PE X a t):PE X (.BoolOp op [a] pos) t:=fun pins s σ H Q I hw=>BoolOp_one (h pins s σ H Q I hw)
theorem XD (ha:PE X a ta) (hb:PE X (.BoolOp .And (b::YV) pos) tb):PE X (.BoolOp .And (a::b::YV) pos) (YcO ta tb):=by
 intro pins s σ H Q I h
 refine BoolOp_and (thn (ha pins s σ H _ I h) fun v s1 ⟨x,H1,I1,r1,q1⟩=>?_)
 obtain ⟨c,rfl,q1⟩:=q1
 cases r1
 refine wpAny_truthy_bool ?_
 cases c with
 | true=>exact hb pins s1 σ H1 Q I1 q1
 | false=>exact ⟨.bl false,H1,I1,rfl,q1⟩
theorem Yba (ha:PE X a ta):PE X (.UnaryOp .Not a pos) (YcP ta):=by
 intro pins s σ H Q I h
 refine UnaryOp_ (thn (ha pins s σ H _ I h) fun v s1 ⟨x,H1,I1,r1,q1⟩=>?_)
 obtain ⟨c,rfl,q1⟩:=q1
 cases r1
 exact not_of (wpAny_truthy_bool ⟨.bl (!c),H1,I1,rfl,q1⟩)
def tIf (t:TT) (ta tb:TE):TE:=fun σ H Q=>t σ H fun c H1=>if c=true then ta σ H1 Q else tb σ H1 Q
theorem Vm {c:Expr} (hc:PT X c tA) (ha:PE X a ta) (hb:PE X b tb):PE X (.IfExp c a b pos) (tIf tA ta tb):=by
 intro pins s σ H Q I h
 refine wpAny_IfExp (thn (hc pins s σ H _ I h) fun d s1 ⟨H1,I1,q1⟩=>?_)
 cases d with
 | true=>exact ha pins s1 σ H1 Q I1 q1
 | false=>exact hb pins s1 σ H1 Q I1 q1
end
end L2
namespace L2
open PySem PySem.Spec PyProof.Rows
def SqL (K:PySem.W.Frag) (H:Hp) (a:Addr) (xs:List V):Prop :=
 Rd H a (.lst xs) ∨
  ∃ (o:Obj) (its:Array Value) (n:Nat),K.lookup a=some o∧o.cls = .type "list"∧o.dict=none∧o.data = .seq its n∧its.size≤sizeLine∧Yn xs its.toList
def SqT (K:PySem.W.Frag) (H:Hp) (a:Addr) (xs:List V):Prop :=
 Rd H a (.tup xs) ∨
  ∃ (o:Obj) (its:Array Value) (n:Nat),K.lookup a=some o∧o.cls = .type "tuple"∧o.data = .seq its n∧its.size≤sizeLine∧Yn xs its.toList
def absV:Value→Option V
 | .none=>some .non
 | .bool b=>some (.bl b)
 | .int i _=>some (.int i)
 | .str x _=>some (.str x)
 | .bytes b _=>some (.byt b)
 | .float b _=>some (.flt b)
 | .ref a=>some (.ref a)
 | .type n=>some (.ty n)
 | _=>none
theorem Yr.abs {x:V} {u:Value} (r:Yr x u):absV u=some x:=by
 cases x with
 | non=>cases r;rfl
 | bl _=>cases r;rfl
 | int _=>obtain ⟨t,rfl⟩:=r;rfl
 | str _=>obtain ⟨t,rfl⟩:=r;rfl
 | byt _=>obtain ⟨t,rfl⟩:=r;rfl
 | flt _=>obtain ⟨t,rfl⟩:=r;rfl
 | ref _=>cases r;rfl
 | ty _=>cases r;rfl
theorem Yr.inj {x y:V} {u:Value} (r:Yr x u) (q:Yr y u):x=y:=Option.some.inj (r.abs.symm.trans q.abs)
theorem Yn.inj:∀ {xs ys:List V} {us:List Value},Yn xs us→Yn ys us→xs=ys
 | _,_,_,.nil,.nil=>rfl
 | _,_,_,.cons r t,.cons r' t'=>by rw [r.inj r',Yn.inj t t']
section
variable {X:Cx} {pins:List (Addr×Obj)} {σ:St} {H:Hp} {s:Shared} {a:Addr} {xs ys:List V}
theorem SqL.of {K:PySem.W.Frag} (h:H a=some (.lst xs)):SqL K H a xs := .inl (.inl h)
theorem SqT.of {K:PySem.W.Frag} (h:H a=some (.tup xs)):SqT K H a xs := .inl (.inl h)
theorem Inv.list (I:Inv X pins σ H s) (h:SqL X.K H a xs):∃ its:List Value,Yn xs its∧PlainL s.heap a its.toArray∧xs.length≤sizeLine:=by
 rcases h with h | ⟨o,its,n,hk,hc,hd,hs,hz,r⟩
 ·obtain ⟨z,its,n,r,e⟩:=h.ok I.hok
  exact ⟨its,r,⟨_,n,e,rfl,rfl,rfl⟩,z⟩
 ·refine ⟨its.toList,r,⟨o,n,I.kIn a o hk,hc,hd,by simpa using hs⟩,?_⟩
  have e:=r.length
  simp only [Array.length_toList] at e
  omega
theorem Inv.tuple (I:Inv X pins σ H s) (h:SqT X.K H a xs):∃ its:List Value,Yn xs its∧IsTup s.heap a its.toArray∧xs.length≤sizeLine:=by
 rcases h with h | ⟨o,its,n,hk,hc,hs,hz,r⟩
 ·obtain ⟨z,its,r,p⟩:=h.ok I.hok
  exact ⟨its,r,p,z⟩
 ·refine ⟨its.toList,r,⟨o,I.kIn a o hk,hc,n,by simpa using hs⟩,?_⟩
  have e:=r.length
  simp only [Array.length_toList] at e
  omega
theorem Inv.list_inj (I:Inv X pins σ H s) (h:SqL X.K H a xs) (h':SqL X.K H a ys):xs=ys:=by
 obtain ⟨its,r,⟨o,n,e,_,_,d⟩,_⟩:=I.list h
 obtain ⟨its',r',⟨o',n',e',_,_,d'⟩,_⟩:=I.list h'
 rw [e] at e';cases e'
 rw [d] at d'
 injection d' with d1 _
 have:its=its':=by simpa using congrArg Array.toList d1
 subst this
 exact r.inj r'
theorem Inv.tuple_inj (I:Inv X pins σ H s) (h:SqT X.K H a xs) (h':SqT X.K H a ys):xs=ys:=by
 obtain ⟨its,r,⟨o,e,_,n,d⟩,_⟩:=I.tuple h
 obtain ⟨its',r',⟨o',e',_,n',d'⟩,_⟩:=I.tuple h'
 rw [e] at e';cases e'
 rw [d] at d'
 injection d' with d1 _
 have:its=its':=by simpa using congrArg Array.toList d1
 subst this
 exact r.inj r'
end
abbrev Cx.wish (X:Cx) (E:Value→Shared→Prop):Cx:={ X with xe:=E }
abbrev Cx.nox (X:Cx):Cx:=X.wish fun _ _=>False
theorem Cx.Ok.wish {X:Cx} (ok:X.Ok) (E:Value→Shared→Prop):(X.wish E).Ok :=
 ⟨ok.mod,ok.kind,ok.glob,ok.blt,ok.above,ok.inj,ok.has,ok.cab,ok.hd,ok.frames,ok.stk,ok.exf,ok.bs,ok.bsz,ok.noex,ok.exfs,ok.funs,ok.frf⟩
theorem Cx.Ok.unwish {X:Cx} {E:Value→Shared→Prop} (ok:(X.wish E).Ok):X.Ok :=
 ⟨ok.mod,ok.kind,ok.glob,ok.blt,ok.above,ok.inj,ok.has,ok.cab,ok.hd,ok.frames,ok.stk,ok.exf,ok.bs,ok.bsz,ok.noex,ok.exfs,ok.funs,ok.frf⟩
section
variable {X:Cx} {pins:List (Addr×Obj)} {σ:St} {H:Hp} {s:Shared} {E:Value→Shared→Prop}
theorem Inv.wish (I:Inv X pins σ H s) (E:Value→Shared→Prop):Inv (X.wish E) pins σ H s:=⟨I.ok.wish E,I.os,I.bare,I.base,I.loc,I.cell,I.free,I.freeC,I.pin,I.hok,I.len⟩
theorem Inv.unwish (I:Inv (X.wish E) pins σ H s):Inv X pins σ H s:=⟨I.ok.unwish,I.os,I.bare,I.base,I.loc,I.cell,I.free,I.freeC,I.pin,I.hok,I.len⟩
theorem SP.unwish {D:Ends} {f:Flow} {s':Shared} (h:SP (X.wish E) pins D f s'):SP X pins D f s':=by
 cases f with
 | next=>obtain ⟨σ',H',I,q⟩:=h;exact ⟨σ',H',I.unwish,q⟩
 | brk=>obtain ⟨σ',H',I,q⟩:=h;exact ⟨σ',H',I.unwish,q⟩
 | cont=>obtain ⟨σ',H',I,q⟩:=h;exact ⟨σ',H',I.unwish,q⟩
 | ret u=>obtain ⟨v,σ',H',I,r,q⟩:=h;exact ⟨v,σ',H',I.unwish,r,q⟩
theorem PE.nox {e:Expr} {t:TE} (h:PE X.nox e t):PE X e t:=fun pins s σ H Q I hw =>
 wpAny_mono (h pins s σ H Q (I.wish _) hw) (fun _ _ ⟨v,H',I',r,q⟩=>⟨v,H',I'.unwish,r,q⟩) fun _ _ z=>False.elim z
theorem PT.nox {e:Expr} {t:TT} (h:PT X.nox e t):PT X e t:=fun pins s σ H Q I hw =>
 wpAny_mono (h pins s σ H Q (I.wish _) hw) (fun _ _ ⟨H',I',q⟩=>⟨H',I'.unwish,q⟩) fun _ _ z=>False.elim z
theorem PSs.nox {st:List Stmt} {t:TS} (h:PSs X.nox st t):PSs X st t:=fun pins s σ H D I hw =>
 wpAny_mono (h pins s σ H D (I.wish _) hw) (fun _ _ q=>q.unwish) fun _ _ z=>False.elim z
end
section
variable {X:Cx} {st:Stmt} {YV:List Stmt} {t u:TS} {e:Expr} {te:TE} {pos:Pos}
def YcQ:TS:=fun D σ H=>D.nx σ H
def Wa (t u:TS):TS:=fun D σ H=>t { D with nx:=u D } σ H
theorem Yq:PSs X [] YcQ:=fun _ _ σ H _ I h=>wpAny_execs_nil ⟨σ,H,I,h⟩
theorem Yf (h1:PS X st t) (h2:PSs X YV u):PSs X (st::YV) (Wa t u):=by
 intro pins s σ H D I h
 refine wpAny_execs_cons (thn (h1 pins s σ H { D with nx:=u D } I h) fun f s1 q=>?_)
 cases f with
 | next =>
  obtain ⟨σ',H',I',q⟩:=q
  exact h2 pins s1 σ' H' D I' q
 | ret v=>exact q
 | brk=>exact q
 | cont=>exact q
theorem Yg (h1:PS X st t):PSs X [st] t:=by
 intro pins s σ H D I h
 refine wpAny_execs_cons (thn (h1 pins s σ H D I h) fun f s1 q=>?_)
 cases f with
 | next=>exact wpAny_execs_nil q
 | ret v=>exact q
 | brk=>exact q
 | cont=>exact q
def YdV:TS:=fun D σ H=>D.bk σ H
def tCont:TS:=fun D σ H=>D.ct σ H
theorem Inv.quiet {pins:List (Addr×Obj)} {σ:St} {H:Hp} {s:Shared} (I:Inv X pins σ H s):interactive X.env=false:=by simp [interactive,I.ok.kind]
def YcR (te:TE):TS:=fun D σ H=>te σ H fun _ H1=>D.nx σ H1
theorem Xn (he:PE X e te) (hs:swapsWith e none pos.line X.env=pure false):PS X (.Expr e pos) (YcR te):=by
 intro pins s σ H D I h
 exact wpAny_Expr_any (thn (he pins s σ H _ I h) fun v s1 ⟨x,H1,I1,r1,q1⟩=>⟨σ,H1,I1,q1⟩) I.quiet hs
def tRet (te:TE):TS:=fun D σ H=>te σ H D.rt
theorem Yk (he:PE X e te):PS X (.Return (some e) pos) (tRet te):=by
 intro pins s σ H D I h
 exact wpAny_Return_some (thn (he pins s σ H _ I h) fun v s1 ⟨x,H1,I1,r1,q1⟩=>⟨x,σ,H1,I1,r1,q1⟩)
def tRetN:TS:=fun D _ H=>D.rt .non H
def tIfS (c:TT) (t u:TS):TS:=fun D σ H=>c σ H fun b H1=>if b=true then t D σ H1 else u D σ H1
theorem YC {c:Expr} {a b:List Stmt} {tc:TT} (hc:PT X c tc) (ha:PSs X a t) (hb:PSs X b u):PS X (.If c a b pos) (tIfS tc t u):=by
 intro pins s σ H D I h
 refine wpAny_If (thn (hc pins s σ H _ I h) fun d s1 ⟨H1,I1,q1⟩=>?_)
 cases d with
 | true=>exact ha pins s1 σ H1 D I1 q1
 | false=>exact hb pins s1 σ H1 D I1 q1
def Ybb:TS:=fun _ _ _=>False
theorem U0:PS X st Ybb:=fun _ _ _ _ _ _ h=>h.elim
end
abbrev TG:=V→St→Hp→(St→Hp→Prop)→Prop
abbrev TGs:=List V→St→Hp→(St→Hp→Prop)→Prop
def PG (X:Cx) (target:Expr) (t:TG):Prop :=
 ∀ (pins:List (Addr×Obj)) (s:Shared) (σ:St) (H:Hp) (v:V) (u:Value) (Q:St→Hp→Prop),Inv X pins σ H s→Yr v u→t v σ H Q →
  wpAny (model X.prog X.w) X.A (assign target X.env u) (fun _ s'=>∃ σ' H',Inv X pins σ' H' s'∧Q σ' H') X.xe s
def PGs (X:Cx) (ts:List Expr) (t:TGs):Prop :=
 ∀ (pins:List (Addr×Obj)) (s:Shared) (σ:St) (H:Hp) (vs:List V) (us:List Value) (Q:St→Hp→Prop),Inv X pins σ H s→Yn vs us→t vs σ H Q →
  wpAny (model X.prog X.w) X.A (assignInOrder ((assignEach ts X.env).map (·.2)) us) (fun _ s'=>∃ σ' H',Inv X pins σ' H' s'∧Q σ' H') X.xe s
abbrev TSet:=V→V→V→Hp→(Hp→Prop)→Prop
abbrev TIp:=V→V→Hp→VK→Prop
section
variable {X:Cx} {pos:Pos}
def Ys (i:Nat):TG:=fun v σ H Q=>Q (σ.set i (some v)) H
theorem Yu {i:Nat} {x:Str} (hN:X.N.Nodup) (hi:X.N[i]?=some x) (hx:Loc X.env.scope x) (hf:X.fn x=true∨X.env.scope.names.lookup x=some .local:=by first | exact .inl rfl | exact .inr rfl | assumption):PG X (.Name x pos) (Ys i):=by
 intro pins s σ H v u Q I r h
 exact wpAny_assign_Name (UZ I hN hi hx r (fun s' I'=>⟨_,H,I',h⟩) hf)
def XQ:TGs:=fun vs σ H Q=>vs=[]∧Q σ H
def YU (t:TG) (u:TGs):TGs:=fun vs σ H Q=>∃ v r,vs=v::r∧t v σ H fun σ' H'=>u r σ' H' Q
theorem Xx:PGs X [] XQ:=by
 intro pins s σ H vs us Q I r h
 obtain ⟨e,h⟩:=h
 subst e
 cases r
 exact assignInOrder_nil ⟨σ,H,I,h⟩
theorem YO {e:Expr} {es:List Expr} {t:TG} {u:TGs} (h1:PG X e t) (h2:PGs X es u)
  (hs:(assignEach (e::es) X.env).map (·.2)=assign e X.env::(assignEach es X.env).map (·.2)):PGs X (e::es) (YU t u):=by
 intro pins s σ H vs us Q I r h
 obtain ⟨v,vr,e1,h⟩:=h
 subst e1
 cases r with
 | cons r rr =>
  rw [hs]
  refine assignInOrder_cons (thn (h1 pins s σ H _ _ _ I r h) fun _ s1 ⟨σ1,H1,I1,q1⟩=>?_)
  exact h2 pins s1 σ1 H1 _ _ Q I1 rr q1
def XR (K:PySem.W.Frag) (n:Nat) (t:TGs):TG:=fun v σ H Q=>∃ a xs,v = .ref a∧SqT K H a xs∧xs.length=n∧t xs σ H Q
theorem X6 {es:List Expr} {k:Nat} {t:TGs} {n:Nat} (hc:X.calm=true) (h:PGs X es t)
  (hn:(assignEach es X.env).length=n) (hst:(assignEach es X.env).findIdx? (·.1)=none):PG X (.Tuple es k pos) (XR X.K n t):=by
 intro pins s σ H v u Q I r hw
 obtain ⟨a,xs,e1,hq,hl,hw⟩:=hw
 subst e1
 cases r
 obtain ⟨its,rv,ht,hz⟩:=I.tuple hq
 refine assign_Tuple_tuple (I.ok.hd hc) ht (by simp [hn,← hl,rv.length]) hst fun h' hx=>?_
 have I1:Inv X pins σ H { s with heap:=h' }:=I.kept (t':=s.toks) fun b o e=>hx b o (Nat.ne_of_lt (Heap.lt_size e)) e
 exact h pins _ σ H xs _ Q I1 (by simpa using rv) hw
def gSub (to ti:TE) (t:TSet):TG:=fun v σ H Q=>to σ H fun o H1=>ti σ H1 fun i H2=>t o i v H2 fun H3=>Q σ H3
def tAsg (te:TE) (g:TG):TS:=fun D σ H=>te σ H fun x H1=>g x σ H1 D.nx
theorem YD {i:Nat} {x:Str} {e:Expr} {te:TE} {pos':Pos} (hN:X.N.Nodup) (hi:X.N[i]?=some x) (hx:Loc X.env.scope x) (he:PE X e te) (hs:swapsWith e (some (.Name x pos')) pos.line X.env=pure false) (hf:X.fn x=true∨X.env.scope.names.lookup x=some .local) :
  PS X (.Assign [.Name x pos'] e pos) (tAsg te (Ys i)):=by
 intro pins s σ H D I h
 refine wpAny_Assign_Name (thn (he pins s σ H _ I h) fun v s1 ⟨y,H1,I1,r1,q1⟩=>?_) hs
 exact UZ I1 hN hi hx r1 (fun s2 I2=>⟨_,H1,I2,q1⟩) hf
def tAug (i:Nat) (te:TE) (ti:TIp):TS:=fun D σ H=>∃ x,σ[i]?=some (some x)∧te σ H fun y H1=>ti x y H1 fun z H2=>D.nx (σ.set i (some z)) H2
def ipI (f:Int→Int→Int):TIp:=fun x y H Q=>∃ i j,x = .int i∧y = .int j∧Q (.int (f i j)) H
end
section
variable {X:Cx} {pos:Pos}
end
structure It where
 go:Nat→Hp→Prop
 yld:Nat→Hp→V→Hp→Prop
 stop:Nat→Hp→Prop
def Xr (X:Cx) (pins:List (Addr×Obj)) (H:Hp) (b:Addr):Prop :=
 H b=none∧b≠X.env.locals∧b∉X.fs∧(b∈X.ex∨X.s₀.heap.objs.size≤b)∧(∀ x c,X.env.cells.lookup x=some c→c≠b)∧∀ p∈X.pn++pins,p.1≠b
theorem Inv.fpOk {X:Cx} {pins:List (Addr×Obj)} {σ:St} {H H':Hp} {s:Shared} {b:Addr} (I:Inv X pins σ H s) (hb:s.heap.objs.size≤b) (hn:H' b=none):Xr X pins H' b:=by
 refine ⟨hn,Nat.ne_of_gt (Nat.lt_of_lt_of_le I.lt hb),I.nofs hb,.inr (Nat.le_trans I.sz hb),fun x c e z=>?_,fun p hp z=>?_⟩
 ·obtain ⟨v,q⟩:=I.cell x c e
  exact absurd (Nat.lt_of_lt_of_le q.lt (by rw [z];exact hb)) (Nat.lt_irrefl _)
 ·exact absurd (Nat.lt_of_lt_of_le (Heap.lt_size (I.pin p hp).1) (by rw [z];exact hb)) (Nat.lt_irrefl _)
structure Turn (P:Program) (w:World) (K:PySem.W.Frag) (tg:Expr) (J:It) (fp:List Addr) (it:Addr) (tn:Nat→Heap→Prop):Prop where
 mem:it∈fp
 obj:∀ i h,tn i h→∀ b∈fp,∃ o,h.get? b=some o∧∀ v,o.data ≠ .cell v
 keep:∀ i h h',tn i h→(∀ b∈fp,∀ o,h.get? b=some o→h'.get? b=some o)→tn i h'
 item:∀ (X:Cx),X.prog=P→X.w=w→X.K=K→X.calm=true→∀ (i:Nat) (pins:List (Addr×Obj)) (s:Shared) (σ:St) (H:Hp) (E:Value→Shared→Prop),Inv X pins σ H s→(∀ b∈fp,Xr X pins H b)→tn i s.heap→J.go i H →
  wpAny (model P w) X.A (pyNext (.ref it)) (fun r s1=>∃ u,r=some u ∧
   wpAny (model P w) X.A (letOwnedTupleGo tg (.ref it) u) (fun _ s2=>∃ x H',Inv X pins σ H' s2∧Yr x u∧J.yld i H x H'∧tn (i+1) s2.heap∧∀ b∈fp,H' b=none) E s1) E s
 done:∀ (X:Cx),X.prog=P→X.w=w→X.K=K→X.calm=true→∀ (i:Nat) (pins:List (Addr×Obj)) (s:Shared) (σ:St) (H:Hp) (E:Value→Shared→Prop),Inv X pins σ H s→(∀ b∈fp,Xr X pins H b)→tn i s.heap→J.stop i H →
  wpAny (model P w) X.A (pyNext (.ref it)) (fun r s1=>r=none∧Inv X pins σ H s1) E s
 self:∀ (A:Around) (i:Nat) (s:Shared) (Q:Value→Shared→Prop) (E:Value→Shared→Prop),tn i s.heap→Q (.ref it) s→wpAny (model P w) A (pyIter (.ref it)) Q E s
abbrev TI:=St→Hp→(It→Hp→Prop)→Prop
def PIE (X:Cx) (pins:List (Addr×Obj)) (σ:St) (tg:Expr) (R:It→Hp→Prop) (itv:Value) (s2:Shared):Prop :=
 ∃ (it:Addr) (fp:List Addr) (tn:Nat→Heap→Prop) (J:It) (H':Hp),itv = .ref it∧Inv X pins σ H' s2∧Turn X.prog X.w X.K tg J fp it tn∧tn 0 s2.heap∧(∀ b∈fp,Xr X pins H' b)∧R J H'
def PI (X:Cx) (tg iter:Expr) (wi:TI):Prop :=
 ∀ (pins:List (Addr×Obj)) (s:Shared) (σ:St) (H:Hp) (R:It→Hp→Prop),Inv X pins σ H s→wi σ H R →
  wpAny (model X.prog X.w) X.A (eval iter X.env) (fun v s1=>wpAny (model X.prog X.w) X.A (pyIter v) (PIE X pins σ tg R) X.xe s1) X.xe s
theorem YaD {M:Model} {A:Around} {E:Value→Shared→Prop} {s:Shared} {tg:Expr} {it:Addr} {u:Value} {o:Obj} {n:String} {vs:Array Value} {Q:Unit→Shared→Prop} (ho:s.heap.get? it=some o) (hc:o.cls = .type n) (hd:o.data = .fields vs)
  (hn:["enumerate","zip","dict_itemiterator","dict_reverseitemiterator","odict_iterator","itertools.zip_longest","itertools.pairwise"].contains n=false) (hQ:Q () s):wpAny M A (letOwnedTupleGo tg (.ref it) u) Q E s:=by
 unfold letOwnedTupleGo
 cases tg<;>first
  | exact wpAny_pure hQ
  | (cases u<;>first
    | exact wpAny_pure hQ
    | (refine wpAny_bind (wpAny_load ho ?_)
       rw [hc,hd]
       show wpAny M A (if (["enumerate","zip","dict_itemiterator","dict_reverseitemiterator","odict_iterator","itertools.zip_longest","itertools.pairwise"].contains n&&vs[0]?==some (rawInt _))=true then _ else _) Q E s
       rw [if_neg (by intro h;rw [hn,Bool.false_and] at h;cases h)]
       exact wpAny_pure hQ))
def Itl (K:PySem.W.Frag) (a:Addr):It :=
 ⟨fun i H=>∃ xs x,SqL K H a xs∧xs[i]?=some x,fun i H x H'=>H'=H∧∀ xs,SqL K H a xs→xs[i]?=some x,fun i H=>∃ xs,SqL K H a xs∧xs.length≤i⟩
def Itr (lo:Int) (n:Nat):It:=⟨fun i _=>i<n,fun i H x H'=>H'=H∧x = .int (lo+i),fun i _=>n≤i⟩
theorem Ybc {P:Program} {w:World} {K:PySem.W.Frag} {tg:Expr} (a it:Addr):Turn P w K tg (Itl K a) [it] it (fun i h=>h.IsListIter it a i) where
 mem:=by simp
 obj:=fun i h st b hb=>by
  have e:b=it:=by simpa using hb
  subst e
  obtain ⟨o,e,c,d⟩:=st
  exact ⟨o,e,fun v z=>by rw [d] at z;cases z⟩
 keep:=fun i h h' st k=>st.at fun o e=>k it (by simp) o e
 item:=by
  intro X hP hw hK hc i pins s σ H E I hf st hg
  subst hP hw hK
  obtain ⟨xs,x,hq,hx⟩:=hg
  obtain ⟨its,rv,p,hz⟩:=I.list hq
  obtain ⟨u,hu,ru⟩:=rv.get hx
  obtain ⟨f0,f1,f2,f3,f4,f5⟩:=hf it (by simp)
  refine wpAny_pyNext_list_item st p.isList (x:=u) (by simpa using hu) fun h' st' sb=>?_
  have I1:Inv X pins σ H { s with heap:=h' }:=I.turned (t':=s.toks) (fun b o hb e=>(sb.2 b hb).trans e) f0 f1 f3 f4 f5
  obtain ⟨o,e,c,d⟩:=id st'
  exact ⟨u,rfl,YaD (s:={ s with heap:=h' }) e c d (by decide) ⟨x,H,I1,ru,⟨rfl,fun ys hy=>by rw [I.list_inj hy hq];exact hx⟩,st',fun b hb=>(hf b hb).1⟩⟩
 done:=by
  intro X hP hw hK hc i pins s σ H E I hf st hg
  subst hP hw hK
  obtain ⟨xs,hq,hx⟩:=hg
  obtain ⟨its,rv,p,hz⟩:=I.list hq
  obtain ⟨f0,f1,f2,f3,f4,f5⟩:=hf it (by simp)
  have hl:=rv.length
  exact wpAny_pyNext_list_end (I.ok.hd hc) st p.isList (by simp;omega) fun h' eb=>⟨rfl,I.turned (t':=s.toks) (fun b o hb e=>eb b o hb e) f0 f1 f3 f4 f5⟩
 self:=fun _ _ _ _ _ st h=>wpAny_pyIter_listiter st h
theorem YaE {P:Program} {w:World} {K:PySem.W.Frag} {tg:Expr} (it:Addr) (lo:Int) (n:Nat):Turn P w K tg (Itr lo n) [it] it (fun i h=>IsRangeIter h it (lo+(i:Nat)*1) ((n:Int) - (i:Nat)) 1) where
 mem:=by simp
 obj:=fun i h st b hb=>by
  have e:b=it:=by simpa using hb
  subst e
  exact ⟨_,st,fun v z=>by
   have z':Data.fields _=Data.cell v:=z
   cases z'⟩
 keep:=fun i h h' st k=>k it (by simp) _ st
 item:=by
  intro X hP hw hK hc i pins s σ H E I hf st hg
  subst hP hw hK
  obtain ⟨f0,f1,f2,f3,f4,f5⟩:=hf it (by simp)
  have W:=Walks.range (prog:=X.prog) (w:=X.w) (I.ok.hd hc) it lo 1 n
  refine W.item i s _ _ hg st fun v h' tk hv st' kk=>?_
  obtain ⟨t,rfl⟩:=hv
  have I1:Inv X pins σ H { s with heap:=h',toks:=tk }:=I.turned (fun b o hb e=>kk b o (by simpa using hb) e) f0 f1 f3 f4 f5
  refine ⟨_,rfl,YaD (s:={ s with heap:=h',toks:=tk }) (n:="range_iterator") st' rfl rfl (by decide) ⟨.int (lo+i),H,I1,⟨t,?_⟩,⟨rfl,rfl⟩,st',fun b hb=>(hf b hb).1⟩⟩
  rw [Int.mul_one]
 done:=by
  intro X hP hw hK hc i pins s σ H E I hf st hg
  subst hP hw hK
  obtain ⟨f0,f1,f2,f3,f4,f5⟩:=hf it (by simp)
  exact wpAny_pyNext_range_end (I.ok.hd hc) st (by have:n≤i:=hg;omega) fun h' eb=>⟨rfl,I.turned (t':=s.toks) (fun b o hb e=>eb b o hb e) f0 f1 f3 f4 f5⟩
 self:=fun _ _ _ _ _ st h=>wpAny_pyIter_rangeiter st h
end L2
namespace L2
open PySem PySem.Spec PyProof.Rows
section
variable {X:Cx} {tg:Expr}
def Ws (K:PySem.W.Frag) (tl:TE):TI:=fun σ H R=>tl σ H fun x H1=>∃ a,x = .ref a∧(∃ xs,SqL K H1 a xs)∧R (Itl K a) H1
theorem YW {l:Expr} {tl:TE} (hl:PE X l tl):PI X tg l (Ws X.K tl):=by
 intro pins s σ H R I h
 refine thn (hl pins s σ H _ I h) fun v s1 ⟨x,H1,I1,r1,q1⟩=>?_
 obtain ⟨a,e,⟨xs,hq⟩,q⟩:=q1
 subst e
 cases r1
 obtain ⟨its,rv,p,hz⟩:=I1.list hq
 refine wpAny_pyIter_list p.isList ?_
 refine ⟨s1.heap.objs.size,[s1.heap.objs.size],_,_,H1,rfl,I1.kept (t':=s1.toks) fun b o e=>Heap.get?_push_of_some _ e,Ybc a _,⟨_,Heap.get?_push_size _ rfl,rfl,rfl⟩,fun b hb=>?_,q⟩
 have e:b=s1.heap.objs.size:=by simpa using hb
 subst e
 exact I1.fpOk (Nat.le_refl _) (I1.hok.fresh (Nat.le_refl _))
theorem Yca {pins:List (Addr×Obj)} {σ:St} {H:Hp} {s:Shared} {R:It→Hp→Prop} {E:Value→Shared→Prop} {lo hi:Int} {t u v:Tok} {tk:Nat} (I:Inv X pins σ H s) (h1 : -(2^62)≤lo) (h2:lo<2^62) (h3 : -(2^62)≤hi) (h4:hi<2^62)
  (q:R (Itr lo (hi - lo).toNat) H):wpAny (model X.prog X.w) X.A (pyIter (.ref s.heap.objs.size)) (PIE X pins σ tg R) E { s with heap:=s.heap.push { cls := .type "range",data := .fields #[.int lo t,.int hi u,.int 1 v] },toks:=tk }:=by
 refine wpAny_pyIter_range (IsRange.new ..) (small_one h1 h2 h3 h4) ?_
 have I1:Inv X pins σ H { s with heap:=s.heap.push { cls := .type "range",data := .fields #[.int lo t,.int hi u,.int 1 v] },toks:=tk }:=I.kept fun b o e=>Heap.get?_push_of_some _ e
 refine ⟨(s.heap.push { cls := .type "range",data := .fields #[.int lo t,.int hi u,.int 1 v] }).objs.size,[(s.heap.push { cls := .type "range",data := .fields #[.int lo t,.int hi u,.int 1 v] }).objs.size],_,_,H,rfl,
  I1.kept (t':=tk) fun b o e=>Heap.get?_push_of_some _ e,YaE _ lo (hi - lo).toNat,?_,fun b hb=>?_,q⟩
 ·have e1:lo+((0:Nat):Int)*1=lo:=by simp
  have e2:(((hi - lo).toNat:Nat):Int) - ((0:Nat):Int)=Builtin.Range.rangeSize lo hi 1:=by rw [rangeSize_one];split<;>omega
  show IsRangeIter _ _ (lo+((0:Nat):Int)*1) ((((hi - lo).toNat:Nat):Int) - ((0:Nat):Int)) 1
  rw [e1,e2]
  exact Heap.get?_push_size _ rfl
 ·have e:b=(s.heap.push { cls := .type "range",data := .fields #[.int lo t,.int hi u,.int 1 v] }).objs.size:=by simpa using hb
  subst e
  exact I1.fpOk (Nat.le_refl _) (I1.hok.fresh (Nat.le_refl _))
def YcS (ta:TA):TI:=fun σ H R=>ta σ H fun vs H1=>∃ j:Int,vs=[.int j] ∧ -(2^62)≤j∧j<2^62∧R (Itr 0 j.toNat) H1
theorem Ue {a:Expr} {ta:TA} {p pos:Pos} (hg:Gl X "range") (hm:X.mg "range"=none) (ha:PA X [a] ta) (hs:starEach [a] X.env=[(false,eval a X.env)]):PI X tg (.Call (.Name "range" p) [a] [] pos) (YcS ta):=by
 intro pins s σ H R I h
 refine Call_ (XA I hg hm boot_range (PyProof.Rows.callWith_type1 (thn (ha pos pins s σ H _ I h) fun us s1 ⟨vs,H1,I1,r1,q1⟩=>?_) hs rfl))
 obtain ⟨j,e,q1,q2,q⟩:=q1
 subst e
 cases r1 with
 | cons r rr =>
  cases rr
  obtain ⟨t,rfl⟩:=r
  exact call_range_1 (Yca I1 (by omega) (by omega) q1 q2 (by simpa using q))
def U3 (wi:TI) (g:TG) (tb:TS):TS:=fun D σ H=>wi σ H fun J H1=>∃ W:Nat→Nat→St→Hp→Prop,(∃ m,W 0 m σ H1)∧∀ i m σ H,W i m σ H →
 (J.stop i H∧D.nx σ H)∨(J.go i H∧∃ N:St→Hp→Prop,(∀ σ' H',N σ' H'→∃ m',m'<m∧W (i+1) m' σ' H')∧∀ x H',J.yld i H x H'→g x σ H' fun σ2 H2=>tb { D with nx:=N,ct:=N,bk:=D.nx } σ2 H2)
def Wz (fp:List Addr) (h:Heap):List (Addr×Obj):=fp.filterMap fun b=>(h.get? b).map fun o=>(b,o)
theorem Xb {fp:List Addr} {h:Heap} {b:Addr} {o:Obj} (hb:b∈fp) (e:h.get? b=some o):(b,o)∈Wz fp h:=List.mem_filterMap.mpr ⟨b,hb,by rw [e];rfl⟩
theorem Ybd {fp:List Addr} {h:Heap} {p:Addr×Obj} (hp:p∈Wz fp h):p.1∈fp∧h.get? p.1=some p.2:=by
 obtain ⟨b,hb,e⟩:=List.mem_filterMap.mp hp
 cases q:h.get? b with
 | none=>rw [q] at e;cases e
 | some o =>
  rw [q] at e
  have e':(b,o)=p:=Option.some.inj e
  subst e'
  exact ⟨hb,q⟩
theorem Inv.pinned {pins:List (Addr×Obj)} {σ:St} {H:Hp} {s:Shared} {fp:List Addr} (I:Inv X pins σ H s) (hf:∀ b∈fp,Xr X pins H b) (ho:∀ b∈fp,∃ o,s.heap.get? b=some o∧∀ v,o.data ≠ .cell v):Inv X (pins++Wz fp s.heap) σ H s :=
 I.pins_of fun p hp=>(List.mem_append.mp hp).elim (fun z=>I.pin p (List.mem_append_right _ z)) fun z=>by
  obtain ⟨hb,e⟩:=Ybd z
  obtain ⟨f0,f1,f2,_⟩:=hf p.1 hb
  obtain ⟨o,e',d⟩:=ho p.1 hb
  rw [e] at e';cases e'
  exact ⟨e,f0,f1,f2,d⟩
theorem Inv.unpinned {pins pl:List (Addr×Obj)} {σ:St} {H:Hp} {s:Shared} (I:Inv X (pins++pl) σ H s):Inv X pins σ H s:=I.pins_of fun p hp=>I.pin p (List.mem_append_right _ (List.mem_append_left _ hp))
theorem X7 {iter:Expr} {body:List Stmt} {wi:TI} {g:TG} {tb:TS} {pos:Pos} (hp:PassesOwn (model X.prog X.w) X.A X.env X.xe) (hc:X.calm=true) (hi:PI X tg iter wi) (hg:PG X tg g) (hb:PSs X body tb)
  (hs:∀ x,foldedSetIterable iter X.env x=pure x):PS X (.For tg iter body [] pos) (U3 wi g tb):=by
 intro pins s σ H D I h
 refine wpAny_For (thn (hi pins s σ H _ I h) fun v s1 h1=>thn h1 fun itv s2 h2=>?_) hs
 obtain ⟨it,fp,tn,J,H2,e,I2,T,st2,f2,W,⟨m0,w0⟩,turn⟩:=h2
 subst e
 -- what stays true of the iterator's objects through the loop
 have stat:∀ {H':Hp},(∀ b∈fp,H' b=none)→∀ b∈fp,Xr X pins H' b:=fun hn b hb=>⟨hn b hb,(f2 b hb).2⟩
 refine codeAny_forLoop_any (fun n s'=>∃ i σ' H',Inv X pins σ' H' s'∧tn i s'.heap∧(∀ b∈fp,H' b=none)∧W i n σ' H') ?_ m0 ⟨0,σ,H2,I2,st2,fun b hb=>(f2 b hb).1,w0⟩
 rintro n s3 ⟨i,σ3,H3,I3,st3,fr3,w3⟩
 rcases turn i n σ3 H3 w3 with ⟨stop,qn⟩ | ⟨go,N,hN,step⟩
 ·refine wpAny_passesOwn hp (thn (T.done X rfl rfl rfl hc i pins s3 σ3 H3 X.xe I3 (stat fr3) st3 stop) fun r s4 ⟨hr,I4⟩=>?_)
  subst hr
  exact wpAny_execs_nil ⟨σ3,H3,I4,qn⟩
 ·refine wpAny_passesOwn hp (thn (T.item X rfl rfl rfl hc i pins s3 σ3 H3 X.xe I3 (stat fr3) st3 go) fun r s4 ⟨u,hr,h4⟩=>?_)
  subst hr
  refine wpAny_passesOwn hp (thn h4 fun _ s5 ⟨x,H5,I5,r5,y5,st5,fr5⟩=>?_)
  have I5':=I5.pinned (stat fr5) (T.obj _ _ st5)
  refine wpAny_passesOwn hp (thn (hg _ s5 σ3 H5 x u _ I5' r5 (step x H5 y5)) fun _ s6 ⟨σ6,H6,I6,q6⟩=>?_)
  refine wpAny_passesOwn hp (thn (hb _ s6 σ6 H6 _ I6 q6) fun f s7 q7=>?_)
  have again:∀ {σ7:St} {H7:Hp},Inv X (pins++Wz fp s5.heap) σ7 H7 s7→N σ7 H7→∃ m,m<n∧∃ i σ' H',Inv X pins σ' H' s7∧tn i s7.heap∧(∀ b∈fp,H' b=none)∧W i m σ' H':=fun {σ7 H7} I7 n7=>by
   obtain ⟨m',hm,w7⟩:=hN σ7 H7 n7
   refine ⟨m',hm,i+1,σ7,H7,I7.unpinned,T.keep _ _ _ st5 fun b hb o e=>(I7.pin (b,o) (List.mem_append_right _ (List.mem_append_right _ (Xb hb e)))).1,fun b hb=>?_,w7⟩
   obtain ⟨o,e,d⟩:=T.obj _ _ st5 b hb
   exact (I7.pin (b,o) (List.mem_append_right _ (List.mem_append_right _ (Xb hb e)))).2.1
  cases f with
  | next=>obtain ⟨σ7,H7,I7,n7⟩:=q7;exact again I7 n7
  | cont=>obtain ⟨σ7,H7,I7,n7⟩:=q7;exact again I7 n7
  | brk=>obtain ⟨σ7,H7,I7,q7⟩:=q7;exact ⟨σ7,H7,I7.unpinned,q7⟩
  | ret v=>obtain ⟨x7,σ7,H7,I7,r7,q7⟩:=q7;exact ⟨x7,σ7,H7,I7.unpinned,r7,q7⟩
end
theorem U4 {K:PySem.W.Frag} {a:Addr} {xs:List V} {g:TG} {tb:TS} {D:Ends} {σ:St} {H:Hp} (Pv:Nat→St→Hp→Prop) (h0:Pv 0 σ H) (hl:∀ i σ H,i≤xs.length→Pv i σ H→SqL K H a xs)
  (hs:∀ i x σ H,xs[i]?=some x→Pv i σ H→g x σ H fun σ2 H2=>tb { D with nx:=Pv (i+1),ct:=Pv (i+1),bk:=D.nx } σ2 H2) (hd:∀ σ H,Pv xs.length σ H→D.nx σ H) :
  ∃ W:Nat→Nat→St→Hp→Prop,(∃ m,W 0 m σ H)∧∀ i m σ H,W i m σ H →
   ((Itl K a).stop i H∧D.nx σ H)∨((Itl K a).go i H∧∃ N:St→Hp→Prop,(∀ σ' H',N σ' H'→∃ m',m'<m∧W (i+1) m' σ' H')∧∀ x H',(Itl K a).yld i H x H'→g x σ H' fun σ2 H2=>tb { D with nx:=N,ct:=N,bk:=D.nx } σ2 H2):=by
 refine ⟨fun i m σ H=>m=xs.length - i∧i≤xs.length∧Pv i σ H,⟨xs.length,by simp,Nat.zero_le _,h0⟩,?_⟩
 rintro i m σ H ⟨rfl,hi,p⟩
 have q:=hl i σ H hi p
 by_cases hlt:i<xs.length
 ·refine .inr ⟨⟨xs,xs[i],q,by simp [hlt]⟩,Pv (i+1),fun σ' H' p'=>⟨xs.length - (i+1),by omega,rfl,hlt,p'⟩,fun x H' y=>?_⟩
  obtain ⟨e,y⟩:=y
  subst e
  exact hs i x σ _ (y xs q) p
 ·have e:i=xs.length:=by omega
  subst e
  exact .inl ⟨⟨xs,q,Nat.le_refl _⟩,hd σ H p⟩
end L2
namespace L2
open PySem PySem.Spec PyProof.Rows
abbrev R2:=V→V→Hp→VK→Prop
def OpR (X:Cx) (f:Value→Value→Sem Value) (r:R2):Prop :=
 ∀ (pins:List (Addr×Obj)) (s:Shared) (σ:St) (H:Hp) (x y:V) (v u:Value) (Q:VK),Inv X pins σ H s→Yr x v→Yr y u→r x y H Q →
  wpAny (model X.prog X.w) X.A (f v u) (EP X pins σ Q) X.xe s
def UnR (X:Cx) (f:Value→Sem Value) (r:V→Hp→VK→Prop):Prop :=
 ∀ (pins:List (Addr×Obj)) (s:Shared) (σ:St) (H:Hp) (x:V) (v:Value) (Q:VK),Inv X pins σ H s→Yr x v→r x H Q →
  wpAny (model X.prog X.w) X.A (f v) (EP X pins σ Q) X.xe s
def Xu (X:Cx) (f:Value) (r:List V→Hp→VK→Prop):Prop :=
 ∀ (pins:List (Addr×Obj)) (s:Shared) (σ:St) (H:Hp) (xs:List V) (us:List Value) (Q:VK),Inv X pins σ H s→Yn xs us→r xs H Q →
  wpAny (model X.prog X.w) X.A (call f us) (EP X pins σ Q) X.xe s
def tOp (r:R2) (ta tb:TE):TE:=fun σ H Q=>ta σ H fun x H1=>tb σ H1 fun y H2=>r x y H2 Q
def tUn (r:V→Hp→VK→Prop) (ta:TE):TE:=fun σ H Q=>ta σ H fun x H1=>r x H1 Q
def rI (C:Int→Int→Prop) (g:Int→Int→V):R2:=fun x y H Q=>∃ i j,x = .int i∧y = .int j∧C i j∧Q (g i j) H
def rI0 (g:Int→Int→V):R2:=fun x y H Q=>∃ i j,x = .int i∧y = .int j∧Q (g i j) H
def rU (g:Int→V):V→Hp→VK→Prop:=fun x H Q=>∃ i,x = .int i∧Q (g i) H
section
variable {X:Cx} {a b c:Expr} {ta tb tc:TE} {pos:Pos}
theorem binT (ha:PE X a ta) (hb:PE X b tb) {pins:List (Addr×Obj)} {s:Shared} {σ:St} {H:Hp} {R:V→V→Hp→Prop} (I:Inv X pins σ H s)
  (h:ta σ H fun x H1=>tb σ H1 fun y H2=>R x y H2) {Q:Value→Shared→Prop} {f:Value→Value→Sem Value}
  (hf:∀ v u s2 x y H2,Inv X pins σ H2 s2→Yr x v→Yr y u→R x y H2→wpAny (model X.prog X.w) X.A (f v u) Q X.xe s2) :
  wpAny (model X.prog X.w) X.A (eval a X.env) (fun v s₁=>wpAny (model X.prog X.w) X.A (eval b X.env) (fun u s₂=>wpAny (model X.prog X.w) X.A (f v u) Q X.xe s₂) X.xe s₁) X.xe s:=by
 refine thn (ha pins s σ H _ I h) fun v s1 ⟨x,H1,I1,r1,q1⟩=>?_
 refine thn (hb pins s1 σ H1 _ I1 q1) fun u s2 ⟨y,H2,I2,r2,q2⟩=>?_
 exact hf v u s2 x y H2 I2 r1 r2 q2
theorem Yt {op:Operator} {r:R2} (ho:OpR X (binaryOp op) r) (ha:PE X a ta) (hb:PE X b tb):PE X (.BinOp a op b pos) (tOp r ta tb):=by
 intro pins s σ H Q I h
 exact wpAny_BinOp (binT ha hb I h fun v u s2 x y H2 I2 rx ry q=>ho pins s2 σ H2 x y v u Q I2 rx ry q)
theorem Wf {op:UnaryOp} {r:V→Hp→VK→Prop} (ho:UnR X (unaryOp op) r) (ha:PE X a ta):PE X (.UnaryOp op a pos) (tUn r ta):=by
 intro pins s σ H Q I h
 exact UnaryOp_ (thn (ha pins s σ H _ I h) fun v s1 ⟨x,H1,I1,r1,q1⟩=>ho pins s1 σ H1 x v Q I1 r1 q1)
theorem opI {f:Value→Value→Sem Value} {C:Int→Int→Prop} {g:Int→Int→Int}
  (rule:∀ (i j:Int) (t u:Tok) (s:Shared) (Q:Value→Shared→Prop) (E:Value→Shared→Prop),C i j→Q (.int (g i j) s.toks) { s with toks:=s.toks+1 }→wpAny (model X.prog X.w) X.A (f (.int i t) (.int j u)) Q E s) :
  OpR X f (rI C fun i j => .int (g i j)):=by
 intro pins s σ H x y v u Q I rx ry h
 obtain ⟨i,j,rfl,rfl,hc,q⟩:=h
 obtain ⟨t,rfl⟩:=rx
 obtain ⟨t',rfl⟩:=ry
 exact rule i j t t' s _ _ hc ⟨.int (g i j),H,I.tok _,⟨_,rfl⟩,q⟩
theorem opI0 {f:Value→Value→Sem Value} {g:Int→Int→Int}
  (rule:∀ (i j:Int) (t u:Tok) (s:Shared) (Q:Value→Shared→Prop) (E:Value→Shared→Prop),Q (.int (g i j) s.toks) { s with toks:=s.toks+1 }→wpAny (model X.prog X.w) X.A (f (.int i t) (.int j u)) Q E s) :
  OpR X f (rI0 fun i j => .int (g i j)):=by
 intro pins s σ H x y v u Q I rx ry h
 obtain ⟨i,j,rfl,rfl,q⟩:=h
 obtain ⟨t,rfl⟩:=rx
 obtain ⟨t',rfl⟩:=ry
 exact rule i j t t' s _ _ ⟨.int (g i j),H,I.tok _,⟨_,rfl⟩,q⟩
theorem opB0 {f:Value→Value→Sem Value} {g:Int→Int→Bool}
  (rule:∀ (i j:Int) (t u:Tok) (s:Shared) (Q:Value→Shared→Prop) (E:Value→Shared→Prop),Q (.bool (g i j)) s→wpAny (model X.prog X.w) X.A (f (.int i t) (.int j u)) Q E s) :
  OpR X f (rI0 fun i j => .bl (g i j)):=by
 intro pins s σ H x y v u Q I rx ry h
 obtain ⟨i,j,rfl,rfl,q⟩:=h
 obtain ⟨t,rfl⟩:=rx
 obtain ⟨t',rfl⟩:=ry
 exact rule i j t t' s _ _ ⟨.bl (g i j),H,I,rfl,q⟩
def CPow (i j:Int):Prop:=0≤j∧j≤1000000∧i.natAbs<2^64
def CMul (i j:Int):Prop:=(-(2^64)<i∧i<2^64)∨(-(2^64)<j∧j<2^64)
theorem CMul.ok {i j:Int} (h:CMul i j):IntMulOk i j:=by
 rcases h with ⟨h1,h2⟩ | ⟨h1,h2⟩
 ·exact .of_left (intBits_le_64 h1 h2)
 ·exact .of_right (intBits_le_64 h1 h2)
theorem Y8:OpR X (binaryOp .Add) (rI0 fun i j => .int (i+j)):=opI0 fun _ _ _ _ _ _ _ q=>add_int q
theorem WX:OpR X (binaryOp .Sub) (rI0 fun i j => .int (i - j)):=opI0 fun _ _ _ _ _ _ _ q=>sub_int q
theorem Xk:OpR X (binaryOp .Mod) (rI (fun _ j=>0<j) fun i j => .int (i%j)):=opI fun i j _ _ _ _ _ hc q=>by
 have h1:(0:Int)<j:=hc
 exact mod_int' (by omega) (by rw [Int.fmod_eq_emod_of_nonneg i (by omega)];exact q)
theorem Ybe:OpR X (binaryOp .Pow) (rI CPow fun i j => .int (i^j.toNat)):=opI fun _ _ _ _ _ _ _ hc q=>pow_int_small hc.1 hc.2.1 hc.2.2 q
theorem unI {f:Value→Sem Value} {g:Int→Int}
  (rule:∀ (i:Int) (t:Tok) (s:Shared) (Q:Value→Shared→Prop) (E:Value→Shared→Prop),Q (.int (g i) s.toks) { s with toks:=s.toks+1 }→wpAny (model X.prog X.w) X.A (f (.int i t)) Q E s) :
  UnR X f (rU fun i => .int (g i)):=by
 intro pins s σ H x v Q I rx h
 obtain ⟨i,rfl,q⟩:=h
 obtain ⟨t,rfl⟩:=rx
 exact rule i t s _ _ ⟨.int (g i),H,I.tok _,⟨_,rfl⟩,q⟩
theorem XE:UnR X (unaryOp .USub) (rU fun i => .int (-i)):=unI fun _ _ _ _ _ q=>neg_int q
end
def YaF:V→V→Bool
 | .non,.non=>true | .non,.int _=>true | .int _,.non=>true | .non,.bl _=>true | .bl _,.non=>true | .non,.str _=>true | .str _,.non=>true
 | .int _,.int _=>true | .bl _,.bl _=>true | .str _,.str _=>true | .byt _,.byt _=>true
 | .int _,.str _=>true | .str _,.int _=>true | .bl _,.str _=>true | .str _,.bl _=>true
 | _,_=>false
def rEq:R2:=fun x y H Q=>YaF x y=true∧Q (.bl (decide (x=y))) H
def rNe:R2:=fun x y H Q=>YaF x y=true∧Q (.bl (!decide (x=y))) H
theorem Yac {i j:Int}:decide (V.int i=V.int j)=(i==j):=by
 rw [Bool.eq_iff_iff]
 simp
theorem Ybf {i j:Bool}:decide (V.bl i=V.bl j)=(i==j):=by
 rw [Bool.eq_iff_iff]
 simp
theorem Yad {i j:Str}:decide (V.str i=V.str j)=(i==j):=by
 rw [Bool.eq_iff_iff]
 simp
theorem Yae {i j:Array UInt8}:decide (V.byt i=V.byt j)=(i.toList==j.toList):=by
 rw [Bool.eq_iff_iff]
 cases i
 cases j
 simp
section
variable {X:Cx} {a b c:Expr} {ta tb tc:TE} {pos:Pos}
theorem Yx {pins:List (Addr×Obj)} {σ:St} {H:Hp} {s:Shared} {Q:VK} {k k':Bool} (I:Inv X pins σ H s) (q:Q (.bl k) H) (e:k=k'):EP X pins σ Q (.bool k') s:=by
 subst e
 exact ⟨.bl k,H,I,rfl,q⟩
theorem YQ:OpR X (compareOp .Eq) rEq:=by
 intro pins s σ H x y v u Q I rx ry h
 obtain ⟨hs,q⟩:=h
 cases x with
 | non =>
  cases rx
  cases y with
  | non=>cases ry;exact PySem.EqNone.eq_none_none (Yx I q (by simp))
  | bl j=>cases ry;exact PySem.EqNone.eq_none_bool (Yx I q (by simp))
  | int j=>obtain ⟨t',rfl⟩:=ry;exact PySem.EqNone.eq_none_int (Yx I q (by simp))
  | str j=>obtain ⟨t',rfl⟩:=ry;exact PySem.EqNone.eq_none_str (Yx I q (by simp))
  | _=>exact absurd (show false=true from hs) Bool.false_ne_true
 | bl i =>
  cases rx
  cases y with
  | non=>cases ry;exact PySem.EqNone.eq_bool_none (Yx I q (by simp))
  | bl j=>cases ry;exact eq_bool (Yx I q Ybf)
  | str j=>obtain ⟨t',rfl⟩:=ry;exact PySem.EqMixed.eq_bool_str (Yx I q (by simp))
  | _=>exact absurd (show false=true from hs) Bool.false_ne_true
 | int i =>
  obtain ⟨t,rfl⟩:=rx
  cases y with
  | non=>cases ry;exact PySem.EqNone.eq_int_none (Yx I q (by simp))
  | int j=>obtain ⟨t',rfl⟩:=ry;exact eq_int (Yx I q Yac)
  | str j=>obtain ⟨t',rfl⟩:=ry;exact PySem.EqMixed.eq_int_str (Yx I q (by simp))
  | _=>exact absurd (show false=true from hs) Bool.false_ne_true
 | str i =>
  obtain ⟨t,rfl⟩:=rx
  cases y with
  | non=>cases ry;exact PySem.EqNone.eq_str_none (Yx I q (by simp))
  | bl j=>cases ry;exact PySem.EqMixed.eq_str_bool (Yx I q (by simp))
  | int j=>obtain ⟨t',rfl⟩:=ry;exact PySem.EqMixed.eq_str_int (Yx I q (by simp))
  | str j=>obtain ⟨t',rfl⟩:=ry;exact eq_str (Yx I q Yad)
  | _=>exact absurd (show false=true from hs) Bool.false_ne_true
 | byt i =>
  obtain ⟨t,rfl⟩:=rx
  cases y with
  | byt j=>obtain ⟨t',rfl⟩:=ry;exact PySem.W.eq_bytes (Yx I q Yae)
  | _=>exact absurd (show false=true from hs) Bool.false_ne_true
 | _=>cases y<;>exact absurd (show false=true from hs) Bool.false_ne_true
theorem YaG:OpR X (compareOp .NotEq) rNe:=by
 intro pins s σ H x y v u Q I rx ry h
 obtain ⟨hs,q⟩:=h
 cases x with
 | non =>
  cases rx
  cases y with
  | non=>cases ry;exact PySem.EqNone.ne_none_none (Yx I q (by simp))
  | bl j=>cases ry;exact PySem.EqNone.ne_none_bool (Yx I q (by simp))
  | int j=>obtain ⟨t',rfl⟩:=ry;exact PySem.EqNone.ne_none_int (Yx I q (by simp))
  | str j=>obtain ⟨t',rfl⟩:=ry;exact PySem.EqNone.ne_none_str (Yx I q (by simp))
  | _=>exact absurd (show false=true from hs) Bool.false_ne_true
 | bl i =>
  cases rx
  cases y with
  | non=>cases ry;exact PySem.EqNone.ne_bool_none (Yx I q (by simp))
  | bl j=>cases ry;exact ne_bool (Yx I q (congrArg not Ybf))
  | str j=>obtain ⟨t',rfl⟩:=ry;exact PySem.EqMixed.ne_bool_str (Yx I q (by simp))
  | _=>exact absurd (show false=true from hs) Bool.false_ne_true
 | int i =>
  obtain ⟨t,rfl⟩:=rx
  cases y with
  | non=>cases ry;exact PySem.EqNone.ne_int_none (Yx I q (by simp))
  | int j=>obtain ⟨t',rfl⟩:=ry;exact ne_int (Yx I q (congrArg not Yac))
  | str j=>obtain ⟨t',rfl⟩:=ry;exact PySem.EqMixed.ne_int_str (Yx I q (by simp))
  | _=>exact absurd (show false=true from hs) Bool.false_ne_true
 | str i =>
  obtain ⟨t,rfl⟩:=rx
  cases y with
  | non=>cases ry;exact PySem.EqNone.ne_str_none (Yx I q (by simp))
  | bl j=>cases ry;exact PySem.EqMixed.ne_str_bool (Yx I q (by simp))
  | int j=>obtain ⟨t',rfl⟩:=ry;exact PySem.EqMixed.ne_str_int (Yx I q (by simp))
  | str j=>obtain ⟨t',rfl⟩:=ry;exact ne_str (Yx I q (congrArg not Yad))
  | _=>exact absurd (show false=true from hs) Bool.false_ne_true
 | byt i =>
  obtain ⟨t,rfl⟩:=rx
  cases y with
  | byt j=>obtain ⟨t',rfl⟩:=ry;exact PySem.W.ne_bytes (Yx I q (congrArg not Yae))
  | _=>exact absurd (show false=true from hs) Bool.false_ne_true
 | _=>cases y<;>exact absurd (show false=true from hs) Bool.false_ne_true
theorem op_lt:OpR X (compareOp .Lt) (rI0 fun i j => .bl (decide (i<j))):=opB0 fun _ _ _ _ _ _ _ q=>lt_int q
theorem YcT:OpR X (compareOp .LtE) (rI0 fun i j => .bl (decide (i≤j))):=opB0 fun _ _ _ _ _ _ _ q=>le_int q
theorem op_gt:OpR X (compareOp .Gt) (rI0 fun i j => .bl (decide (j<i))):=opB0 fun _ _ _ _ _ _ _ q=>gt_int q
theorem Ybg:OpR X (compareOp .In) (fun x y H Q=>∃ i j,x = .str i∧y = .str j∧Q (.bl (!(Builtin.Str.occurrences j i 0 j.length 1).isEmpty)) H):=by
 intro pins s σ H x y v u Q I rx ry h
 obtain ⟨i,j,rfl,rfl,q⟩:=h
 obtain ⟨t,rfl⟩:=rx
 obtain ⟨t',rfl⟩:=ry
 exact in_str (Yx I q rfl)
theorem Ybh:OpR X (compareOp .Is) (fun x y H Q=>y = .non∧Q (.bl (decide (x = .non))) H):=by
 intro pins s σ H x y v u Q I rx ry h
 obtain ⟨rfl,q⟩:=h
 cases ry
 refine is_none_gen (Yx I q ?_)
 cases x<;>first
  | (cases rx;rfl)
  | (obtain ⟨t,rfl⟩:=rx;rfl)
theorem Yaf:OpR X (compareOp .IsNot) (fun x y H Q=>y = .non∧Q (.bl (!decide (x = .non))) H):=by
 intro pins s σ H x y v u Q I rx ry h
 obtain ⟨rfl,q⟩:=h
 cases ry
 refine isnot_none_gen (Yx I q ?_)
 cases x<;>first
  | (cases rx;rfl)
  | (obtain ⟨t,rfl⟩:=rx;rfl)
theorem Yo (b:Expr) {op:CmpOp} (h:op ≠ .In:=by decide) (h2:op ≠ .NotIn:=by decide):behindInMarks op b=false:=by
 have e1:(op==CmpOp.In)=false:=by cases op<;>first | rfl | exact absurd rfl h
 have e2:(op==CmpOp.NotIn)=false:=by cases op<;>first | rfl | exact absurd rfl h2
 cases b<;>simp [behindInMarks,e1,e2]
theorem Y6 {op:CmpOp} {r:R2} (ho:OpR X (compareOp op) r) (ha:PE X a ta) (hb:PE X b tb) (hm:behindInMarks op b=false):PE X (.Compare a [op] [b] pos) (tOp r ta tb):=by
 intro pins s σ H Q I h
 exact wpAny_Compare1 (binT ha hb I h fun v u s2 x y H2 I2 rx ry q=>ho pins s2 σ H2 x y v u Q I2 rx ry q) hm
def YcU (t:TE):TT:=fun σ H Q=>t σ H fun x H'=>∃ k,x = .bl k∧Q k H'
theorem Yp {op:CmpOp} {r:R2} (ho:OpR X (compareOp op) r) (ha:PE X a ta) (hb:PE X b tb) (hm:behindInMarks op b=false):PT X (.Compare a [op] [b] pos) (YcU (tOp r ta tb)):=by
 intro pins s σ H Q I h
 refine wpAny_isTrue_Compare1 (thn (ha pins s σ H _ I h) fun v s1 ⟨x,H1,I1,r1,q1⟩=>thn (hb pins s1 σ H1 _ I1 q1) fun u s2 ⟨y,H2,I2,r2,q2⟩ =>
  thn (ho pins s2 σ H2 x y v u _ I2 r1 r2 q2) fun c s3 ⟨z,H3,I3,r3,k,e,q3⟩=>?_) hm
 subst e
 cases r3
 exact wpAny_truthy_bool ⟨H3,I3,q3⟩
def Ybi (r r':R2) (ta tb tc:TE):TE:=fun σ H Q=>ta σ H fun x H1=>tb σ H1 fun y H2=>r x y H2 fun z H3=>∃ k,z = .bl k ∧
 (if k=true then tc σ H3 fun w' H4=>r' y w' H4 Q else Q (.bl false) H3)
theorem Ycb {op op':CmpOp} {r r':R2} (ho:OpR X (compareOp op) r) (ho':OpR X (compareOp op') r') (ha:PE X a ta) (hb:PE X b tb) (hc:PE X c tc)
  (hm:lastMarks [op,op'] [b,c]=false):PE X (.Compare a [op,op'] [b,c] pos) (Ybi r r' ta tb tc):=by
 intro pins s σ H Q I h
 refine Compare_chain (thn (ha pins s σ H _ I h) fun v s1 ⟨x,H1,I1,r1,q1⟩=>chain_link (thn (hb pins s1 σ H1 _ I1 q1) fun u s2 ⟨y,H2,I2,r2,q2⟩ =>
  thn (ho pins s2 σ H2 x y v u _ I2 r1 r2 q2) fun d s3 ⟨z,H3,I3,r3,k,e,q3⟩=>?_)) hm
 subst e
 cases r3
 refine wpAny_truthy_bool ?_
 cases k with
 | false=>exact ite_ff ⟨.bl false,H3,I3,rfl,q3⟩
 | true=>exact ite_tt (chain_last (thn (hc pins s3 σ H3 _ I3 q3) fun w' s4 ⟨z',H4,I4,r4,q4⟩=>ho' pins s4 σ H4 y z' u w' Q I4 r2 r4 q4))
theorem WY:(sizeLine:Nat)<2^63:=by rw [sizeLine_eq];decide
theorem XF {x:V} {us:List Value} (r:Yn [x] us):∃ u,us=[u]∧Yr x u:=by
 cases r with
 | cons r1 r2=>cases r2;exact ⟨_,rfl,r1⟩
theorem YcV {x y:V} {us:List Value} (r:Yn [x,y] us):∃ u w',us=[u,w']∧Yr x u∧Yr y w':=by
 cases r with
 | cons r1 r2 =>
  cases r2 with
  | cons r3 r4=>cases r4;exact ⟨_,_,rfl,r1,r3⟩
theorem Ybj (hc:X.calm=true):Xu X (.builtin "max") (fun xs H Q=>∃ i j,xs=[.int i,.int j]∧Q (.int (if j>i then j else i)) H):=by
 intro pins s σ H xs us Q I r h
 obtain ⟨i,j,rfl,q⟩:=h
 obtain ⟨u,w',rfl,⟨t,rfl⟩,⟨t',rfl⟩⟩:=YcV r
 refine max_two_ints (I.ok.hd hc) fun h' tk k=>⟨_,H,I.kept k,?_,q⟩
 by_cases hj:j>i
 ·rw [if_pos hj,if_pos hj];exact ⟨_,rfl⟩
 ·rw [if_neg hj,if_neg hj];exact ⟨_,rfl⟩
theorem Uf:Xu X (.type "int") (fun xs H Q=>(∃ i,xs=[.int i]∧Q (.int i) H)∨∃ k,xs=[.bl k]∧Q (.int (if k then 1 else 0)) H):=by
 intro pins s σ H xs us Q I r h
 rcases h with ⟨i,rfl,q⟩ | ⟨k,rfl,q⟩
 ·obtain ⟨u,rfl,t,rfl⟩:=XF r
  exact call_int_int ⟨.int i,H,I,⟨_,rfl⟩,q⟩
 ·obtain ⟨u,rfl,r1⟩:=XF r
  cases r1
  exact call_int_bool ⟨.int (if k then 1 else 0),H,I.tok _,⟨_,rfl⟩,q⟩
end
end L2
namespace L2
open PySem PySem.Spec PyProof.Rows
structure ObjM (h:Heap) (x dx C:Addr) (mA:Str→Option Value):Prop where
 obj:h.get? x=some (PySem.W.instObj C dx)
 ns:h.Ns1 dx mA
 ne:dx≠x
theorem Ybk {h:Heap} {dx:Addr} {mA:Str→Option Value} (n:h.Ns1 dx mA):∃ od,h.get? dx=some od∧∀ name,PySem.W.lookIn name od=some (mA name):=by
 obtain ⟨o,es,ep,ho,hd,hk,_,hm⟩:=n
 refine ⟨o,ho,fun name=>?_⟩
 have e:=hm name
 unfold nsFind findBy at e
 rw [← Array.find?_toList] at e
 unfold PySem.W.lookIn
 rw [hd]
 dsimp only
 split
 ·rename_i y q
  rw [q] at e
  exact congrArg some e
 ·rename_i q
  rw [q] at e
  have a:es.toList.any (·.refKey)=false:=by
   rw [List.any_eq_false]
   intro y hy
   obtain ⟨z,t,hkey⟩:=hk y (Array.mem_toList_iff.mp hy)
   simp [DictEntry.refKey,hkey]
  have a':¬ es.toList.any (·.refKey)=true:=by rw [a];exact Bool.false_ne_true
  rw [if_neg a']
  exact congrArg some e
theorem ObjM.look {h:Heap} {x dx C:Addr} {mA:Str→Option Value} (I:ObjM h x dx C mA):∃ od,PySem.W.InstAt h x (PySem.W.instObj C dx) C (some od)∧∀ name,PySem.W.lookIn name od=some (mA name) :=
 let ⟨od,ho,hl⟩:=Ybk I.ns
 ⟨od,⟨I.obj,rfl,rfl,ho⟩,hl⟩
section
variable {prog:Program} {w:World} {A:Around} {E:Value→Shared→Prop} {s:Shared} {K:PySem.W.Frag} {x dx C f:Addr} {mA:Str→Option Value} {name:Str} {v:Value}
end
def putF (f:Str) (v:V):List (Str×V)→List (Str×V)
 | []=>[(f,v)]
 | (g,x)::r=>if g=f then (g,v)::r else (g,x)::putF f v r
section
variable {P:Program} {w:World} {H H':Hp} {h h':Heap} {a C dx:Addr} {fs fs':List (Str×V)}
theorem Yde (hok:HOk P w H h) (e:H a=some (.ins C dx fs)):∃ mA,ObjM h a dx C mA∧(∀ f,UX (fs.lookup f) (mA f))∧PySem.Within mA (fs.map (·.1))∧fs.length≤1000∧H dx=some (.own a):=by
 obtain ⟨d,z,ne,ob,mA,n,r,q⟩:=(show YJ P w H h a (.ins C dx fs) from hok a _ e)
 exact ⟨mA,⟨ob,n,ne⟩,r,q,z,d⟩
end
structure Cls (K:PySem.W.Frag) (C:Addr):Prop where
 pg:PySem.W.plainGet K C Str.empty=true
 hd:PySem.W.hasDictIn K C=true
 po:PySem.W.plainOver K C=true
 sa:PySem.W.findIn K (.ref C) "__setattr__"=some (some (.builtin "object.__setattr__"))
theorem Cls.get {K:PySem.W.Frag} {C:Addr} (c:Cls K C) (f:Str):PySem.W.plainGet K C f=true:=c.pg
def Ybl (K:PySem.W.Frag) (C:Addr) (f:Str):Prop:=PySem.W.findIn K (.ref C) f=some none
structure Meth (K:PySem.W.Frag) (C:Addr) (m:Str) (f:Addr):Prop where
 at_:PySem.W.findIn K (.ref C) m=some (some (.ref f))
 fn:PySem.W.isFn K (.ref f)=true
 kp:PySem.W.keepIn K (.ref f)=true
section
variable {X:Cx} {pins:List (Addr×Obj)} {σ:St} {H:Hp} {s:Shared} {a C dx:Addr} {fs:List (Str×V)} {f:Str} {v:V} {A:Around} {E:Value→Shared→Prop}
end
def tFld (K:PySem.W.Frag) (ta:TE) (f:Str):TE:=fun σ H Q=>ta σ H fun x H1=>∃ a C dx fs v,x = .ref a∧H1 a=some (.ins C dx fs)∧Cls K C∧Ybl K C f∧fs.lookup f=some v∧Q v H1
def sFld (K:PySem.W.Frag) (ta tv:TE) (f:Str):TS:=fun D σ H=>tv σ H fun y H1=>ta σ H1 fun x H2=>∃ a C dx fs,x = .ref a∧H2 a=some (.ins C dx fs)∧Cls K C∧Ybl K C f∧fs.length<1000 ∧
 D.nx σ (upd H2 a (.ins C dx (putF f y fs)))
section
variable {X:Cx} {o e value:Expr} {f:Str} {pos pos' tpos:Pos} {ta tv:TE}
end
section
variable {X:Cx} {pins:List (Addr×Obj)} {σ:St} {H:Hp} {s:Shared} {A:Around} {E:Value→Shared→Prop} {Q:Value→Shared→Prop} {c:Value} {b:Bool}
inductive TyOf (K:PySem.W.Frag) (H:Hp):V→Value→Prop where
 | non:TyOf K H .non (.type "NoneType")
 | bl (x:Bool):TyOf K H (.bl x) (.type "bool")
 | int (i:Int):TyOf K H (.int i) (.type "int")
 | str (x:Str):TyOf K H (.str x) (.type "str")
 | flt (x:UInt64):TyOf K H (.flt x) (.type "float")
 | lst {a:Addr} {xs:List V} (e:H a=some (.lst xs)):TyOf K H (.ref a) (.type "list")
 | frz {a:Addr} {o:Obj} {xs:List V} (e:H a=some (.frz o (.lst xs))):TyOf K H (.ref a) (.type "list")
 | tup {a:Addr} {xs:List V} (e:H a=some (.tup xs)):TyOf K H (.ref a) (.type "tuple")
 | dK {a:Addr} {kvs:List (Key×V)} (e:H a=some (.dK kvs)):TyOf K H (.ref a) (.type "dict")
 | dT {a:Addr} {kvs:List (List Key×V)} (e:H a=some (.dT kvs)):TyOf K H (.ref a) (.type "dict")
 | ins {a C dx:Addr} {fs:List (Str×V)} (e:H a=some (.ins C dx fs)) (cl:Cls K C) (ha:PySem.W.findIn K (.ref C) "__class__"=some (some (.builtin "object.__class__")))
   (hn:PySem.W.specialIn K (.builtin "object.__class__") "__get__"=some (some (.builtin "getset_descriptor.__get__"))) (htk:PySem.W.takesIn K (.builtin "object.__class__")=some true)
   (hm:PySem.W.mroIn K C (.type "object")=some true):TyOf K H (.ref a) (.ref C)
theorem Ybm {x:V} {u t:Value} (I:Inv X pins σ H s) (rx:Yr x u) (ty:TyOf X.K H x t) (e:PySem.W.kitOne X.K t c=some b) (h:∀ tk,Q (.bool b) { s with toks:=tk }) :
  wpAny (model X.prog X.w) A (call (.builtin "isinstance") [u,c]) Q E s:=by
 cases ty with
 | non=>cases (show u=Value.none from rx);exact PySem.W.kia_one PySem.W.kitx_none I.kIn True.intro e (fun z=>nomatch z) h
 | bl y=>cases (show u=Value.bool y from rx);exact PySem.W.kia_one PySem.W.kitx_bool I.kIn True.intro e (fun z=>nomatch z) h
 | int i=>obtain ⟨t,q⟩:=(show ∃ t,u=Value.int i t from rx);cases q;exact PySem.W.kia_one PySem.W.kitx_int I.kIn True.intro e (fun z=>nomatch z) h
 | str y=>obtain ⟨t,q⟩:=(show ∃ t,u=Value.str y t from rx);cases q;exact PySem.W.kia_one PySem.W.kitx_str I.kIn True.intro e (fun z=>nomatch z) h
 | flt y=>obtain ⟨t,q⟩:=(show ∃ t,u=Value.float y t from rx);cases q;exact PySem.W.kia_one PySem.W.kitx_float I.kIn True.intro e (fun z=>nomatch z) h
 | @lst a xs ea =>
  cases (show u=Value.ref a from rx)
  obtain ⟨_,_,n,_,h1⟩:=(show YJ X.prog X.w H s.heap a (.lst xs) from I.hok a _ ea)
  exact PySem.W.kia_one PySem.W.kitx_list I.kIn ⟨_,h1,rfl⟩ e (fun z=>nomatch z) h
 | @frz a ob xs ea =>
  cases (show u=Value.ref a from rx)
  obtain ⟨_,_,_,n,_,h1⟩:=(show YJ X.prog X.w H s.heap a (.frz ob (.lst xs)) from I.hok a _ ea)
  exact PySem.W.kia_one PySem.W.kitx_list I.kIn ⟨_,h1,rfl⟩ e (fun z=>nomatch z) h
 | @tup a xs ea =>
  cases (show u=Value.ref a from rx)
  obtain ⟨_,_,_,p⟩:=(show YJ X.prog X.w H s.heap a (.tup xs) from I.hok a _ ea)
  obtain ⟨o,h1,h2,_⟩:=p
  exact PySem.W.kia_one PySem.W.kitx_tuple I.kIn ⟨o,h1,h2⟩ e (fun z=>nomatch z) h
 | @dK a kvs ea =>
  cases (show u=Value.ref a from rx)
  obtain ⟨_,_,vs,_,p⟩:=(show YJ X.prog X.w H s.heap a (.dK kvs) from I.hok a _ ea)
  obtain ⟨o,es,ep,h1,h2,_⟩:=p
  exact PySem.W.kia_one PySem.W.kitx_dict I.kIn ⟨o,h1,h2.1⟩ e (fun z=>nomatch z) h
 | @dT a kvs ea =>
  cases (show u=Value.ref a from rx)
  obtain ⟨_,_,xs,_,o,es,ep,h1,h2,_⟩:=(show YJ X.prog X.w H s.heap a (.dT kvs) from I.hok a _ ea)
  exact PySem.W.kia_one PySem.W.kitx_dict I.kIn ⟨o,h1,h2.1⟩ e (fun z=>nomatch z) h
 | @ins a C dx fs ea cl ha hn htk hm =>
  cases (show u=Value.ref a from rx)
  obtain ⟨mA,O,_⟩:=Yde I.hok ea
  obtain ⟨od,J,_⟩:=O.look
  exact PySem.W.kia_one (PySem.W.kitx_own (cl.get _) cl.hd ha hn htk hm) I.kIn J e (fun z=>nomatch z) h
end
end L2
namespace L2
open PySem PySem.Spec PyProof.Rows
structure Room (k:Nat) (A:Around):Prop where
 hd:A.handled=none
 dp:A.depth+3*k+5<recursionLimit
 un:A.units+16*k+200<cLine
 gd:A.guards=some []
theorem Room.mono {j k:Nat} {A:Around} (r:Room k A) (h:j≤k):Room j A:=⟨r.hd,by have:=r.dp;omega,by have:=r.un;omega,r.gd⟩
theorem Room.deeper {k:Nat} {A:Around} (r:Room (k+1) A) (env:Env):Room k (A.deeper env) :=
 ⟨r.hd,by have:=r.dp;show A.depth+1+3*k+5<_;omega,by have:=r.un;show A.units+3+16*k+200<_;omega,r.gd⟩
theorem Room.in1 {k:Nat} {A:Around} (r:Room (k+1) A):Room k A.in1 :=
 ⟨r.hd,by have:=r.dp;show A.depth+3*k+5<_;omega,by have:=r.un;show A.units+1+16*k+200<_;omega,r.gd⟩
theorem Room.depth {k:Nat} {A:Around} (r:Room k A):A.depth<recursionLimit:=by have:=r.dp;omega
theorem Room.units {k:Nat} {A:Around} (r:Room k A):A.units+64<cLine:=by have:=r.un;omega
def tNil:TA:=fun _ H Q=>Q [] H
def YaH (ta:TE) (tr:TA):TA:=fun σ H Q=>ta σ H fun x H1=>tr σ H1 fun xs H2=>Q (x::xs) H2
section
variable {X:Cx} {e:Expr} {es:List Expr} {te:TE} {t:TA} {pos:Pos}
theorem Yd:PA X [] tNil:=fun _ _ _ _ H Q I h=>Calls.spliced_nil ⟨[],H,I,.nil,h⟩
theorem Ya (ha:PE X e te) (hr:PA X es t) (hs:starEach (e::es) X.env=(false,eval e X.env)::starEach es X.env):PA X (e::es) (YaH te t):=by
 intro pos pins s σ H Q I h
 rw [hs]
 show wpAny _ _ (spliced ((false,eval e X.env)::backTo pos (starEach es X.env))) _ _ s
 refine Calls.spliced_cons (thn (ha pins s σ H _ I h) fun u s1 ⟨x,H1,I1,r1,q1⟩=>?_)
 exact thn (hr pos pins s1 σ H1 _ I1 q1) fun us s2 ⟨xs,H2,I2,r2,q2⟩=>⟨x::xs,H2,I2,.cons r1 r2,q2⟩
def tTup (t:TA):TE:=fun σ H Q=>t σ H fun xs H1=>xs.length≤sizeLine∧∀ p,H1 p=none→Q (.ref p) (upd H1 p (.tup xs))
def tLst (t:TA):TE:=fun σ H Q=>t σ H fun xs H1=>xs.length≤sizeLine∧∀ p,H1 p=none→Q (.ref p) (upd H1 p (.lst xs))
theorem YR {x1} (h:PA X es t):PE X (.Tuple es x1 pos) (tTup t):=by
 intro pins s σ H Q I hq
 refine wpAny_Tuple_spliced (thn (h pos pins s σ H _ I hq) fun us s1 ⟨xs,H1,I1,r,z,q⟩=>⟨by rw [← r.length];exact z,?_⟩)
 have hf:H1 s1.heap.objs.size=none:=I1.hok.fresh (Nat.le_refl _)
 refine ⟨.ref s1.heap.objs.size,upd H1 s1.heap.objs.size (.tup xs),I1.laid (t':=s1.toks) (fun b u e=>Heap.get?_push_of_some _ e) (Nat.le_refl _) ?_,rfl,q _ hf⟩
 exact ⟨z,us,r,⟨_,Heap.get?_push_size _ rfl,rfl,_,rfl⟩⟩
theorem YM (h:PA X es t):PE X (.List es pos) (tLst t):=by
 intro pins s σ H Q I hq
 refine wpAny_List_spliced (thn (h pos pins s σ H _ I hq) fun us s1 ⟨xs,H1,I1,r,z,q⟩=>⟨by rw [← r.length];exact z,?_⟩)
 have hf:H1 s1.heap.objs.size=none:=I1.hok.fresh (Nat.le_refl _)
 refine ⟨.ref s1.heap.objs.size,upd H1 s1.heap.objs.size (.lst xs),I1.laid (t':=s1.toks) (fun b u e=>Heap.get?_push_of_some _ e) (Nat.le_refl _) ?_,rfl,q _ hf⟩
 exact ⟨z,us,0,r,Heap.get?_push_size _ rfl⟩
end
abbrev Sp:=List V→Hp→VK→XK→Prop
abbrev CXT:=List Env→Hp→Shared→XK→Value→Shared→Prop
structure Env0 (P:Program) (w:World) (K:PySem.W.Frag) (mg:Str→Option Value) (base:Heap) (A:Around) (outer:List Env) (s:Shared) (H:Hp):Prop where
 frames:A.frames=some outer
 mod:Mod K mg base
 bs:∀ b o,base.get? b=some o→s.heap.get? b=some o∧H b=none
 bsz:base.objs.size≤s.heap.objs.size
 funs:s.heap.FunFrames base outer
 frf:∀ b∈frs outer,H b=none
 hok:HOk P w H s.heap
 bare:AllBare s.gens
def CE (outer:List Env) (P:Program) (w:World) (H:Hp) (s:Shared) (Q:VK) (u:Value) (s':Shared):Prop :=
 ∃ v H',s'.os=s.os∧AllBare s'.gens∧Un (frs outer) [] H H' s.heap s'.heap∧HOk P w H' s'.heap∧Yr v u∧Q v H'
def CR (CX:CXT) (outer:List Env) (P:Program) (w:World) (H:Hp) (s:Shared) (Q:VK) (E:XK) (r:Result) (s':Shared):Prop :=
 match r with
 | .ok (.ret u)=>CE outer P w H s Q u s'
 | .ok _=>False
 | .error e=>CX outer H s E e s'
structure FnOk (P:Program) (w:World) (K:PySem.W.Frag) (mg:Str→Option Value) (base:Heap) (CX:CXT) (k:Nat) (f:Addr) (fd:FuncData) (ps:List Str) (sp:Sp):Prop where
 len:∀ vs H Q E,sp vs H Q E→vs.length=ps.length
 run:∀ (A:Around) (outer:List Env) (s:Shared) (H:Hp) (args:Args) (us:List Value) (vs:List V) (Q:VK) (E:XK),Room k A→Env0 P w K mg base A outer s H→BindsTo s fd args (ps.zip us)→Yn vs us→sp vs H Q E →
  codeAny (model P w) A (.call (.ref f) args) (CR CX outer P w H s Q E) s
theorem FnOk.mono {P:Program} {w:World} {K:PySem.W.Frag} {mg:Str→Option Value} {base:Heap} {CX:CXT} {j k:Nat} {f:Addr} {fd:FuncData} {ps:List Str} {sp:Sp} (F:FnOk P w K mg base CX j f fd ps sp) (h:j≤k) :
  FnOk P w K mg base CX k f fd ps sp:=⟨F.len,fun A outer s H args us vs Q E hr=>F.run A outer s H args us vs Q E (hr.mono h)⟩
theorem Env0.in1 {P:Program} {w:World} {K:PySem.W.Frag} {mg:Str→Option Value} {base:Heap} {A:Around} {outer:List Env} {s:Shared} {H:Hp} (e:Env0 P w K mg base A outer s H) :
  Env0 P w K mg base A.in1 outer s H:=⟨e.frames,e.mod,e.bs,e.bsz,e.funs,e.frf,e.hok,e.bare⟩
section
variable {X:Cx} {pins:List (Addr×Obj)} {σ:St} {H:Hp} {s s':Shared}
theorem Inv.env0 (I:Inv X pins σ H s):Env0 X.prog X.w X.K X.mg X.base X.A X.stack s H :=
 ⟨I.ok.frames,I.ok.mod,I.bs,Nat.le_trans I.ok.bsz I.sz,I.stack,I.stkFree,I.hok,I.bare⟩
theorem Inv.after {Q:VK} {u:Value} (I:Inv X pins σ H s) (h:CE X.stack X.prog X.w H s Q u s'):EP X pins σ Q u s':=by
 obtain ⟨v,H',os,bare,un,hok,r,q⟩:=h
 obtain ⟨hh,g,d,t,os'⟩:=s'
 obtain rfl:os'=s.os:=os
 exact ⟨v,H',I.call (h':=hh) (g':=g) (d':=d) (t':=t) (ch:=[]) un hok bare (fun b z=>absurd z (by simp)),r,q⟩
end
def YaI (sp:Sp) (dvs:List V) (E:XK) (t:TA):TE:=fun σ H Q=>t σ H fun vs H1=>sp (vs++dvs) H1 Q E
def tMeth (C:Addr) (m:Str) (sp:Sp) (dvs:List V) (E:XK) (ta:TE) (t:TA):TE:=fun σ H Q=>ta σ H fun x H1=>∃ a dx fs,x = .ref a∧H1 a=some (.ins C dx fs)∧fs.lookup m=none ∧
 t σ H1 fun vs H2=>sp (x::(vs++dvs)) H2 Q E
def tMake (C:Addr) (sp:Sp) (dvs:List V) (E:XK) (t:TA):TE:=fun σ H Q=>t σ H fun vs H1=>∀ x dx,H1 x=none→H1 dx=none→dx≠x →
 sp (.ref x::(vs++dvs)) (upd (upd H1 dx (.own x)) x (.ins C dx [])) (fun v H2=>v = .non∧Q (.ref x) H2) E
def XG (K:PySem.W.Frag) (fd:FuncData) (ps:List Str) (ds:List Value):Prop :=
 ∀ (s:Shared) (us:List Value),K.In s.heap→(us++ds).length=ps.length→BindsTo s fd ⟨us,[]⟩ (ps.zip (us++ds))
theorem XG.all {K:PySem.W.Frag} {fd:FuncData} {ps:List Str} (h:∀ us:List Value,us.length=ps.length→bindArgs fd ⟨us,[]⟩=pure (ps.zip us)):XG K fd ps []:=fun s us _ hl=>by
 rw [List.append_nil] at hl ⊢
 exact .of_eq (h us hl)
def U5 (CX:CXT) (X:Cx) (E:XK):Prop:=∀ (pins:List (Addr×Obj)) (σ:St) (H:Hp) (s:Shared) (e:Value) (s':Shared),Inv X pins σ H s→CX X.stack H s E e s'→X.xe e s'
section
variable {X:Cx} {CX:CXT} {k:Nat} {f C:Addr} {fd:FuncData} {ps:List Str} {sp:Sp} {dvs:List V} {ds:List Value} {E:XK} {x m:Str} {p pos apos:Pos} {e o:Expr} {es:List Expr} {ta:TE} {t:TA}
theorem Ybn {pins:List (Addr×Obj)} {σ:St} {H:Hp} {s:Shared} {Q:VK} {us:List Value} {vs:List V} (F:FnOk X.prog X.w X.K X.mg X.base CX k f fd ps sp) (hr:Room k X.A) (hb:XG X.K fd ps ds) (hd:Yn dvs ds) (hx:U5 CX X E)
  (I:Inv X pins σ H s) (r:Yn vs us) (h:sp (vs++dvs) H Q E):wpAny (model X.prog X.w) X.A (call (.ref f) us) (EP X pins σ Q) X.xe s:=by
 have r2:Yn (vs++dvs) (us++ds):=r.append hd
 have hl:(us++ds).length=ps.length:=by rw [← r2.length];exact F.len _ _ _ _ h
 refine wpAny_call (codeAny_mono (F.run X.A X.stack s H ⟨us,[]⟩ (us++ds) (vs++dvs) Q E hr I.env0 (hb s us I.kIn hl) r2 h) fun r s' hq=>?_)
 cases r with
 | error e=>exact hx pins σ H s e s' I hq
 | ok fl =>
  cases fl with
  | ret u=>exact I.after hq
  | next=>exact False.elim hq
  | brk=>exact False.elim hq
  | cont=>exact False.elim hq
theorem Ydf (F:FnOk X.prog X.w X.K X.mg X.base CX k f fd ps sp) (hr:Room k X.A) (hg:Gl X x) (hm:X.mg x=some (.ref f)) (hk:PySem.W.keepIn X.K (.ref f)=true) (hb:XG X.K fd ps ds) (hd:Yn dvs ds) (hx:U5 CX X E)
  (ha:PA X (e::es) t) (hdb:(x==("__debug__":Str))=false:=by decide) (he:starEach (e::es) X.env=(false,eval e X.env)::starEach es X.env:=by rfl) (hpl:(backTo pos (starEach es X.env)).any (·.1)=false:=by rfl) :
  PE X (.Call (.Name x p) (e::es) [] pos) (YaI sp dvs E t):=by
 intro pins s σ H Q I h
 refine wpAny_Call_Name_kw (Yab I hg hm ?_ hdb)
 refine PySem.W.callWith_K (h₀:=X.base) I.ok.mod.kin hk (thn (ha pos pins s σ H _ I h) fun us s1 ⟨vs,H1,I1,r,q⟩=>⟨I1.kIn,?_⟩) he hpl
 exact Ybn F hr hb hd hx I1 r q
end
def PK (X:Cx) (kws:List Keyword) (t:TA):Prop :=
 ∀ (pos:Pos) (pins:List (Addr×Obj)) (s:Shared) (σ:St) (H:Hp) (Q:List V→Hp→Prop),Inv X pins σ H s→t σ H Q→wpAny (model X.prog X.w) X.A (evalAll ((backToKw pos (keywordEach kws X.env)).map (·.2))) (AP X pins σ Q) X.xe s
section
variable {X:Cx} {CX:CXT} {k:Nat} {f C:Addr} {fd:FuncData} {ps ks:List Str} {sp:Sp} {E:XK} {x m:Str} {p pos apos kpos:Pos} {e o:Expr} {es:List Expr} {kws:List Keyword} {te ta:TE} {t tk:TA} {nm:Option Str}
theorem YdW:PK X [] tNil:=fun _ _ _ _ H Q I h=>wpAny_evalAll_nil ⟨[],H,I,.nil,h⟩
theorem Ydg (ha:PE X e te) (hr:PK X kws t):PK X (⟨nm,e,kpos⟩::kws) (YaH te t):=by
 intro pos pins s σ H Q I h
 show wpAny _ _ (evalAll ((do let v ← eval e X.env;standAt pos;pure v)::(backToKw pos (keywordEach kws X.env)).map (·.2))) _ _ s
 refine wpAny_evalAll_cons (wpAny_bind (thn (ha pins s σ H _ I h) fun u s1 ⟨x,H1,I1,r1,q1⟩=>wpAny_bind (wpAny_standAt (wpAny_pure ?_))))
 exact thn (hr pos pins s1 σ H1 _ I1 q1) fun us s2 ⟨xs,H2,I2,r2,q2⟩=>⟨x::xs,H2,I2,.cons r1 r2,q2⟩
variable {g:List Value→List Value→List Value} {gV:List V→List V→List V}
end
structure FnScope (N P:List Str) (sc:Scope):Prop where
 kind:sc.kind = .function
 co:sc.isCoroutine=false
 gen:sc.isGenerator=false
 nd:N.Nodup
 pre:N.take P.length=P
 par:∀ x∈P,sc.names.lookup x=some .local∨sc.names.lookup x=some .cell
 nofree:∀ y∈sc.names,y.2 ≠ .free
theorem Ug {kindOf:Str→Option NameKind} {x:Str}:∀ {binds:List (Str×Value)} {m:Str→Option Value},(∀ v,(x,v)∉binds)→bindL kindOf binds m x=m x
 | [],_,_=>rfl
 | (n,v)::r,m,h=>by
  unfold bindL
  rw [Ug fun w hw=>h w (List.mem_cons_of_mem _ hw)]
  split
  ·have:x≠n:=by rintro rfl;exact h v List.mem_cons_self
   simp [this]
  ·rfl
theorem Uh {kindOf:Str→Option NameKind} {x:Str}:∀ {binds:List (Str×Value)} {m:Str→Option Value},(∀ v,(x,v)∉binds)→bindC kindOf binds m x=m x
 | [],_,_=>rfl
 | (n,v)::r,m,h=>by
  unfold bindC
  rw [Uh fun w hw=>h w (List.mem_cons_of_mem _ hw)]
  split
  ·rfl
  ·have:x≠n:=by rintro rfl;exact h v List.mem_cons_self
   simp [this]
theorem Ui {kindOf:Str→Option NameKind} {x:Str} {v:Value}:∀ {P:List Str} {vs:List Value} {i:Nat} {m:Str→Option Value},P.Nodup→P[i]?=some x→vs[i]?=some v→kindOf x=some .local →
  bindL kindOf (P.zip vs) m x=some v
 | [],_,_,_,_,h,_,_=>by simp at h
 | _::_,[],_,_,_,_,h,_=>by simp at h
 | p::P,w::vs,0,m,nd,h1,h2,hk=>by
  simp at h1 h2;subst h1;subst h2
  show bindL kindOf ((p,w)::P.zip vs) m p=_
  unfold bindL
  rw [Ug fun v hv=>(List.nodup_cons.mp nd).1 (List.of_mem_zip hv).1,if_pos hk]
  simp
 | p::P,w::vs,i+1,m,nd,h1,h2,hk=>by
  show bindL kindOf ((p,w)::P.zip vs) m x=_
  unfold bindL
  exact Ui (i:=i) (List.nodup_cons.mp nd).2 (by simpa using h1) (by simpa using h2) hk
theorem Uj {kindOf:Str→Option NameKind} {x:Str} {v:Value}:∀ {P:List Str} {vs:List Value} {i:Nat} {m:Str→Option Value},P.Nodup→P[i]?=some x→vs[i]?=some v→kindOf x≠some .local →
  bindC kindOf (P.zip vs) m x=some v
 | [],_,_,_,_,h,_,_=>by simp at h
 | _::_,[],_,_,_,_,h,_=>by simp at h
 | p::P,w::vs,0,m,nd,h1,h2,hk=>by
  simp at h1 h2;subst h1;subst h2
  show bindC kindOf ((p,w)::P.zip vs) m p=_
  unfold bindC
  rw [Uh fun v hv=>(List.nodup_cons.mp nd).1 (List.of_mem_zip hv).1,if_neg hk]
  simp
 | p::P,w::vs,i+1,m,nd,h1,h2,hk=>by
  show bindC kindOf ((p,w)::P.zip vs) m x=_
  unfold bindC
  exact Uj (i:=i) (List.nodup_cons.mp nd).2 (by simpa using h1) (by simpa using h2) hk
def Xi (N:List Str) (vs:List V):St:=vs.map some++List.replicate (N.length - vs.length) none
def Wm (CX:CXT) (P:Program) (w:World) (K:PySem.W.Frag) (mg:Str→Option Value) (base:Heap) (N:List Str) (qual:Str) (scope:Scope) (f:Addr) (cd:Value) (A:Around) (outer:List Env) (s:Shared) (H:Hp) (E:XK):Cx where
 prog:=P
 w:=w
 K:=K
 mg:=mg
 base:=base
 A:=A.deeper (envOfC qual scope s.heap.objs.size f cd)
 N:=N
 s₀:=s
 H₀:=H
 env:=envOfC qual scope s.heap.objs.size f cd
 outer:=outer
 stack:=envOfC qual scope s.heap.objs.size f cd::outer
 ex:=[]
 calm:=true
 fn:=fun _=>true
 pn:=[]
 xe:=fun e s'=>wpAny (model P w) (A.deeper (envOfC qual scope s.heap.objs.size f cd)) (leaving (envOfC qual scope s.heap.objs.size f cd) e) (fun _ s''=>CX outer H s E e s'') (fun e' s''=>CX outer H s E e' s'') s'
theorem U6 {sc:Scope} {n:Nat} {x:Str} (h:sc.names.lookup x=some .cell):∃ c,(cellsFrom n sc.names []).lookup x=some c:=by
 have q:=PySem.W.cellsFrom_some sc.names n [] (.inl h)
 exact Option.isSome_iff_exists.mp q
theorem Uk {CX:CXT} {P:Program} {w:World} {K:PySem.W.Frag} {mg:Str→Option Value} {base:Heap} {N ps:List Str} {qual:Str} {scope:Scope} {f:Addr} {cd:Value} {A:Around} {outer:List Env} {s s1:Shared} {H:Hp} {E:XK} {us:List Value} {vs:List V}
  (S:FnScope N ps scope) (hd:A.handled=none) (e0:Env0 P w K mg base A outer s H) (hl:vs.length=ps.length) (r:Yn vs us)
  (x:InCallC s s.heap.objs.size (bindL (envOfC qual scope s.heap.objs.size f cd).kindOf (ps.zip us) fun _=>none) (cellsFrom (s.heap.objs.size+1) scope.names []) (bindC (envOfC qual scope s.heap.objs.size f cd).kindOf (ps.zip us) fun _=>none) s1) :
  Inv (Wm CX P w K mg base N qual scope f cd A outer s H E) [] (Xi N vs) H s1:=by
 have hpl:ps.length≤N.length:=by have:=congrArg List.length S.pre;rw [List.length_take] at this;omega
 obtain ⟨h1,tk,rfl,hk⟩:=x.done
 have noA:∀ b:Addr,b∉(Wm CX P w K mg base N qual scope f cd A outer s H E).ex:=fun b z=>absurd (show b∈([]:List Addr) from z) (by simp)
 refine ⟨⟨e0.mod,S.kind,rfl,rfl,Nat.le_refl _,fun y z c h1 h2=>?_,fun y hy=>?_,fun y c _ h=>?_,fun _=>hd,Around.frames_deeper e0.frames,.inr ⟨rfl,rfl⟩,fun b z=>absurd z (noA b),e0.bs,e0.bsz,fun b _ _=>noA b,fun b z=>absurd z (noA b),e0.funs,e0.frf⟩,
  rfl,e0.bare,Un.kept hk,⟨_,x.toInCall.ns,fun i y v h1 h2 h3=>?_⟩,fun y c h=>⟨_,x.cell y c h⟩,e0.hok.fresh (Nat.le_refl _),fun y c h=>?_,fun p hp=>absurd (show p∈([]:List (Addr×Obj)) from hp) (by simp),e0.hok.kept hk,?_⟩
 ·exact name_of_addr x.apart (PySem.mem_of_lookup h1) (PySem.mem_of_lookup h2)
 ·have hy:scope.names.lookup y=some .cell∨scope.names.lookup y=some .free:=hy
  rcases hy with hy | hy
  ·exact U6 hy
  ·exact absurd rfl (S.nofree _ (PySem.mem_of_lookup hy))
 ·exact Nat.le_of_lt (x.above y c (PySem.mem_of_lookup h))
 ·have hi:i<vs.length:=by
   unfold Xi at h2
   by_cases hi:i<vs.length
   ·exact hi
   ·rw [List.getElem?_append_right (by simpa using hi)] at h2
    rw [List.getElem?_replicate] at h2
    split at h2<;>cases h2
  have ha:vs[i]?=some v:=by
   unfold Xi at h2
   rw [List.getElem?_append_left (by simpa using hi),List.getElem?_map] at h2
   cases e:vs[i]? with
   | none=>rw [e] at h2;cases h2
   | some a=>rw [e] at h2;cases h2;rfl
  obtain ⟨u,hu,rv⟩:=r.get ha
  have hp:ps[i]?=some y:=by
   rw [← S.pre,List.getElem?_take_of_lt (by omega)];exact h1
  have ndP:ps.Nodup:=by rw [← S.pre];exact S.nd.sublist (List.take_sublist _ _)
  refine ⟨u,rv,?_⟩
  rcases S.par y (List.mem_of_getElem? hp) with k | k
  ·exact .inl ⟨k,Ui ndP hp hu k⟩
  ·obtain ⟨c,e⟩:=U6 (n:=s.heap.objs.size+1) k
   refine .inr ⟨.inl k,c,e,?_⟩
   have q:=x.cell y c e
   rw [Uj ndP hp hu (by show scope.names.lookup y≠_;rw [k];decide)] at q
   exact q
 ·exact e0.hok.fresh (Nat.le_of_lt (x.above y c (PySem.mem_of_lookup h)))
 ·unfold Xi
  show _=N.length
  rw [List.length_append,List.length_map,List.length_replicate]
  omega
theorem fn_of {CX:CXT} {P:Program} {w:World} {K:PySem.W.Frag} {mg:Str→Option Value} {base:Heap} {k:Nat} {f:Addr} {name qual:Str} {params:Arguments} {body:List Stmt} {scope:Scope} {dV kV doc pm cdv ct oc:Value} {an od:Option Addr}
  {osl:Array (Option Value)} {N ps:List Str} {sp:Sp} (lk:K.lookup f=some ⟨oc,od,.func (PySem.W.fnOf name qual params body scope dV kV doc pm an cdv ct),osl⟩) (hcd:PySem.W.codeIn K cdv qual=true) (S:FnScope N ps scope)
  (len:∀ vs H Q E,sp vs H Q E→vs.length=ps.length)
  (hbody:∀ (A:Around) (outer:List Env) (s:Shared) (H:Hp) (vs:List V) (Q:VK) (E:XK),Room k (A.deeper (envOfC qual scope s.heap.objs.size f cdv))→sp vs H Q E →
   ∃ t,PSs (Wm CX P w K mg base N qual scope f cdv A outer s H E) body t∧t { nx:=fun _ H'=>Q .non H',rt:=Q } (Xi N vs) H) :
  FnOk P w K mg base CX (k+1) f (PySem.W.fnOf name qual params body scope dV kV doc pm an cdv ct) ps sp:=by
 refine ⟨len,fun A outer s H args us vs Q E hr e0 hb r hsp=>?_⟩
 have hl:=len _ _ _ _ hsp
 have KX:K.In s.heap:=e0.mod.kin.keeps fun b o e=>(e0.bs b o e).1
 have lim:s.heap.NoLimit:=e0.mod.nolimit.keeps fun b o e=>(e0.bs b o e).1
 have hkind:∀ y∈ps.zip us,scope.names.lookup y.1=some .local∨(scope.names.lookup y.1=some .cell∧((cellsFrom (s.heap.objs.size+1) scope.names []).lookup y.1).isSome=true):=fun ⟨n,v⟩ hy=>by
  rcases S.par n (List.of_mem_zip hy).1 with q | q
  ·exact .inl q
  ·exact .inr ⟨q,PySem.W.cellsFrom_some _ _ _ (.inl q)⟩
 refine codeAny_call_function hr.depth (KX _ _ lk) rfl S.co S.gen rfl (PySem.W.codeRec_of KX hcd) (hb _ _ _ _ ?_)
 refine wpAny_newFunctionEnv_cells S.kind hkind fun env he s1 x=>?_
 subst he
 refine ⟨lim.keeps x.toInCall.keep,codeAny_func ?_⟩
 obtain ⟨t,ht,hq⟩:=hbody A outer s H vs Q E (hr.deeper _) hsp
 have I:Inv (Wm CX P w K mg base N qual scope f cdv A outer s H E) [] (Xi N vs) H s1:=Uk S hr.hd e0 hl r x
 refine wpAny_mono (ht [] s1 (Xi N vs) H _ I hq) (fun fl s' hs=>?_) fun e s' hs=>hs
 have fin:∀ {σ':St} {H':Hp} {v:V} {u:Value},Inv (Wm CX P w K mg base N qual scope f cdv A outer s H E) [] σ' H' s'→Yr v u→Q v H'→CE outer P w H s Q u s' :=
  fun {σ' H' v u} J rv q=>⟨v,H',J.os,J.bare,J.base,J.hok,rv,q⟩
 cases fl with
 | ret u =>
  obtain ⟨v,σ',H',J,rv,q⟩:=hs
  exact fin J rv q
 | next =>
  obtain ⟨σ',H',J,q⟩:=hs
  exact fin (v:=V.non) (u:=Value.none) J rfl q
 | brk =>
  obtain ⟨_,_,_,q⟩:=hs
  exact False.elim q
 | cont =>
  obtain ⟨_,_,_,q⟩:=hs
  exact False.elim q
end L2
namespace L2
open PySem PySem.Spec PyProof.Rows
section
variable {X:Cx} {x:Str} {p pos:Pos} {e:Expr} {es:List Expr} {t:TA} {id T:String} {r:List V→Hp→VK→Prop}
def tCB (r:List V→Hp→VK→Prop) (t:TA):TE:=fun σ H Q=>t σ H fun vs H1=>r vs H1 Q
theorem Ycc (hc:Xu X (.builtin id) r) (hg:Gl X x) (hm:X.mg x=none) (hv:bootBuiltins x=some (.builtin id)) (ha:PA X (e::es) t) (hn:x≠"__name__":=by decide) (hdb:(x==("__debug__":Str))=false:=by decide)
  (he:starEach (e::es) X.env=(false,eval e X.env)::starEach es X.env:=by rfl) (hpl:(backTo pos (starEach es X.env)).any (·.1)=false:=by rfl):PE X (.Call (.Name x p) (e::es) [] pos) (tCB r t):=by
 intro pins s σ H Q I h
 refine wpAny_Call_Name_kw (XA I hg hm hv ?_ hn hdb)
 exact PyProof.Rows.callWith_builtin1 (thn (ha pos pins s σ H _ I h) fun us s1 ⟨vs,H1,I1,r1,q1⟩=>hc pins s1 σ H1 vs us Q I1 r1 q1) he hpl
theorem Ybo (hc:Xu X (.type T) r) (hg:Gl X x) (hm:X.mg x=none) (hv:bootBuiltins x=some (.type T)) (ha:PA X (e::es) t) (hn:x≠"__name__":=by decide) (hdb:(x==("__debug__":Str))=false:=by decide)
  (he:starEach (e::es) X.env=(false,eval e X.env)::starEach es X.env:=by rfl) (hpl:(backTo pos (starEach es X.env)).any (·.1)=false:=by rfl):PE X (.Call (.Name x p) (e::es) [] pos) (tCB r t):=by
 intro pins s σ H Q I h
 refine wpAny_Call_Name_kw (XA I hg hm hv ?_ hn hdb)
 exact PyProof.Rows.callWith_type1 (thn (ha pos pins s σ H _ I h) fun us s1 ⟨vs,H1,I1,r1,q1⟩=>hc pins s1 σ H1 vs us Q I1 r1 q1) he hpl
end
end L2
namespace HT
open PySem PyProof.Rows
theorem rcLt_int (A:Around) (s:Shared) (a:Int) (t:Tok) (c:Int) (u:Tok) (prog:Program) (w:World) (E:Value→Shared→Prop) (Q:Value→Shared→Prop) (h:Q (.bool (decide (a<c))) s) :
  wpAny (model prog w) A (richCompare .Lt (.int a t) (.int c u)) Q E s :=
 (PyProof.Rows.lt_int h:wpAny (model prog w) A (compareOp .Lt (.int a t) (.int c u)) Q E s)
section
open PySem.SeqAt
open PySem.AutoSeq1 (wpAny_loadPart')
open PySem.MeetsSeq PySem.MeetsSeq2 PySem.MeetsSeq3
end
section
variable {prog:Program} {w:World} {A:Around} {E:Value→Shared→Prop} {s:Shared}
def sIx (n d:Nat):Option Int→Nat
 | none=>d
 | some v=>if v<0 then (v+(n:Int)).toNat else min v.toNat n
theorem sIx_none (n d:Nat):sIx n d none=d:=rfl
theorem sIx_nat (n d k:Nat):sIx n d (some (k:Int))=min k n:=by
 show (if (k:Int)<0 then ((k:Int)+(n:Int)).toNat else min (k:Int).toNat n)=min k n
 rw [if_neg (by omega),Int.toNat_natCast]
theorem sIx_le (n d:Nat) (hd:d≤n) (o:Option Int):sIx n d o≤n:=by
 cases o with
 | none=>exact hd
 | some v =>
  show (if v<0 then (v+(n:Int)).toNat else min v.toNat n)≤n
  by_cases hv:v<0
  ·rw [if_pos hv];omega
  ·rw [if_neg hv];exact Nat.min_le_right _ _
end
end HT
namespace L2
open PySem PySem.Spec PyProof.Rows
abbrev TO:=St→Hp→(Option Int→Hp→Prop)→Prop
def PO (X:Cx) (e:Option Expr) (t:TO):Prop :=
 ∀ (pins:List (Addr×Obj)) (s:Shared) (σ:St) (H:Hp) (Q:Option Int→Hp→Prop),Inv X pins σ H s→t σ H Q →
  wpAny (model X.prog X.w) X.A (evalPart e X.env) (fun u s'=>∃ o H',Inv X pins σ H' s'∧IsPart u o∧Q o H') X.xe s
def Yag:TO:=fun _ H Q=>Q none H
def YcW (t:TE):TO:=fun σ H Q=>t σ H fun x H1=>∃ i,x = .int i∧Q (some i) H1
theorem YaJ {ns:List Int}:∀ {us:List Value},Yn (ns.map V.int) us→IntsAre us ns:=by
 induction ns with
 | nil=>intro us r;rw [List.map_nil] at r;cases r;exact .nil
 | cons n ns ih =>
  intro us r
  rw [List.map_cons] at r
  cases r with
  | cons r1 r2 =>
   obtain ⟨t,e⟩:=r1
   subst e
   exact .cons n t (ih r2)
section
variable {X:Cx} {e:Expr} {te:TE} {lo hi:Option Expr} {tl th:TO} {pos p2:Pos}
theorem Xo:PO X none Yag:=by
 intro pins s σ H Q I h
 rw [evalPart_none]
 exact wpAny_pure ⟨none,H,I,.none,h⟩
theorem YX (h:PE X e te):PO X (some e) (YcW te):=by
 intro pins s σ H Q I hw
 rw [evalPart_some]
 refine thn (h pins s σ H _ I hw) fun u s1 ⟨x,H1,I1,r1,q1⟩=>?_
 obtain ⟨i,rfl,q⟩:=q1
 obtain ⟨t,rfl⟩:=r1
 exact ⟨some i,H1,I1,.int i t,q⟩
def SlR (X:Cx) (r:V→Option Int→Option Int→Hp→VK→Prop):Prop :=
 ∀ (pins:List (Addr×Obj)) (s:Shared) (σ:St) (H:Hp) (x:V) (v vl vu:Value) (lo hi:Option Int) (sl:Addr) (Q:VK),Inv X pins σ H s→Yr x v→s.heap.IsSliceOf sl vl vu .none→IsPart vl lo→IsPart vu hi→r x lo hi H Q →
  ∃ T id,typeLookup (.type T) "__getitem__"=pure (some (.builtin id))∧s.TypeIs v T∧wpAny (model X.prog X.w) X.A (getItem v (.ref sl)) (EP X pins σ Q) X.xe s
def tSl (r:V→Option Int→Option Int→Hp→VK→Prop) (te:TE) (tl th:TO):TE:=fun σ H Q=>te σ H fun x H1=>tl σ H1 fun l H2=>th σ H2 fun u H3=>r x l u H3 Q
theorem Y3 {r:V→Option Int→Option Int→Hp→VK→Prop} (hr:SlR X r) (he:PE X e te) (hl:PO X lo tl) (hu:PO X hi th):PE X (.Subscript e (.Slice lo hi none p2) pos) (tSl r te tl th):=by
 intro pins s σ H Q I h
 refine Subscript_ (thn (he pins s σ H _ I h) fun v s1 ⟨x,H1,I1,r1,q1⟩=>?_)
 refine wpAny_Slice (thn (hl pins s1 σ H1 _ I1 q1) fun vl s2 ⟨l,H2,I2,pl,q2⟩=>thn (hu pins s2 σ H2 _ I2 q2) fun vu s3 ⟨u,H3,I3,pu,q3⟩=>?_)
 rw [evalPart_none]
 refine wpAny_pure ?_
 have I4:Inv X pins σ H3 { s3 with heap:=s3.heap.push { cls := .type "slice",data := .fields #[vl,vu,.none] } }:=I3.kept (t':=s3.toks) fun b ob q=>Heap.get?_push_of_some _ q
 obtain ⟨T,id,hT,ht,hg⟩:=hr pins { s3 with heap:=s3.heap.push { cls := .type "slice",data := .fields #[vl,vu,.none] } } σ H3 x v vl vu l u s3.heap.objs.size Q I4 r1 (Heap.IsSliceOf.new ..) pl pu q3
 show wpAny (model X.prog X.w) X.A (subscriptTail e (.Slice lo hi none p2) v (.ref s3.heap.objs.size)) (EP X pins σ Q) X.xe { s3 with heap:=s3.heap.push { cls := .type "slice",data := .fields #[vl,vu,.none] } }
 exact tail_any (ops:=[.ref s3.heap.objs.size,v]) ht hT hg (by with_unfolding_all rfl)
def YB (xs:List V) (lo hi:Option Int):List V:=(xs.drop (HT.sIx xs.length 0 lo)).take (HT.sIx xs.length xs.length hi - HT.sIx xs.length 0 lo)
theorem Xe (xs:List V) (lo hi:Option Int):(YB xs lo hi).length≤xs.length:=by
 unfold YB
 rw [List.length_take,List.length_drop]
 omega
end
end L2
namespace L2
open PySem PySem.Spec PyProof.Rows
def ixN (n:Nat) (i:Int):Option Nat:=if 0≤i then (if i<n then some i.toNat else none) else if -(n:Int)≤i then some (i+n).toNat else none
def atI {α:Type} (xs:List α) (i:Int):Option α:=(ixN xs.length i).bind fun j=>xs[j]?
theorem Ydh {n:Nat} {i:Int} {j:Nat} (h:ixN n i=some j):seqIndex? i n=some j∧j<n ∧ -(n:Int)≤i∧i<n:=by
 unfold ixN at h
 by_cases h0:0≤i
 ·rw [if_pos h0] at h
  by_cases h1:i<n
  ·rw [if_pos h1] at h
   have e:i.toNat=j:=Option.some.inj h
   exact ⟨by rw [seqIndex_of h0 h1,e],by omega,by omega,h1⟩
  ·rw [if_neg h1] at h;cases h
 ·rw [if_neg h0] at h
  by_cases h1 : -(n:Int)≤i
  ·rw [if_pos h1] at h
   have e:(i+n).toNat=j:=Option.some.inj h
   exact ⟨by rw [seqIndex_neg (by omega) h1,e],by omega,h1,by omega⟩
  ·rw [if_neg h1] at h;cases h
theorem VP {α:Type} {xs:List α} {i:Int} {v:α} (h:atI xs i=some v):∃ j,seqIndex? i xs.length=some j∧xs[j]?=some v∧j<xs.length ∧ -(xs.length:Int)≤i∧i<xs.length:=by
 unfold atI at h
 cases e:ixN xs.length i with
 | none=>rw [e] at h;cases h
 | some j =>
  rw [e] at h
  obtain ⟨h1,h2,h3,h4⟩:=Ydh e
  exact ⟨j,h1,h,h2,h3,h4⟩
theorem XS {α:Type} {xs:List α} {j:Nat} {v:α} (h:xs[j]?=some v):atI xs (j:Int)=some v:=by
 have hj:j<xs.length:=(List.getElem?_eq_some_iff.mp h).1
 have e:ixN xs.length (j:Int)=some j:=by
  unfold ixN
  rw [if_pos (by omega),if_pos (by omega)];simp
 unfold atI;rw [e];exact h
def Ydi (b:Expr):Prop:=∀ o i,subscripted b false o i=operate [o,i] (getItem o i)
def IxR (X:Cx) (r:R2):Prop :=
 ∀ (value slice:Expr) (pins:List (Addr×Obj)) (s:Shared) (σ:St) (H:Hp) (x y:V) (v u:Value) (Q:VK),Inv X pins σ H s→Yr x v→Yr y u→r x y H Q →
  subscripted slice false v u=operate [v,u] (getItem v u)→wpAny (model X.prog X.w) X.A (subscriptTail value slice v u) (EP X pins σ Q) X.xe s
def MtR (X:Cx) (id:String) (r:V→List V→Hp→VK→Prop):Prop :=
 ∀ (pins:List (Addr×Obj)) (s:Shared) (σ:St) (H:Hp) (x:V) (xs:List V) (v:Value) (us:List Value) (Q:VK),Inv X pins σ H s→Yr x v→Yn xs us→r x xs H Q →
  wpAny (model X.prog X.w) X.A (call (.builtin id) (v::us)) (EP X pins σ Q) X.xe s
section
variable {X:Cx} {a b:Expr} {ta tb:TE} {pos:Pos}
theorem Yj {r:R2} (hr:IxR X r) (ha:PE X a ta) (hb:PE X b tb) (hs:Ydi b):PE X (.Subscript a b pos) (tOp r ta tb):=by
 intro pins s σ H Q I h
 exact Subscript_ (binT ha hb I h fun v u s2 x y H2 I2 rx ry q=>hr a b pins s2 σ H2 x y v u Q I2 rx ry q (hs _ _))
def rIxL (K:PySem.W.Frag):R2:=fun x y H Q=>∃ p xs i v,x = .ref p∧y = .int i∧SqL K H p xs∧atI xs i=some v∧Q v H
def rIxT (K:PySem.W.Frag):R2:=fun x y H Q=>∃ p xs i v,x = .ref p∧y = .int i∧SqT K H p xs∧atI xs i=some v∧Q v H
def rIxS:R2:=fun x y H Q=>∃ z i c,x = .str z∧y = .int i∧z.length≤sizeLine∧atI z.cps.toList i=some c∧Q (.str ⟨#[c]⟩) H
theorem YY:IxR X (rIxL X.K):=by
 intro value slice pins s σ H x y v u Q I rx ry h hs
 obtain ⟨p,xs,i,z,rfl,rfl,hq,he,q⟩:=h
 cases rx
 obtain ⟨t,rfl⟩:=ry
 obtain ⟨its,r,pl,hz⟩:=I.list hq
 obtain ⟨j,h1,h2,h3,h4,h5⟩:=VP he
 obtain ⟨w,ew,rw'⟩:=r.get h2
 have hl:=r.length
 have hn:=WY
 have fin:EP X pins σ Q w s:=⟨z,H,I,rw',q⟩
 by_cases h0:0≤i
 ·have hj:i.toNat=j:=by
   rw [seqIndex_of h0 h5] at h1
   exact Option.some.inj h1
  exact item_listR pl.isList h0 (by omega) (by rw [hj];simpa using ew) fin hs
 ·have hj:(i+(its.toArray.size:Int)).toNat=j:=by
   rw [seqIndex_neg (by omega) h4] at h1
   rw [List.size_toArray,← hl]
   exact Option.some.inj h1
  exact subscriptTail_builtinR (x:=w) pl.isList.typeIs slot_list_getitem.lookup
   (wpAny_getItem_list_neg (Q:=fun r s'=>r=w∧EP X pins σ Q r s') pl.isList (by omega) (by rw [List.size_toArray]<;>omega) (by omega) (by rw [hj];simpa using ew) ⟨rfl,fin⟩) hs
theorem Yl:IxR X (rIxT X.K):=by
 intro value slice pins s σ H x y v u Q I rx ry h hs
 obtain ⟨p,xs,i,z,rfl,rfl,hq,he,q⟩:=h
 cases rx
 obtain ⟨t,rfl⟩:=ry
 obtain ⟨its,r,pl,hz⟩:=I.tuple hq
 obtain ⟨j,h1,h2,h3,h4,h5⟩:=VP he
 obtain ⟨w,ew,rw'⟩:=r.get h2
 have hl:=r.length
 have hn:=WY
 have fin:EP X pins σ Q w s:=⟨z,H,I,rw',q⟩
 exact subscriptTail_builtinR (x:=w) pl.typeIs slot_tuple_getitem.lookup
  (getItem_tuple (j:=j) (Q:=fun r s'=>r=w∧EP X pins σ Q r s') pl (by omega) (by omega) (by rw [List.size_toArray,← hl];exact h1) (by simpa using ew) ⟨rfl,fin⟩) hs
theorem YdX:IxR X rIxS:=by
 intro value slice pins s σ H x y v u Q I rx ry h hs
 obtain ⟨z,i,c,rfl,rfl,hz,he,q⟩:=h
 obtain ⟨t,rfl⟩:=rx
 obtain ⟨t',rfl⟩:=ry
 obtain ⟨j,h1,h2,h3,h4,h5⟩:=VP he
 have hl:z.cps.toList.length=z.length:=by simp [Str.length]
 rw [hl] at h1 h4 h5
 have hn:=WY
 exact tail_any (typeIs_str s z t) slot_str_getitem.lookup (getItem_str (c:=c) (by
  have e1:decide (i < -(2^63:Int))=false:=decide_eq_false (by omega)
  have e2:decide (i≥2^63)=false:=decide_eq_false (by omega)
  rw [e1,e2,Bool.or_false]) (by rw [h1];simpa using h2) ⟨.str ⟨#[c]⟩,H,I.tok _,⟨_,rfl⟩,q⟩) hs
theorem Inv.lst {pins:List (Addr×Obj)} {σ:St} {H:Hp} {s:Shared} {p:Addr} {xs:List V} (I:Inv X pins σ H s) (h:H p=some (.lst xs)) :
  ∃ (its:List Value) (n:Nat),Yn xs its∧s.heap.get? p=some { cls := .type "list",data := .seq its.toArray n }∧xs.length≤sizeLine:=by
 obtain ⟨z,its,n,r,e⟩:=I.hok p _ h
 exact ⟨its,n,r,e,z⟩
def rSetL:V→V→V→Hp→(Hp→Prop)→Prop:=fun o i v H Q=>∃ p xs k j,o = .ref p∧i = .int k∧H p=some (.lst xs)∧ixN xs.length k=some j∧Q (upd H p (.lst (xs.set j v)))
theorem U7 (lo hi:Option Int) (n:Nat):(sliceBounds lo hi none n).1=((HT.sIx n 0 lo:Nat):Int)∧(sliceBounds lo hi none n).2.1=((HT.sIx n n hi:Nat):Int)∧(sliceBounds lo hi none n).2.2=1:=by
 refine ⟨?_,?_,rfl⟩
 ·cases lo with
  | none=>simp [sliceBounds,HT.sIx]
  | some i =>
   simp only [sliceBounds,HT.sIx,Option.getD_none,show (1:Int)>0 by decide,if_true]
   by_cases h:i<0
   ·simp only [h,if_true]<;>omega
   ·simp only [h,if_false]<;>omega
 ·cases hi with
  | none=>simp [sliceBounds,HT.sIx]
  | some i =>
   simp only [sliceBounds,HT.sIx,Option.getD_none,show (1:Int)>0 by decide,if_true]
   by_cases h:i<0
   ·simp only [h,if_true]<;>omega
   ·simp only [h,if_false]<;>omega
theorem UJ (its:List Value) (lo hi:Option Int):slicePick its.toArray lo hi none=((its.drop (HT.sIx its.length 0 lo)).take (HT.sIx its.length its.length hi - HT.sIx its.length 0 lo)).toArray:=by
 obtain ⟨h1,h2,h3⟩:=U7 lo hi its.toArray.size
 unfold slicePick
 rw [h1,h2,h3]
 simp only [sliceRange_one,pick_run,List.size_toArray]<;>rfl
def rSlL (K:PySem.W.Frag):V→Option Int→Option Int→Hp→VK→Prop:=fun x lo hi H Q=>∃ a xs,x = .ref a∧SqL K H a xs∧∀ p,H p=none→Q (.ref p) (upd H p (.lst (YB xs lo hi)))
theorem Y9:SlR X (rSlL X.K):=by
 intro pins s σ H x v vl vu lo hi sl Q I rx hs pl pu h
 obtain ⟨a,xs,rfl,hx,q⟩:=h
 cases rx
 obtain ⟨its,r,ht,hz⟩:=I.list hx
 have hlen:=r.length
 refine ⟨"list",_,slot_list_getitem.lookup,ht.isList.typeIs,?_⟩
 refine wpAny_getItem_list_slice ht.isList hs pl pu .none (by simp) ?_ (by rw [List.size_toArray]<;>omega)
 rw [UJ,← hlen]
 refine ⟨.ref s.heap.objs.size,_,I.laid (t':=s.toks) (o := .lst (YB xs lo hi)) (fun b ob q=>Heap.get?_push_of_some _ q) (Nat.le_refl _) ?_,rfl,q _ (I.hok.fresh (Nat.le_refl _))⟩
 exact ⟨Nat.le_trans (Xe xs lo hi) hz,_,0,(r.drop (HT.sIx xs.length 0 lo)).take (HT.sIx xs.length xs.length hi - HT.sIx xs.length 0 lo),Heap.get?_push_size _ rfl⟩
def Wt:V→Bool
 | .non=>true
 | .bl _=>true
 | .int _=>true
 | .str _=>true
 | _=>false
def eqV:V→V→Bool
 | .non,.non=>true
 | .bl a,.bl b=>a==b
 | .bl a,.int b=>(if a then 1 else 0)==b
 | .int a,.bl b=>a==(if b then 1 else 0)
 | .int a,.int b=>a==b
 | .str a,.str b=>a==b
 | _,_=>false
theorem YdY {A:Around} {s:Shared} {y x:V} {u v:Value} (ry:Yr y u) (rx:Yr x v) (fy:Wt y=true) (fx:Wt x=true):SeqAt.EqAt A s u v (eqV y x):=by
 cases y with
 | non =>
  cases ry
  cases x with
  | non=>cases rx;exact SeqAt.EqAt.same _
  | bl b=>cases rx;exact SeqAt.EqAt.none_bool b
  | int b=>obtain ⟨t,rfl⟩:=rx;exact SeqAt.EqAt.none_int b t
  | str b=>obtain ⟨t,rfl⟩:=rx;exact SeqAt.EqAt.none_str b t
  | _=>exact absurd (show false=true from fx) Bool.false_ne_true
 | bl a =>
  cases ry
  cases x with
  | non=>cases rx;exact SeqAt.EqAt.bool_none a
  | bl b=>cases rx;exact SeqAt.EqAt.bool_bool a b
  | int b=>obtain ⟨t,rfl⟩:=rx;exact SeqAt.EqAt.bool_int a b t
  | str b=>obtain ⟨t,rfl⟩:=rx;exact SeqAt.EqAt.bool_str a b t
  | _=>exact absurd (show false=true from fx) Bool.false_ne_true
 | int a =>
  obtain ⟨t',rfl⟩:=ry
  cases x with
  | non=>cases rx;exact SeqAt.EqAt.int_none a t'
  | bl b=>cases rx;exact SeqAt.EqAt.int_bool a t' b
  | int b=>obtain ⟨t,rfl⟩:=rx;exact SeqAt.EqAt.int_int a t' b t
  | str b=>obtain ⟨t,rfl⟩:=rx;exact SeqAt.EqAt.int_str a t' b t
  | _=>exact absurd (show false=true from fx) Bool.false_ne_true
 | str a =>
  obtain ⟨t',rfl⟩:=ry
  cases x with
  | non=>cases rx;exact SeqAt.EqAt.str_none a t'
  | bl b=>cases rx;exact SeqAt.EqAt.str_bool a t' b
  | int b=>obtain ⟨t,rfl⟩:=rx;exact SeqAt.EqAt.str_int a t' b t
  | str b=>obtain ⟨t,rfl⟩:=rx;exact SeqAt.EqAt.str_str a t' b t
  | _=>exact absurd (show false=true from fx) Bool.false_ne_true
 | _=>exact absurd (show false=true from fy) Bool.false_ne_true
def eqU (x:V) (u:Value):Bool:=match u with
 | .none=>eqV .non x
 | .bool b=>eqV (.bl b) x
 | .int i _=>eqV (.int i) x
 | .str z _=>eqV (.str z) x
 | _=>false
theorem Ybp {x y:V} {u:Value} (r:Yr y u) (f:Wt y=true):eqU x u=eqV y x:=by
 cases y with
 | non=>cases r;rfl
 | bl b=>cases r;rfl
 | int i=>obtain ⟨t,rfl⟩:=r;rfl
 | str z=>obtain ⟨t,rfl⟩:=r;rfl
 | _=>exact absurd (show false=true from f) Bool.false_ne_true
theorem VQ {x:V}:∀ {xs:List V} {us:List Value},Yn xs us→xs.all Wt=true→us.any (eqU x)=xs.any fun y=>eqV y x
 | _,_,.nil,_=>rfl
 | y::xs,u::us,.cons r t,f=>by
  rw [List.all_cons,Bool.and_eq_true] at f
  rw [List.any_cons,List.any_cons,Ybp r f.1,VQ t f.2]
theorem Vn {A:Around} {s:Shared} {x:V} {v:Value} (rx:Yr x v) (fx:Wt x=true):∀ {xs:List V} {us:List Value},Yn xs us→xs.all Wt=true→∀ u∈us,SeqAt.EqAt A s u v (eqU x u)
 | _,_,.nil,_=>fun u hu=>by cases hu
 | y::xs,u::us,.cons r t,f=>fun u' hu=>by
  rw [List.all_cons,Bool.and_eq_true] at f
  rcases List.mem_cons.mp hu with rfl | hu
  ·rw [Ybp r f.1];exact YdY r rx f.1 fx
  ·exact Vn rx fx t f.2 u' hu
def inV (x:V) (xs:List V):Bool:=xs.any fun y=>eqV y x
def rIn (K:PySem.W.Frag) (neg:Bool):R2:=fun x y H Q=>∃ p xs,y = .ref p∧(SqL K H p xs∨SqT K H p xs)∧Wt x=true∧xs.all Wt=true∧Q (.bl (if neg then !inV x xs else inV x xs)) H
theorem Ul:OpR X (compareOp .In) (rIn X.K false):=by
 intro pins s σ H x y v u Q I rx ry h
 obtain ⟨p,xs,rfl,hq,fx,fs,q⟩:=h
 cases ry
 rcases hq with hq | hq
 ·obtain ⟨its,r,pl,hz⟩:=I.list hq
  refine SeqAt.in_listAt (eqU x) pl.isList (fun w hw=>Vn rx fx r fs w (by simpa using hw)) ⟨.bl _,H,I,rfl,?_⟩
  rw [show its.toArray.any (eqU x)=its.any (eqU x) by simp,VQ r fs]
  exact q
 ·obtain ⟨its,r,pl,hz⟩:=I.tuple hq
  refine SeqAt.in_tupleAt (eqU x) pl (fun w hw=>Vn rx fx r fs w (by simpa using hw)) ⟨.bl _,H,I,rfl,?_⟩
  rw [show its.toArray.any (eqU x)=its.any (eqU x) by simp,VQ r fs]
  exact q
theorem YN:Xu X (.builtin "len") (fun xs H Q=>∃ p ys,xs=[.ref p]∧(SqL X.K H p ys∨SqT X.K H p ys)∧Q (.int ys.length) H):=by
 intro pins s σ H xs us Q I r h
 obtain ⟨p,ys,rfl,hq,q⟩:=h
 obtain ⟨u,rfl,rx⟩:=XF r
 cases rx
 have hn:=WY
 rcases hq with hq | hq
 ·obtain ⟨its,r',pl,hz⟩:=I.list hq
  have hlen:=r'.length
  exact Calls.call_len_list pl.isList (by simp only [List.size_toArray]<;>omega) ⟨.int ys.length,H,I.tok _,⟨s.toks+1,by rw [List.size_toArray,hlen]⟩,q⟩
 ·obtain ⟨its,r',pl,hz⟩:=I.tuple hq
  have hlen:=r'.length
  exact len_tuple pl (by simp only [List.size_toArray]<;>omega) ⟨.int ys.length,H,I.tok _,⟨s.toks+1,by rw [List.size_toArray,hlen]⟩,q⟩
theorem WZ:Xu X (.builtin "len") (fun xs H Q=>∃ z,xs=[.str z]∧z.length≤sizeLine∧Q (.int z.length) H):=by
 intro pins s σ H xs us Q I r h
 obtain ⟨z,rfl,hz,q⟩:=h
 obtain ⟨u,rfl,t,rfl⟩:=XF r
 have hn:=WY
 exact len_str (by omega) ⟨.int z.length,H,I.tok _,⟨_,rfl⟩,q⟩
theorem Xc:Xu X (.type "tuple") (fun xs H Q=>∃ p ys,xs=[.ref p]∧((SqL X.K H p ys∧∀ l,H l=none→Q (.ref l) (upd H l (.tup ys)))∨(SqT X.K H p ys∧Q (.ref p) H))):=by
 intro pins s σ H xs us Q I r h
 obtain ⟨p,ys,rfl,h⟩:=h
 obtain ⟨u,rfl,rx⟩:=XF r
 cases rx
 rcases h with ⟨hq,q⟩ | ⟨hq,q⟩
 ·obtain ⟨its,r',pl,hz⟩:=I.list hq
  have hlen:=r'.length
  refine call_tuple_list pl.isList (fun h' kp=>?_) (by simp only [List.size_toArray]<;>omega)
  have I1:Inv X pins σ H { s with heap:=h' }:=I.kept (t':=s.toks) kp
  have I2:Inv X pins σ (upd H h'.objs.size (.tup ys)) { s with heap:=h'.push { cls := .type "tuple",data := .seq its.toArray } } :=
   I1.laid (t':=s.toks) (fun b o e=>Heap.get?_push_of_some _ e) (Nat.le_refl _) (show YJ X.prog X.w _ _ _ (.tup ys) from ⟨hz,its,r',IsTup.new _ _⟩)
  exact ⟨.ref h'.objs.size,_,I2,rfl,q _ (I1.hok.fresh (Nat.le_refl _))⟩
 ·obtain ⟨its,r',pl,hz⟩:=I.tuple hq
  exact call_tuple_same pl ⟨.ref p,H,I,rfl,q⟩
def tyV (K:PySem.W.Frag) (T:String) (x:V) (H:Hp):Prop:=match x with
 | .str _=>T="str"
 | .int _=>T="int"
 | .ref p=>(T="list"∧∃ xs,SqL K H p xs)∨(T="tuple"∧∃ o,K.lookup p=some o∧o.cls = .type "tuple"∧o.dict=none) ∨
   (T="dict"∧((∃ kvs,H p=some (.dK kvs))∨∃ kvs,H p=some (.dT kvs)))∨(T="set"∧∃ S n,H p=some (.set S n))
 | _=>False
theorem Ybq {pins:List (Addr×Obj)} {σ:St} {H:Hp} {s:Shared} {T:String} {x:V} {v:Value} (I:Inv X pins σ H s) (r:Yr x v) (ty:tyV X.K T x H) :
  s.TypeIs v T∧∀ a,v = .ref a→∃ ob,s.heap.get? a=some ob∧ob.dict=none:=by
 cases x with
 | str z =>
  obtain ⟨t,rfl⟩:=r
  cases (show T="str" from ty)
  exact ⟨typeIs_str s z t,fun _ e=>nomatch e⟩
 | int i =>
  obtain ⟨t,rfl⟩:=r
  cases (show T="int" from ty)
  exact ⟨typeIs_int s i t,fun _ e=>nomatch e⟩
 | ref p =>
  cases r
  rcases ty with ⟨rfl,xs,hq⟩ | ⟨rfl,o,hk,hc,hd⟩ | ⟨rfl,hk⟩ | ⟨rfl,S,n,hk⟩
  ·obtain ⟨its,_,pl,_⟩:=I.list hq
   refine ⟨pl.isList.typeIs,fun a e=>?_⟩
   cases e
   obtain ⟨o,n,e,c,hd,_⟩:=pl
   exact ⟨o,e,hd⟩
  ·refine ⟨⟨o,I.kIn p o hk,hc⟩,fun a e=>?_⟩
   cases e
   exact ⟨o,I.kIn _ o hk,hd⟩
  ·have z:∃ o,s.heap.get? p=some o∧o.ExactDict:=by
    rcases hk with ⟨kvs,hk⟩ | ⟨kvs,hk⟩
    ·obtain ⟨_,_,_,_,o,_,_,e,ex,_⟩:=I.hok p _ hk
     exact ⟨o,e,ex⟩
    ·obtain ⟨_,_,_,_,o,_,_,e,ex,_⟩:=I.hok p _ hk
     exact ⟨o,e,ex⟩
   obtain ⟨o,e,ex⟩:=z
   refine ⟨⟨o,e,ex.1⟩,fun a e2=>?_⟩
   cases e2
   exact ⟨o,e,ex.2.1⟩
  ·obtain ⟨o,_,_,_,e,ex,_⟩:=I.hok p _ hk
   refine ⟨⟨o,e,ex.1⟩,fun a e2=>?_⟩
   cases e2
   exact ⟨o,e,ex.2.1⟩
 | _=>exact False.elim ty
def tBM0 (K:PySem.W.Frag) (T:String) (r:V→List V→Hp→VK→Prop) (to:TE):TE:=fun σ H Q=>to σ H fun x H1=>tyV K T x H1∧r x [] H1 Q
def tBM (K:PySem.W.Frag) (T:String) (r:V→List V→Hp→VK→Prop) (to:TE) (t:TA):TE:=fun σ H Q=>to σ H fun x H1=>tyV K T x H1∧t σ H1 fun xs H2=>r x xs H2 Q
variable {o e:Expr} {es:List Expr} {to:TE} {t:TA} {name:Str} {apos cpos:Pos} {T id:String} {r:V→List V→Hp→VK→Prop}
theorem Ybr (pa:PlainAttrs T) (slot:Slot T name id) (hty:typeOf (.builtin id)=pure (.type "method_descriptor")) (hm:MtR X id r) (ho:PE X o to)
  (hbase:attributeBase o name X.env (eval o X.env)=eval o X.env) (hline:(apos.endLine==cpos.line)=true):PE X (.Call (.Attribute o name apos) [] [] cpos) (tBM0 X.K T r to):=by
 intro pins s σ H Q I h
 refine wpAny_Call_method0_late hbase hline (thn (ho pins s σ H _ I h) fun v s1 ⟨x,H1,I1,r1,ty,q1⟩=>?_)
 obtain ⟨h1,h2⟩:=Ybq I1 r1 ty
 exact ⟨T,id,pa,slot,hty,h1,h2,Calls.callWith_builtin rfl (PySem.evalArgs_none (hm pins s1 σ H1 x [] v [] Q I1 r1 .nil q1))⟩
theorem XH (pa:PlainAttrs T) (slot:Slot T name id) (hty:typeOf (.builtin id)=pure (.type "method_descriptor")) (hm:MtR X id r) (ho:PE X o to) (ha:PA X (e::es) t)
  (hbase:attributeBase o name X.env (eval o X.env)=eval o X.env:=by rfl)
  (hfew:((backTo cpos (starEach (e::es) X.env)).all (fun x => !x.1)&&(backToKw cpos (keywordEach [] X.env)).all (fun x=>x.1.isSome)
   && decide ((e::es).length+([]:List Keyword).length+(if ([]:List Keyword).isEmpty then 0 else 1)<30))=true:=by rfl)
  (hline:(apos.endLine==cpos.line)=true:=by rfl) (hs:starEach (e::es) X.env=(false,eval e X.env)::starEach es X.env:=by rfl) (hplain:(backTo cpos (starEach es X.env)).any (·.1)=false:=by rfl) :
  PE X (.Call (.Attribute o name apos) (e::es) [] cpos) (tBM X.K T r to t):=by
 intro pins s σ H Q I h
 refine wpAny_Call_method_late hbase hfew hline rfl (thn (ho pins s σ H _ I h) fun v s1 ⟨x,H1,I1,r1,ty,q1⟩=>?_)
 obtain ⟨h1,h2⟩:=Ybq I1 r1 ty
 refine ⟨T,id,pa,slot,hty,h1,h2,?_⟩
 have hA:=ha cpos pins s1 σ H1 _ I1 q1
 rw [hs] at hA ⊢
 refine Calls.callWith_builtin (by show (false||(backTo cpos (starEach es X.env)).any (·.1))=false;rw [hplain]<;>rfl) (Calls.evalArgs_plain ?_)
 exact thn hA fun us s2 ⟨vs,H2,I2,r2,q2⟩=>hm pins s2 σ H2 x vs v us Q I2 r1 r2 q2
/- xs.append(e),list.index on a module's tuple .. are MtR facts of 06m -/
end
end L2
namespace L2
open PySem PySem.Spec PyProof.Rows
def MtM (X:Cx) (id:String) (r:V→List V→Hp→VK→Prop):Prop :=
 ∀ (pins:List (Addr×Obj)) (s:Shared) (σ:St) (H:Hp) (x:V) (xs:List V) (v:Value) (us:List Value) (Q:VK),Inv X pins σ H s→Yr x v→Yn xs us→r x xs H Q →
  wpAny (model X.prog X.w) X.A (call (.builtin id) (v::us)) (EP X pins σ Q) X.xe s
theorem Yn.one:∀ {x:V} {us:List Value},Yn [x] us→∃ u,us=[u]∧Yr x u
 | _,_,.cons r .nil=>⟨_,rfl,r⟩
theorem Yn.two:∀ {x y:V} {us:List Value},Yn [x,y] us→∃ u v,us=[u,v]∧Yr x u∧Yr y v
 | _,_,_,.cons r (.cons q .nil)=>⟨_,_,rfl,r,q⟩
theorem Yn.zero:∀ {us:List Value},Yn [] us→us=[]
 | _,.nil=>rfl
theorem Yn.reverse {xs:List V} {us:List Value} (h:Yn xs us):Yn xs.reverse us.reverse:=by
 induction h with
 | nil=>exact .nil
 | cons r t ih=>rw [List.reverse_cons,List.reverse_cons];exact Yn.append ih (.cons r .nil)
section
variable {X:Cx} {pins:List (Addr×Obj)} {σ:St} {H:Hp} {s:Shared} {l b:Addr} {xs ys zs:List V}
theorem Inv.lset {its its':List Value} {n:Nat} {f:Array Value→Array Value} {t':Nat} (I:Inv X pins σ H s) (hH:H l=some (.lst xs))
  (e:s.heap.get? l=some { cls := .type "list",data := .seq its.toArray n }) (hf:f its.toArray=its'.toArray) (hv:Yn ys its') (hz:ys.length≤sizeLine) :
  Inv X pins σ (upd H l (.lst ys)) { s with heap:=s.heap.update l (Obj.mapSeq f),toks:=t' }:=by
 have q:=PySem.IsL.update e f
 rw [hf] at q
 refine I.write (x:=l) (e:=l) (by rw [hH];exact trivial) (.inl rfl) (fun b' u hb hu=>(Heap.get?_update_other s.heap (Obj.mapSeq f) (Ne.symm hb)).trans hu) ⟨_,q⟩ ?_
 exact ⟨hz,its',_,hv,q⟩
theorem Inv.lnew {its:List Value} {t':Nat} (I:Inv X pins σ H s) (hv:Yn ys its) (hz:ys.length≤sizeLine) :
  Inv X pins σ (upd H s.heap.objs.size (.lst ys)) { s with heap:=s.heap.push { cls := .type "list",data := .seq its.toArray },toks:=t' } :=
 I.laid (fun _ _ q=>Heap.get?_push_of_some _ q) (Nat.le_refl _) ⟨hz,its,0,hv,Heap.get?_push_size _ rfl⟩
theorem Inv.fresh (I:Inv X pins σ H s):H s.heap.objs.size=none:=I.hok.fresh (Nat.le_refl _)
theorem Inv.lstM (I:Inv X pins σ H s) (hH:H l=some (.lst xs)):xs.length≤sizeLine∧∃ (its:List Value) (n:Nat),Yn xs its∧xs.length=its.length∧s.heap.get? l=some { cls := .type "list",data := .seq its.toArray n }:=by
 obtain ⟨z,its,n,r,e⟩:=I.hok l _ hH
 exact ⟨z,its,n,r,r.length,e⟩
theorem Ycd {n:Nat} (h:n≤sizeLine):Builtin.List.listTooLong n=false:=by
 unfold Builtin.List.listTooLong
 exact decide_eq_false (by omega)
end
section
variable {X:Cx}
def Yah:V→List V→Hp→VK→Prop:=fun x vs H Q=>∃ l xs y,x = .ref l∧vs=[y]∧H l=some (.lst xs)∧xs.length<sizeLine∧Q .non (upd H l (.lst (xs++[y])))
theorem Y7:MtM X "list.append" Yah:=by
 intro pins s σ H x vs v us Q I rx rv h
 obtain ⟨l,xs,y,rfl,rfl,hH,hz,q⟩:=h
 cases rx
 obtain ⟨u,rfl,ru⟩:=rv.one
 obtain ⟨z,its,n,r,hl,e⟩:=I.lstM hH
 refine call_meets F.slot_list_append ⟨_,e,rfl⟩ F.entry_list_append (F.args_list_append_2 _ _) (PySem.list_append l its.toArray n u (by rw [List.size_toArray];omega)) ⟨e,?_⟩
 refine ⟨.non,_,I.lset (its':=its++[u]) hH e (by simp) (r.append (.cons ru .nil)) ?_,rfl,q⟩
 rw [List.length_append,List.length_singleton]
 omega
def Ydj:V→List V→Hp→VK→Prop:=fun x vs H Q=>∃ l b xs zs,x = .ref l∧vs=[.ref b]∧H l=some (.lst xs)∧H b=some (.lst zs)∧xs.length+zs.length≤sizeLine∧Q .non (upd H l (.lst (xs++zs)))
theorem Um:MtM X "list.extend" Ydj:=by
 intro pins s σ H x vs v us Q I rx rv h
 obtain ⟨l,b,xs,zs,rfl,rfl,hH,hB,hz,q⟩:=h
 cases rx
 obtain ⟨u,rfl,ru⟩:=rv.one
 cases ru
 obtain ⟨z,its,n,r,hl,e⟩:=I.lstM hH
 obtain ⟨z2,its2,n2,r2,hl2,e2⟩:=I.lstM hB
 have hsz:its.toArray.size+its2.toArray.size≤sizeLine:=by rw [List.size_toArray,List.size_toArray];omega
 have hlong:¬ (!its.toArray.isEmpty&&Builtin.List.listTooLong (its.toArray.size+its2.toArray.size))=true:=by
  rw [Ycd hsz,Bool.and_false]
  exact Bool.false_ne_true
 refine call_meets F.slot_list_extend ⟨_,e,rfl⟩ F.entry_list_extend (F.args_list_extend_2 _ _)
  (AutoSeq1.list_extend_list_list_0 l its.toArray n b its2.toArray n2 hlong (by rw [List.size_toArray];omega) (by omega)) ⟨e,e2,?_⟩
 refine ⟨.non,_,I.lset (its':=its++its2) hH e (by simp) (r.append r2) ?_,rfl,q⟩
 rw [List.length_append]
 omega
def Yce:V→List V→Hp→VK→Prop:=fun x vs H Q=>∃ l xs,x = .ref l∧vs=[]∧H l=some (.lst xs)∧Q .non (upd H l (.lst xs.reverse))
def rCat:R2:=fun x y H Q=>∃ l b xs zs,x = .ref l∧y = .ref b∧H l=some (.lst xs)∧H b=some (.lst zs)∧xs.length+zs.length≤sizeLine∧∀ p,H p=none→Q (.ref p) (upd H p (.lst (xs++zs)))
theorem X8:OpR X (binaryOp .Add) rCat:=by
 intro pins s σ H x y v u Q I rx ry h
 obtain ⟨l,b,xs,zs,rfl,rfl,hH,hB,hz,q⟩:=h
 cases rx
 cases ry
 obtain ⟨z,its,n,r,hl,e⟩:=I.lstM hH
 obtain ⟨z2,its2,n2,r2,hl2,e2⟩:=I.lstM hB
 refine PySem.P.add_list e e2 ?_ (by rw [List.size_toArray,List.size_toArray];omega)
 have ea:its.toArray++its2.toArray=(its++its2).toArray:=by simp
 rw [ea]
 exact ⟨.ref _,_,I.lnew (t':=s.toks) (r.append r2) (by rw [List.length_append];omega),rfl,q _ I.fresh⟩
end
section
variable {prog:Program} {w:World} {A:Around} {E:Value→Shared→Prop} {s:Shared}
end
section
variable {X:Cx}
end
end L2
namespace Att
open PySem PySem.W PySem.Calls PyProof.Rows
theorem Vw {P:Params} {h:Heap}:∀ (ns:List Int) (vs:List Value),WellAll P h vs (ns.map WData.int)→IntsAre vs ns:=by
 intro ns
 induction ns with
 | nil =>
  intro vs w
  rw [List.map_nil] at w
  cases w
  exact .nil
 | cons n ns ih =>
  intro vs w
  rw [List.map_cons] at w
  cases w with
  | cons a b =>
   cases a
   exact .cons _ _ (ih _ b)
theorem Ybs {l:OpenLaw} {n:Nat} (hn:l.most=some n) {P:Params} {h:Heap} {args:List WData} {vals:List Value}
  (hpre:l.row.toRowW.claim.pre args=true) (hwl:WellAll P h vals args) :
  ∃ a vs ns,vals=[Value.ref a]∧args=[WData.list (ns.map WData.int)]∧h.get? a=some { cls := .type "list",data := .seq vs.toArray }∧IntsAre vs ns∧ns.length≤n:=by
 have hsh:WShape.hasAll [] args [.list .int]=true:=(pre_splitW hpre).1
 have hc:l.pre.holds [] { args:=args }=true:=(pre_splitW hpre).2
 obtain ⟨d,r,rfl,h1,h2⟩:=hasAllW_cons hsh
 obtain rfl:=hasAllW_nil h2
 obtain ⟨xs,rfl,h3⟩:=hasW_list h1
 obtain ⟨ns,rfl⟩:=items_int h3
 have hlen:ns.length≤n:=by
  unfold OpenLaw.pre at hc
  have h4:(WTm.not (.lt (.lit (.int (n:Int))) (.len (.arg 0)))).holds [] { args:=[.list (ns.map .int)] }=true:=by
   have h4:=(holds_andW hc).1
   rw [hn] at h4
   exact h4
  have h5:=condW_of h4 (w_not (w_lt w_lit (w_len_list (w_arg rfl))))
  rw [List.length_map] at h5
  refine Nat.le_of_not_lt fun q=>?_
  have q':(n:Int)<((ns.length:Nat):Int):=by omega
  first
   | (rw [decide_eq_true q'] at h5;exact absurd h5 (by decide))
   | (simp at h5;omega)
 cases hwl with
 | cons w1 w2 =>
  cases w2
  cases w1 with
  | list ho hall=>exact ⟨_,_,ns,rfl,rfl,ho,Vw ns _ hall,hlen⟩
theorem Ybt (l:OpenLaw) (args:List WData):l.row.toRowW.claim.post args (.bool true) args=true :=
 postW_of (r:=l.row.toRowW) (X:=(true==true))
  (show WShape.has [] (.bool true) .bool=true by first | rfl | decide | simp [WShape.has,WShape.arms,WShape.armsAll])
  (show (WTm.eq .res (.lit (.bool true))).value [] { args:=args,res:=some (.bool true),after:=args }=some (.bool (true==true)) from w_eq_bool (w_res rfl) w_lit) rfl
theorem attach_call {l:OpenLaw} {n:Nat} {q:Program} {loose:List Str} {XP:(Str→Option Value)→Heap→Prop} {YP:World→Heap→Prop} {d:DefRec}
  (hn:l.most=some n) (hdf:d.params.defaults=[])
  (call:∀ (w:World) (s₀ s₁:Shared) (mg mb:Str→Option Value) (fa:Addr) (o:Obj) (pm cd doc:Value) (a:Addr) (vs:List Value) (ns:List Int),
   Ground q loose [] XP w s₀ mg mb s₁.heap→YP w s₁.heap →
   s₁.heap.get? fa=some o→o.data = .func (docDef d.name d.params d.body d.scope pm cd doc)→s₁.heap.CodeRec cd d.name→mg d.name=some (.ref fa) →
   s₁.heap.get? a=some { cls := .type "list",data := .seq vs.toArray }→IntsAre vs ns→ns.length≤n→s₁.gens=#[] →
   codeAny (model l.prog w) callerA (.call (.ref fa) ⟨[.ref a],[]⟩) (fun r s'=>r = .ok (.ret (.bool true))∧OldK s₁.heap s'.heap∧s'.os=s₁.os∧AllBare s'.gens) s₁) :
  WalkO q loose XP YP l.row.toRowW d [] (fun f vs=>PySem.call f vs):=by
 intro w s₀ s₁ mg mb G Y fa o pm cd doc dV kV ho hd hcd hD hmg hg args vals as hpre hlay hrd hwl hlo
 obtain rfl:dV = .none:=Dflts.none hD hdf
 obtain rfl:kV = .none:=Dflts.noKw hD
 obtain ⟨a,vs,ns,rfl,rfl,hobj,hints,hlen⟩:=Ybs hn hpre hwl
 refine enter_call (codeAny_mono (call w s₀ s₁ mg mb fa o pm cd doc a vs ns G Y ho (fd_plain hd) hcd hmg hobj hints hlen hg) fun r s' hq=>?_)
 obtain ⟨rfl,h2,h3,h4⟩:=hq
 exact ⟨.inl ⟨.bool true,.bool true,[],rfl,fun _=>rfl,.bool true,Ybt l _,fun _=>⟨List.Pairwise.nil,fun _ hm=>(nomatch hm)⟩⟩,h2,h3,h4⟩
section
variable {prog:Program} {w:World} {A:Around} {E:Value→Shared→Prop} {s:Shared} {K:Frag}
def ledger (h:Heap) (L d:Addr):List (Addr×Obj):=(List.range h.objs.size).filterMap fun a=>if a=L∨a=d then none else (h.get? a).map fun o=>(a,o)
end
end Att
namespace L2
open PySem PySem.Spec PyProof.Rows
theorem Uo:∀ {vs:List Value} {ns:List Int},IntsAre vs ns→Yn (ns.map V.int) vs
 | _,_,.nil => .nil
 | _,_,.cons n t h => .cons ⟨t,rfl⟩ (Uo h)
end L2
namespace L2
open PySem PySem.Spec PyProof.Rows
end L2
namespace L2
open PySem PySem.Spec PyProof.Rows
def Xf (s:Stmt):Arguments:=match s with
 | .FunctionDef _ a _ _ _ _ _ _ _ _=>a
 | _=>{ posonlyargs:=[],args:=[],vararg:=none,kwonlyargs:=[],kw_defaults:=[],kwarg:=none,defaults:=[] }
def YZ (s:Stmt):List Stmt:=match s with
 | .FunctionDef _ _ b _ _ _ _ _ _ _=>b
 | _=>[]
def Yi (s:Stmt):Scope:=match s with
 | .FunctionDef _ _ _ _ _ _ sc _ _ _=>sc
 | _=>{ kind := .function,names:=[],isGenerator:=false,isCoroutine:=false }
abbrev CX0:CXT:=fun _ _ _ _ _ _=>False
abbrev E0:XK:=fun _ _ _=>False
theorem YcX {X:Cx}:U5 CX0 X E0:=fun _ _ _ _ _ _ _ h=>h.elim
structure Fun (K:PySem.W.Frag) (x qual:Str) (st:Stmt) (f:Addr) (fd:FuncData):Prop where
 ex:∃ (oc:Value) (od:Option Addr) (kV doc pm:Value) (an:Option Addr) (cdv ct:Value) (osl:Array (Option Value)),
  fd=PySem.W.fnOf x qual (Xf st) (YZ st) (Yi st) .none kV doc pm an cdv ct∧K.lookup f=some ⟨oc,od,.func fd,osl⟩∧PySem.W.codeIn K cdv qual=true
 kp:PySem.W.keepIn K (.ref f)=true
section
variable {P:Program} {w:World} {K:PySem.W.Frag} {mg:Str→Option Value} {base:Heap}
theorem Fun.ok {x qual:Str} {st:Stmt} {f:Addr} {fd:FuncData} {N ps:List Str} {k:Nat} {sp:Sp} (F:Fun K x qual st f fd) (S:FnScope N ps (Yi st)) (len:∀ vs H Q E,sp vs H Q E→vs.length=ps.length)
  (hbody:∀ (cdv:Value) (A:Around) (outer:List Env) (s:Shared) (H:Hp) (vs:List V) (Q:VK) (E:XK),Room k (A.deeper (envOfC qual (Yi st) s.heap.objs.size f cdv))→sp vs H Q E →
   ∃ t,PSs (Wm CX0 P w K mg base N qual (Yi st) f cdv A outer s H E).nox (YZ st) t∧t { nx:=fun _ H'=>Q .non H',rt:=Q } (Xi N vs) H):FnOk P w K mg base CX0 (k+1) f fd ps sp:=by
 obtain ⟨oc,od,kV,doc,pm,an,cdv,ct,osl,rfl,lk,hcd⟩:=F.ex
 refine fn_of lk hcd S len fun A outer s H vs Q E hr hsp=>?_
 obtain ⟨t,h,q⟩:=hbody cdv A outer s H vs Q E hr hsp
 exact ⟨t,h.nox,q⟩
theorem Fun.binds {x qual:Str} {st:Stmt} {f:Addr} {fd:FuncData} {ps:List Str} (F:Fun K x qual st f fd)
  (h:∀ (kV doc pm:Value) (an:Option Addr) (cdv ct:Value) (us:List Value),us.length=ps.length→bindArgs (PySem.W.fnOf x qual (Xf st) (YZ st) (Yi st) .none kV doc pm an cdv ct) ⟨us,[]⟩=pure (ps.zip us)):XG K fd ps []:=by
 obtain ⟨oc,od,kV,doc,pm,an,cdv,ct,osl,rfl,lk,hcd⟩:=F.ex
 exact .all (h kV doc pm an cdv ct)
theorem U8 {x qual:Str} {st:Stmt} {f:Addr} {oc:Value} {od an:Option Addr} {osl:Array (Option Value)} {kV doc pm cdv ct:Value} (l:K.lookup f=some ⟨oc,od,.func (PySem.W.fnOf x qual (Xf st) (YZ st) (Yi st) .none kV doc pm an cdv ct),osl⟩)
  (c:PySem.W.codeIn K cdv qual=true) (k:PySem.W.keepIn K (.ref f)=true):Fun K x qual st f (PySem.W.fnOf x qual (Xf st) (YZ st) (Yi st) .none kV doc pm an cdv ct):=⟨⟨oc,od,kV,doc,pm,an,cdv,ct,osl,rfl,l,c⟩,k⟩
end
section
variable {X:Cx}
theorem pv (i:Nat) {x:Str} {pos:Pos} (hN:X.N[i]?=some x:=by rfl) (hv:Vis X.env.scope x:=by first | exact .inl rfl | exact .inr (.inl rfl) | exact .inr (.inr rfl)) (hd:(x==("__debug__":Str))=false:=by decide)
  (hcd:(x==("__classdict__":Str))=false:=by decide):PE X (.Name x pos) (tVar i):=YdU hN hv hd hcd
end
theorem Ww {A B:Prop} (h:B):if false=true then A else B:=by
 rw [if_neg Bool.false_ne_true]
 exact h
theorem WG {A B:Prop} (h:A):if true=true then A else B:=by
 rw [if_pos rfl]
 exact h
theorem Wn {c A B:Prop} [Decidable c] (h1:c→A) (h2:¬ c→B):if c then A else B:=by
 by_cases h:c
 ·rw [if_pos h]
  exact h1 h
 ·rw [if_neg h]
  exact h2 h
def Yb (H H':Hp):Prop:=∀ b o,H b=some o→H' b=some o
theorem Yb.refl (H:Hp):Yb H H:=fun _ _ h=>h
theorem Yb.trans {H H1 H2:Hp} (a:Yb H H1) (b:Yb H1 H2):Yb H H2:=fun c o h=>b c o (a c o h)
theorem Yb.free {H H':Hp} (e:Yb H H') {l:Addr} (h:H' l=Option.none):H l=Option.none:=by
 cases q:H l with
 | none=>rfl
 | some o =>
  rw [e l o q] at h
  cases h
theorem Yb.seq {K:PySem.W.Frag} {H H':Hp} {a:Addr} {xs:List V} (e:Yb H H') (h:SqL K H a xs):SqL K H' a xs:=by
 rcases h with (h | ⟨o,h⟩) | h
 ·exact .inl (.inl (e _ _ h))
 ·exact .inl (.inr ⟨o,e _ _ h⟩)
 ·exact .inr h
end L2
namespace L2
open PySem PySem.Spec PyProof.Rows
section
variable {κ:Type} [DecidableEq κ]
theorem UX.getD {o:Option V} {u:Option Value} {d:V} {d':Value} (r:UX o u) (rd:Yr d d'):Yr (o.getD d) (u.getD d'):=by
 cases o with
 | none=>cases u with
  | none=>exact rd
  | some _=>exact (show False from r).elim
 | some _=>cases u with
  | none=>exact (show False from r).elim
  | some _=>exact r
theorem KV.any {kvs:List (κ×V)} {vs:List (κ×Value)} (r:KV kvs vs) (k:κ):(kvs.any fun kv=>decide (kv.1=k))=vs.any fun kv=>decide (kv.1=k):=by
 unfold KV at r
 induction r with
 | nil=>rfl
 | cons h t ih=>rw [List.any_cons,List.any_cons,ih,h.1]
theorem KV.keys {kvs:List (κ×V)} {vs:List (κ×Value)} (r:KV kvs vs):kvs.map (·.1)=vs.map (·.1):=by
 unfold KV at r
 induction r with
 | nil=>rfl
 | cons h t ih=>rw [List.map_cons,List.map_cons,ih,h.1]
theorem KV.length {kvs:List (κ×V)} {vs:List (κ×Value)} (r:KV kvs vs):kvs.length=vs.length:=Paired.length r
end
theorem YcY {P:Program} {w:World} {k:Key} {u:Value} (r:Yr (kV k) u):(Xm P w).is k u=true:=by
 cases k with
 | inl i=>obtain ⟨t,e⟩:=(show ∃ t,u=Value.int i t from r);subst e;exact QT P w i t
 | inr x=>obtain ⟨t,e⟩:=(show ∃ t,u=Value.str x t from r);subst e;exact QU P w x t
abbrev KT (H:Hp):List (List Key×V)→List (List Key×Addr×Value)→Prop:=Paired fun p q=>p.1=q.1∧H q.2.1=some (.tup (p.1.map kV))∧Yr p.2 q.2.2
theorem KT.keeps {H H':Hp} {kvs:List (List Key×V)} {xs:List (List Key×Addr×Value)} (r:KT H kvs xs) (ht:∀ b ys,H b=some (.tup ys)→H' b=some (.tup ys)):KT H' kvs xs :=
 Paired.mapP r fun _ _ z=>⟨z.1,ht _ _ z.2.1,z.2.2⟩
section
variable {P:Program} {w:World} {H:Hp} {h:Heap} {a:Addr}
end
section
variable {X:Cx} {pins:List (Addr×Obj)} {σ:St} {H:Hp} {s:Shared} {a:Addr} {y v:V} {u r:Value} {o:Option V} {A:Around} {E:Value→Shared→Prop}
end
section
variable {X:Cx} {pins:List (Addr×Obj)} {σ:St} {H:Hp} {s:Shared} {a:Addr} {kvs:List (Key×V)} {k:Key} {u:Value} {A:Around} {E:Value→Shared→Prop}
end
section
variable {X:Cx} {o i e value:Expr} {pos pos' tpos:Pos} {td ty tv:TE}
end
section
variable {X:Cx} {pos:Pos}
end
section
variable {X:Cx} {pins:List (Addr×Obj)} {σ:St} {H:Hp} {s:Shared} {a:Addr} {y d:V} {u r:Value} {o:Option V} {A:Around} {E:Value→Shared→Prop}
end
section
variable {X:Cx} {o e f:Expr} {apos cpos:Pos} {td ty tx:TE}
end
section
variable {X:Cx} {pins:List (Addr×Obj)} {σ:St} {H:Hp} {s:Shared} {a:Addr} {kvs:List (Key×V)} {A:Around} {E:Value→Shared→Prop}
end
section
variable {X:Cx} {pins:List (Addr×Obj)} {σ:St} {H:Hp} {s:Shared} {a:Addr} {y:V} {u:Value} {A:Around} {E:Value→Shared→Prop}
end
end L2
namespace L2
open PySem PySem.Spec PyProof.Rows
theorem Wo (env:Env):∀ (names:List (Str×NameKind)) (cs:List (Str×Addr)),(∀ x,(x,NameKind.free)∈names→∃ c,env.cells.lookup x=some c) →
  ∃ cl,(forIn names cs fun (p:Str×NameKind) (cs:List (Str×Addr))=>(if (p.2==NameKind.free)=true then (do let c ← cellOf env p.1;pure (ForInStep.yield ((p.1,c)::cs))) else pure (ForInStep.yield cs):Sem (ForInStep (List (Str×Addr)))))=pure cl ∧
   (∀ x c,cl.lookup x=some c→env.cells.lookup x=some c∨cs.lookup x=some c)∧(∀ x,(x,NameKind.free)∈names→∃ c,cl.lookup x=some c)∧(∀ x c,cs.lookup x=some c→∃ d,cl.lookup x=some d)
 | [],cs,_=>⟨cs,by simp,fun _ _ h => .inr h,(fun _ h=>nomatch h),fun x c h=>⟨c,h⟩⟩
 | (n,k)::r,cs,h=>by
  by_cases hk:k=NameKind.free
  ·subst hk
   obtain ⟨c,hc⟩:=h n (List.mem_cons_self ..)
   obtain ⟨cl,e,a,b,d⟩:=Wo env r ((n,c)::cs) (fun x hx=>h x (List.mem_cons_of_mem _ hx))
   have hcell:cellOf env n=pure c:=by unfold cellOf;rw [hc]
   refine ⟨cl,?_,fun x c' hx=>?_,fun x hx=>?_,fun x c' hx=>?_⟩
   ·rw [List.forIn_cons]
    simp only [beq_self_eq_true,if_true,hcell,pure_bind]
    exact e
   ·rcases a x c' hx with q | q
    ·exact .inl q
    ·rw [List.lookup_cons] at q
     by_cases hxn:(x==n)=true
     ·rw [hxn] at q
      have hx':x=n:=by simpa using hxn
      subst hx'
      have:c=c':=by simpa using q
      subst this
      exact .inl hc
     ·rw [Bool.eq_false_iff.mpr hxn] at q
      exact .inr q
   ·rcases List.mem_cons.mp hx with q | q
    ·have hx':x=n:=congrArg Prod.fst q
     subst hx'
     exact d x c (by rw [List.lookup_cons];simp)
    ·exact b x q
   ·have:∃ d',((n,c)::cs).lookup x=some d':=by
     rw [List.lookup_cons]
     by_cases hxn:(x==n)=true
     ·rw [hxn];exact ⟨c,rfl⟩
     ·rw [Bool.eq_false_iff.mpr hxn];exact ⟨c',hx⟩
    obtain ⟨d',hd'⟩:=this
    exact d x d' hd'
  ·obtain ⟨cl,e,a,b,d⟩:=Wo env r cs (fun x hx=>h x (List.mem_cons_of_mem _ hx))
   have hkf:(k==NameKind.free)=false:=by simpa using hk
   refine ⟨cl,?_,a,fun x hx=>?_,d⟩
   ·rw [List.forIn_cons]
    simp only [hkf,Bool.false_eq_true,if_false,pure_bind]
    exact e
   ·rcases List.mem_cons.mp hx with q | q
    ·exact absurd (congrArg Prod.snd q).symm hk
    ·exact b x q
theorem Vx (env:Env) (scope:Scope) (h:∀ x,(x,NameKind.free)∈scope.names→∃ c,env.cells.lookup x=some c) :
  ∃ cl,closureFor scope env=pure cl∧(∀ x c,cl.lookup x=some c→env.cells.lookup x=some c)∧(∀ x,(x,NameKind.free)∈scope.names→∃ c,cl.lookup x=some c):=by
 obtain ⟨cl,e,a,b,_⟩:=Wo env scope.names [] h
 refine ⟨cl,?_,fun x c hx=>(a x c hx).elim id (fun z=>by simp at z),b⟩
 unfold closureFor
 simp only [bind_pure]
 exact e
def cxC (X:Cx) (scope:Scope) (N':List Str) (cl:List (Str×Addr)) (C:Addr) (s₀:Shared) (H₀:Hp) (fp:List Addr) (pn:List (Addr×Obj)):Cx :=
 { X with N:=N',s₀:=s₀,H₀:=H₀,env:=compEnvC scope cl C X.env,outer:=X.stack,ex:=fp,fn:=fun _=>false,pn:=pn,xe:=fun _ _=>False }
inductive Cap (X:Cx) (scope:Scope):List (Option Nat)→List Str→Prop
 | nil:Cap X scope [] []
 | own {x src N'}:Cap X scope src N'→Cap X scope (none::src) (x::N')
 | cap {x i src N'}:X.N[i]?=some x→scope.names.lookup x=some NameKind.free→(X.env.scope.names.lookup x=some NameKind.cell∨X.env.scope.names.lookup x=some NameKind.free)→Cap X scope src N'→Cap X scope (some i::src) (x::N')
def Yw (src:List (Option Nat)) (σ:St):St:=src.map fun o=>match o with | none=>none | some i=>σ.getD i none
theorem Cap.length {X:Cx} {scope:Scope}:∀ {src:List (Option Nat)} {N':List Str},Cap X scope src N'→src.length=N'.length
 | _,_,.nil=>rfl
 | _,_,.own h=>congrArg (·+1) h.length
 | _,_,.cap _ _ _ h=>congrArg (·+1) h.length
theorem Cap.get {X:Cx} {scope:Scope} {σ:St}:∀ {src:List (Option Nat)} {N':List Str},Cap X scope src N'→∀ (j:Nat) (x:Str) (v:V),N'[j]?=some x→(Yw src σ)[j]?=some (some v) →
  ∃ i:Nat,X.N[i]?=some x∧σ[i]?=some (some v)∧scope.names.lookup x=some NameKind.free∧(X.env.scope.names.lookup x=some NameKind.cell∨X.env.scope.names.lookup x=some NameKind.free)
 | _,_,.nil,j,x,v,h,_=>by simp at h
 | _,_,.own h,0,x,v,_,e=>by simp [Yw] at e
 | _,_,.own h,j+1,x,v,e1,e2=>h.get j x v (by simpa using e1) (by simpa [Yw] using e2)
 | _,_,.cap (x:=y) (i:=i) hN hf hk h,0,x,v,e1,e2=>by
  have ex:y=x:=by simpa using e1
  subst ex
  refine ⟨i,hN,?_,hf,hk⟩
  simp only [Yw,List.map_cons,List.getElem?_cons_zero,Option.some.injEq] at e2
  rw [List.getD_eq_getElem?_getD] at e2
  cases q:σ[i]? with
  | none=>rw [q] at e2;simp at e2
  | some o=>rw [q] at e2;simp at e2;rw [e2]
 | _,_,.cap hN hf hk h,j+1,x,v,e1,e2=>h.get j x v (by simpa using e1) (by simpa [Yw] using e2)
theorem WA (env:Env) (x:Str):∀ {names:List (Str×NameKind)},
  (names.map fun (n,k)=>if (k==NameKind.free&&env.scope.kind == .function&&env.kindOf n==some .cell) then (n,NameKind.cell) else (n,k)).lookup x =
   (names.lookup x).map fun k=>if (k==NameKind.free&&env.scope.kind == .function&&env.kindOf x==some .cell) then NameKind.cell else k
 | []=>rfl
 | (n,k)::r=>by
  have ih:=@WA env x r
  rw [List.map_cons]
  dsimp only
  by_cases hx:(x==n)=true
  ·have e:x=n:=by simpa using hx
   subst e
   by_cases hc:(k==NameKind.free&&env.scope.kind == .function&&env.kindOf x==some .cell)=true
   ·rw [if_pos hc,List.lookup_cons,List.lookup_cons,hx]
    simp only [Option.map_some]
    rw [if_pos hc]
   ·rw [if_neg hc,List.lookup_cons,List.lookup_cons,hx]
    simp only [Option.map_some]
    rw [if_neg hc]
  ·have hx':=Bool.eq_false_iff.mpr hx
   by_cases hc:(k==NameKind.free&&env.scope.kind == .function&&env.kindOf n==some .cell)=true
   ·rw [if_pos hc];simp only [List.lookup_cons,hx'];exact ih
   ·rw [if_neg hc];simp only [List.lookup_cons,hx'];exact ih
theorem Wu {names:List (Str×NameKind)} {x:Str} (h:names.lookup x=some NameKind.free):(x,NameKind.free)∈names:=PySem.mem_of_lookup h
section
variable {X:Cx}
theorem U9 {scope:Scope} {N':List Str} {src:List (Option Nat)} {cl:List (Str×Addr)} {pins:List (Addr×Obj)} {σ:St} {H:Hp} {s s':Shared} {h':Heap} {tk:Nat} {fp:List Addr} {m:Str→Option Value}
  (hk:scope.kind = .function) (hcell:∀ y∈scope.names,y.2 ≠ .cell) (hcap:Cap X scope src N')
  (a:∀ x c,cl.lookup x=some c→X.env.cells.lookup x=some c) (b:∀ x,(x,NameKind.free)∈scope.names→∃ c,cl.lookup x=some c)
  (I:Inv X pins σ H s) (hf:∀ b∈fp,Xr X pins H b) (hfl:∀ b∈fp,b<s.heap.objs.size) (es':s'={ s with heap:=h',toks:=tk })
  (keep:∀ b o,s.heap.get? b=some o→h'.get? b=some o) (hn:h'.Ns s.heap.objs.size m) :
  Inv (cxC X scope N' cl s.heap.objs.size s H fp (X.pn++pins)) [] (Yw src σ) H s':=by
 subst es'
 have kindOf:∀ x,(compEnvC scope cl s.heap.objs.size X.env).kindOf x=(scope.names.lookup x).map fun k=>if (k==NameKind.free&&X.env.scope.kind == .function&&X.env.kindOf x==some .cell) then NameKind.cell else k:=fun x=>WA X.env x
 have freeOf:∀ x,((compEnvC scope cl s.heap.objs.size X.env).kindOf x=some .cell∨(compEnvC scope cl s.heap.objs.size X.env).kindOf x=some .free)→scope.names.lookup x=some .free:=fun x h=>by
  rw [kindOf] at h
  cases q:scope.names.lookup x with
  | none=>rw [q] at h;simp at h
  | some k =>
   rw [q] at h
   by_cases hkf:k=NameKind.free
   ·rw [hkf]
   ·have hkf':(k==NameKind.free)=false:=by simpa using hkf
    simp only [Option.map_some,hkf',Bool.false_and,Bool.false_eq_true,if_false] at h
    rcases h with h | h
    ·exact absurd (Option.some.inj h) (hcell _ (PySem.mem_of_lookup q))
    ·exact absurd (Option.some.inj h) hkf
 refine ⟨⟨I.ok.mod,hk,I.ok.glob,I.ok.blt,Nat.le_refl _,fun x y c h1 h2=>I.ok.inj x y c (a x c h1) (a y c h2),fun x hx=>b x (Wu (freeOf x hx)),(fun x c z _=>nomatch z),I.ok.hd,I.ok.frames,.inl rfl,fun b' hb=>?_,I.bs,Nat.le_trans I.ok.bsz I.sz,fun b' o e hb=>?_,fun b' hb z=>?_,I.stack,I.stkFree⟩,
  rfl,I.bare,Un.kept keep,⟨m,hn,fun j x v h1 h2 h3=>?_⟩,fun x c h=>?_,I.hok.fresh (Nat.le_refl _),fun x c h=>I.freeC x c (a x c h),fun p hp=>?_,I.hok.kept keep,?_⟩
 ·obtain ⟨f0,f1,f2,f3,f4,f5⟩:=hf b' hb
  exact ⟨Nat.ne_of_lt (hfl b' hb),fun x c h=>f4 x c (a x c h)⟩
 ·obtain ⟨f0,f1,f2,f3,f4,f5⟩:=hf b' hb
  rcases f3 with z | z
  ·exact I.ok.noex b' o e z
  ·exact absurd (Nat.lt_of_lt_of_le (Heap.lt_size e) (Nat.le_trans I.ok.bsz z)) (Nat.lt_irrefl _)
 ·obtain ⟨f0,f1,f2,f3,f4,f5⟩:=hf b' hb
  rcases List.mem_cons.mp (I.stkSub b' z) with e | e
  ·exact f1 e
  ·exact f2 e
 ·obtain ⟨i,e1,e2,e3,e4⟩:=hcap.get j x v h1 h2
  obtain ⟨m0,hn0,hl⟩:=I.loc
  obtain ⟨u,r,l⟩:=hl i x v e1 e2 (by rcases e4 with e4 | e4;exact .inr (.inl e4);exact .inr (.inr e4))
  refine ⟨u,r,?_⟩
  rcases l with ⟨l,_⟩ | ⟨k,c,e,z⟩
  ·have l':X.env.scope.names.lookup x=some NameKind.local:=l
   rcases e4 with e4 | e4<;>(rw [e4] at l';cases l')
  ·refine .inr ⟨?_,?_⟩
   ·show (compEnvC scope cl s.heap.objs.size X.env).kindOf x=some .cell∨(compEnvC scope cl s.heap.objs.size X.env).kindOf x=some .free
    rw [kindOf,e3]
    simp only [Option.map_some]
    split
    ·exact .inl rfl
    ·exact .inr rfl
   ·obtain ⟨c',hc'⟩:=b x (Wu e3)
    have:=a x c' hc'
    rw [e] at this
    cases this
    obtain ⟨o,ho,hd⟩:=z
    exact ⟨c,hc',o,keep _ _ ho,hd⟩
 ·obtain ⟨v,o,ho,hd⟩:=I.cell x c (a x c h)
  exact ⟨v,o,keep _ _ ho,hd⟩
 ·have hp':p∈X.pn++pins:=by simpa [cxC] using hp
  obtain ⟨e,n,ne,nf,d⟩:=I.pin p hp'
  refine ⟨keep _ _ e,n,Nat.ne_of_lt (Heap.lt_size e),fun z=>?_,d⟩
  rcases List.mem_cons.mp (I.stkSub p.1 z) with q | q
  ·exact ne q
  ·exact nf q
 ·show (Yw src σ).length=N'.length
  rw [← hcap.length]
  simp [Yw]
end
end L2
namespace L2
open PySem PySem.Spec PyProof.Rows
section
variable {prog:Program} {w:World} {A:Around} {R:Result→Shared→Prop} {s:Shared}
theorem Up {elt tg iter:Expr} {ifs:List Expr} {scope:Scope} {pos:Pos} {it acc:Value} {env:Env} (J:Nat→Shared→Prop)
  (turn:∀ n s,J n s→wpAny (model prog w) A (pyNext it) (fun r s₁=>match r with
    | none=>R (.ok .next) s₁
    | some v=>wpAny (model prog w) A (letOwnedTupleGo tg it v) (fun _ z₁=>wpAny (model prog w) A (assign tg env v) (fun _ s₂ =>
      wpAny (model prog w) A (forIn ifs true fun c r=>if r=true then do let ok ← isTrue c env (eval c env);pure (ForInStep.yield ok) else pure (ForInStep.yield r))
       (fun ok s₃=>if ok=true then wpAny (model prog w) A (eval elt env) (fun x s₄=>wpAny (model prog w) A (call (.builtin "list.append") [acc,x]) (fun _ s₅=>∃ m,m<n∧J m s₅) (fun _ _=>False) s₄) (fun _ _=>False) s₃
        else ∃ m,m<n∧J m s₃) (fun _ _=>False) s₂) (fun _ _=>False) z₁) (fun _ _=>False) s₁) (fun _ _=>False) s)
  (n:Nat) (h:J n s):codeAny (model prog w) A (.compLoop (.ListComp elt [⟨tg,iter,ifs,0⟩] scope pos) 0 it acc env) R s:=by
 refine codeAny_loop rfl J (fun n s hJ=>?_) n h
 show wpAny _ A (Sem.onRaise (compTurn (.ListComp elt [⟨tg,iter,ifs,0⟩] scope pos) 0 it acc env) (fun x=>do noteFrame x env;theTreesLotGoes x)) _ _ s
 refine wpAny_noted ?_
 rw [compTurn_list]
 have no:∀ {E:Value→Shared→Prop},∀ (e:Value) (s':Shared),False→E e s':=fun _ _ f=>f.elim
 refine wpAny_bind (wpAny_standAt (wpAny_bind (wpAny_mono (turn n s hJ) (fun r s₁ h₁=>?_) no)))
 cases r with
 | none=>exact wpAny_pure h₁
 | some v =>
  refine wpAny_bind (wpAny_mono h₁ (fun _ z₁ hz=>?_) no)
  refine wpAny_bind (wpAny_mono hz (fun _ s₂ h₂=>wpAny_bind (wpAny_mono h₂ (fun ok s₃ h₃=>?_) no)) no)
  cases ok with
  | false=>exact wpAny_pure ⟨rfl,h₃⟩
  | true =>
   exact wpAny_bind (wpAny_bind (wpAny_mono h₃ (fun x s₄ h₄=>wpAny_bind (wpAny_mono h₄ (fun _ s₅ h₅=>wpAny_pure (wpAny_pure ⟨rfl,h₅⟩)) no)) no))
end
def PTs (X:Cx) (ifs:List Expr) (t:TT):Prop :=
 ∀ (pins:List (Addr×Obj)) (s:Shared) (σ:St) (H:Hp) (Q:Bool→Hp→Prop),Inv X pins σ H s→t σ H Q →
  wpAny (model X.prog X.w) X.A (forIn ifs true fun c r=>if r=true then do let ok ← isTrue c X.env (eval c X.env);pure (ForInStep.yield ok) else pure (ForInStep.yield r)) (TP X pins σ Q) X.xe s
def Xs:TT:=fun _ H Q=>Q true H
theorem Y2 {X:Cx}:PTs X [] Xs:=fun _ _ _ H _ I h=>wpAny_tests_nil ⟨H,I,h⟩
theorem Ydk {X:Cx} {c:Expr} {t:TT} (h:PT X c t):PTs X [c] t:=fun pins s σ H Q I q=>wpAny_tests_one (h pins s σ H Q I q)
def LC (src:List (Option Nat)) (J:It) (g:TG) (tt:TT) (te:TE) (σ:St) (H1:Hp) (Q:VK) (D:Addr):Prop:=∃ W:Nat→Nat→List V→St→Hp→Prop,(∃ m,W 0 m [] (Yw src σ) (upd H1 D (.lst []))) ∧
 ∀ i m ys σ' H2,W i m ys σ' H2→H2 D=some (.lst ys)∧((J.stop i H2∧Q (.ref D) H2)∨(J.go i H2∧∃ N:List V→St→Hp→Prop,(∀ ys' σ3 H3,N ys' σ3 H3→∃ m',m'<m∧W (i+1) m' ys' σ3 H3)∧∀ x H3,J.yld i H2 x H3→g x σ' H3 fun σ2 H4=>tt σ2 H4 fun b H5 =>
  if b=true then te σ2 H5 fun y H6=>H6 D=some (.lst ys)∧ys.length<sizeLine∧N (ys++[y]) σ2 (upd H6 D (.lst (ys++[y])))
  else N ys σ2 H5))
def tLC (src:List (Option Nat)) (wi:TI) (g:TG) (tt:TT) (te:TE):TE:=fun σ H Q=>wi σ H fun J H1=>∀ D,H1 D=none→LC src J g tt te σ H1 Q D
section
variable {X:Cx}
theorem XI {elt tg iter:Expr} {ifs:List Expr} {scope:Scope} {pos:Pos} {src:List (Option Nat)} {N':List Str} {wi:TI} {g:TG} {tt:TT} {te:TE} (hcap:Cap X scope src N') (hc:X.calm=true) (hi:PI X tg iter wi)
  (hg:∀ cl C s₀ H₀ fp pn,PG (cxC X scope N' cl C s₀ H₀ fp pn) tg g) (ht:∀ cl C s₀ H₀ fp pn,PTs (cxC X scope N' cl C s₀ H₀ fp pn) ifs tt) (he:∀ cl C s₀ H₀ fp pn,PE (cxC X scope N' cl C s₀ H₀ fp pn) elt te)
  (hfree:∀ x,(x,NameKind.free)∈scope.names→X.env.scope.names.lookup x=some NameKind.cell∨X.env.scope.names.lookup x=some NameKind.free)
  (hk:scope.kind = .function) (hcell:∀ y∈scope.names,y.2 ≠ .cell) (hnames:∀ y∈scope.names,y.2 = .local→scope.names.lookup y.1=some .local)
  (hs:∀ x,foldedSetIterable iter X.env x=pure x):PE X (.ListComp elt [⟨tg,iter,ifs,0⟩] scope pos) (tLC src wi g tt te):=by
 intro pins s σ H Q I h
 have no:∀ {E:Value→Shared→Prop},∀ (e:Value) (s':Shared),False→E e s':=fun _ _ f=>f.elim
 obtain ⟨cl,hcl,a,b⟩:=Vx X.env scope fun x hx=>I.ok.has x (hfree x hx)
 rw [eval_ListComp]
 refine wpAny_comprehension_free (use:=none) rfl hs hcl hk hnames (thn (hi pins s σ H _ I h) fun v s1 h1=>thn h1 fun itv s2 h2=>?_)
 obtain ⟨it,fp,tn,J,H2,e,I2,T,st2,f2,q⟩:=h2
 subst e
 have hD:H2 s2.heap.objs.size=none:=I2.hok.fresh (Nat.le_refl _)
 obtain ⟨W,⟨m0,w0⟩,turn⟩:=q s2.heap.objs.size hD
 have I3:=I2.lnew (t':=s2.toks) (ys:=[]) (its:=[]) .nil (Nat.zero_le _)
 have fl2:∀ b∈fp,b<s2.heap.objs.size:=fun b hb=>by
  obtain ⟨o,e,_⟩:=T.obj _ _ st2 b hb
  exact Heap.lt_size e
 refine wpAny_newObj_type ?_
 generalize es3:({ s2 with heap:=s2.heap.push { cls := .type "list",dict:=none,data := .seq ([]:List Value).toArray } }:Shared)=s3
 have I3':Inv X pins σ (upd H2 s2.heap.objs.size (.lst [])) s3:=es3▸I3
 have keep3:∀ b o,s2.heap.get? b=some o→s3.heap.get? b=some o:=fun b o e=>by rw [← es3];exact Heap.get?_push_of_some _ e
 have st3:tn 0 s3.heap:=T.keep _ _ _ st2 fun b _ o e=>keep3 b o e
 have fl3:∀ b∈fp,b<s3.heap.objs.size:=fun b hb=>by
  obtain ⟨o,e,_⟩:=T.obj _ _ st3 b hb
  exact Heap.lt_size e
 have f3:∀ b∈fp,Xr X pins (upd H2 s2.heap.objs.size (.lst [])) b:=fun b hb=>⟨by rw [Yh (Nat.ne_of_lt (fl2 b hb))];exact (f2 b hb).1,(f2 b hb).2⟩
 generalize eD:s2.heap.objs.size=D at *
 generalize eH3:upd H2 D (.lst [])=H3 at *
 refine wpAny_newFunctionEnv hcell (by intro y hy;simp at hy) (fun h₁ hns₁ hsb₁=>?_) hk
 have keep4:∀ b o,s3.heap.get? b=some o→h₁.get? b=some o:=fun b o e=>hsb₁.extBut b o (Nat.ne_of_lt (Heap.lt_size e)) (Heap.get?_push_of_some _ e)
 have I4:=U9 (N':=N') (src:=src) (tk:=s3.toks+([]:List (Str×Value)).length) hk hcell hcap a b I3' f3 fl3 rfl keep4 hns₁
 -- the iterator's objects,through the block
 have stat:∀ {H':Hp},(∀ b∈fp,H' b=none)→∀ b∈fp,Xr (cxC X scope N' cl s3.heap.objs.size s3 H3 fp (X.pn++pins)) [] H' b:=fun hn b' hb=>by
  obtain ⟨f0,f1,fs,fe,f4,f5⟩:=f3 b' hb
  refine ⟨hn b' hb,Nat.ne_of_lt (fl3 b' hb),fun z=>?_,.inl hb,fun x c h=>f4 x c (a x c h),fun p hp=>f5 p (by simpa [cxC] using hp)⟩
  rcases List.mem_cons.mp (I3'.stkSub b' z) with e | e
  ·exact f1 e
  ·exact fs e
 -- behind the block
 have fin:∀ {H':Hp} {s':Shared} {σ':St} {pins':List (Addr×Obj)},Inv (cxC X scope N' cl s3.heap.objs.size s3 H3 fp (X.pn++pins)) pins' σ' H' s'→∀ h',Heap.SameBut s3.heap.objs.size s'.heap h'→Inv X pins σ H' { s' with heap:=h' }:=fun {H' s' σ' pins'} J' h' sb=>by
  have same:∀ b o,b≠s3.heap.objs.size→s'.heap.get? b=some o→h'.get? b=some o:=fun b o hb e=>sb.extBut b o hb e
  have u:Un (frs X.stack) fp H3 H' s3.heap s'.heap:=J'.base
  refine I3'.call' (s':={ s' with heap:=h' }) (ch:=fp) J'.os ⟨fun b o e n hb hx=>?_,fun b o e n hb hx=>?_,u.free,fun b o e hx=>?_,u.tups,u.frzs,u.tbls⟩ (fun b o e=>?_) J'.bare fun b hb=>?_
  ·exact same b o (Nat.ne_of_lt (Heap.lt_size e)) (u.keep b o e n hb hx)
  ·obtain ⟨sl,z⟩:=u.slot b o e n hb hx
   exact ⟨sl,same b _ (Nat.ne_of_lt (Heap.lt_size e)) z⟩
  ·obtain ⟨o',z⟩:=u.there b o e hx
   exact ⟨o',same b o' (Nat.ne_of_lt (Heap.lt_size e)) z⟩
  ·have nC:∀ c v,H' c=some v→c≠s3.heap.objs.size:=fun c v z q=>by
    have:=J'.free
    rw [show (cxC X scope N' cl s3.heap.objs.size s3 H3 fp (X.pn++pins)).env.locals=s3.heap.objs.size from rfl,← q,z] at this
    cases this
   refine (J'.hok b o e).stay (fun c v hc q=>same c v ?_ q) (fun _ q=>q) fun _ _ q=>q
   rcases hc with z | z
   ·rw [z];exact nC b o e
   ·exact nC c _ z
  ·obtain ⟨f0,f1,fs,fe,f4,f5⟩:=f3 b hb
   exact ⟨fe,f1,f4,f5⟩
 have loop:codeAny (model X.prog X.w) X.A (.compLoop (.ListComp elt [⟨tg,iter,ifs,0⟩] scope pos) 0 (.ref it) (.ref D) (compEnvC scope cl s3.heap.objs.size X.env))
   (compPost (model X.prog X.w) X.A X.xe none (EP X pins σ Q) (.ref D) s3.heap.objs.size) { s3 with heap:=h₁,toks:=s3.toks+([]:List (Str×Value)).length }:=by
  refine Up (fun n s'=>∃ i ys σ' H',Inv (cxC X scope N' cl s3.heap.objs.size s3 H3 fp (X.pn++pins)) [] σ' H' s'∧tn i s'.heap∧(∀ b∈fp,H' b=none)∧W i n ys σ' H') ?_ m0 ⟨0,[],Yw src σ,H3,I4,T.keep _ _ _ st3 fun b _ o e=>keep4 b o e,fun b hb=>(f3 b hb).1,w0⟩
  rintro n s5 ⟨i,ys,σ5,H5,I5,st5,fr5,w5⟩
  obtain ⟨hDs,stop | go⟩:=turn i n ys σ5 H5 w5
  ·obtain ⟨stop,qn⟩:=stop
   refine thn (T.done (cxC X scope N' cl s3.heap.objs.size s3 H3 fp (X.pn++pins)) rfl rfl rfl hc i [] s5 σ5 H5 _ I5 (stat fr5) st5 stop) fun r s6 ⟨hr,I6⟩=>?_
   subst hr
   obtain ⟨m,hn,_⟩:=id I6.loc
   exact ⟨m,hn,fun h' sb=>⟨.ref D,H5,fin I6 h' sb,rfl,qn⟩⟩
  ·obtain ⟨go,N,hN,step⟩:=go
   refine thn (T.item (cxC X scope N' cl s3.heap.objs.size s3 H3 fp (X.pn++pins)) rfl rfl rfl hc i [] s5 σ5 H5 _ I5 (stat fr5) st5 go) fun r s6 ⟨u,hr,h6⟩=>?_
   subst hr
   refine thn h6 fun _ s7 ⟨x,H7,I7,r7,y7,st7,fr7⟩=>?_
   have I7':=I7.pinned (stat fr7) (T.obj _ _ st7)
   have again:∀ {s8:Shared} {σ8:St} {H8:Hp} {ys':List V},Inv (cxC X scope N' cl s3.heap.objs.size s3 H3 fp (X.pn++pins)) ([]++Wz fp s7.heap) σ8 H8 s8→(∃ m',m'<n∧W (i+1) m' ys' σ8 H8) →
     ∃ m,m<n∧∃ i ys σ' H',Inv (cxC X scope N' cl s3.heap.objs.size s3 H3 fp (X.pn++pins)) [] σ' H' s8∧tn i s8.heap∧(∀ b∈fp,H' b=none)∧W i m ys σ' H':=fun {s8 σ8 H8 ys'} I8 ⟨m',hm,w8⟩=>by
    refine ⟨m',hm,i+1,ys',σ8,H8,I8.unpinned,T.keep _ _ _ st7 fun b hb o e=>(I8.pin (b,o) (List.mem_append_right _ (List.mem_append_right _ (Xb hb e)))).1,fun b hb=>?_,w8⟩
    obtain ⟨o,e,d⟩:=T.obj _ _ st7 b hb
    exact (I8.pin (b,o) (List.mem_append_right _ (List.mem_append_right _ (Xb hb e)))).2.1
   refine thn (hg cl _ s3 H3 fp _ _ s7 σ5 H7 x u _ I7' r7 (step x H7 y7)) fun _ s8 ⟨σ8,H8,I8,q8⟩=>?_
   refine thn (ht cl _ s3 H3 fp _ _ s8 σ8 H8 _ I8 q8) fun ok s9 ⟨H9,I9,q9⟩=>?_
   cases ok with
   | false=>exact again I9 (hN _ _ _ q9)
   | true =>
    rw [if_pos rfl]
    refine thn (he cl _ s3 H3 fp _ _ s9 σ8 H9 _ I9 q9) fun y s10 ⟨yv,H10,I10,r10,q10⟩=>?_
    obtain ⟨hDy,hlen,w10⟩:=q10
    refine thn (Y7 (X:=cxC X scope N' cl s3.heap.objs.size s3 H3 fp (X.pn++pins)) _ s10 σ8 H10 (.ref D) [yv] (.ref D) [y] (fun _ H'=>H'=upd H10 D (.lst (ys++[yv]))) I10 rfl (.cons r10 .nil) ⟨D,ys,yv,rfl,rfl,hDy,hlen,rfl⟩) fun _ s11 ⟨_,H11,I11,_,e11⟩=>?_
    subst e11
    exact again I11 (hN _ _ _ w10)
 exact codeAny_compStart_list loop (T.self _ 0 _ _ _ (T.keep _ _ _ st3 fun b _ o e=>keep4 b o e) loop)
end
end L2
namespace L2
open PySem PySem.Spec PyProof.Rows
def WH (x:Str) (lo hi:Option Int):Str:=⟨((x.cps.toList.drop (HT.sIx x.length 0 lo)).take (HT.sIx x.length x.length hi - HT.sIx x.length 0 lo)).toArray⟩
theorem Vy (lo hi:Option Int) (n:Nat):Builtin.Str.strSliceIndices lo hi 1 n=(List.range (HT.sIx n n hi - HT.sIx n 0 lo)).map fun k=>HT.sIx n 0 lo+k:=by
 have clip:∀ (v:Int) (d:Nat),max 0 (min (if v<0 then v+(n:Int) else v) (n:Int))=((HT.sIx n d (some v):Nat):Int):=fun v d=>by
  show _=(((if v<0 then (v+(n:Int)).toNat else min v.toNat n):Nat):Int)
  by_cases hv:v<0
  ·simp only [if_pos hv];omega
  ·simp only [if_neg hv];omega
 have key:∀ (i j:Nat),sliceRange (i:Int) (j:Int) 1=(List.range (j - i)).map fun k=>i+k:=fun i j=>by
  unfold sliceRange
  have e:(if (1:Int)>0 then (if (i:Int)<(j:Int) then ((j:Int) - (i:Int)+1 - 1) / 1 else 0) else (if (i:Int)>(j:Int) then ((i:Int) - (j:Int) - 1 - 1) / (-1) else 0)).toNat=j - i:=by
   rw [if_pos (by decide)]
   by_cases h:(i:Int)<(j:Int)
   ·rw [if_pos h,Int.ediv_one];omega
   ·rw [if_neg h];omega
  dsimp only
  rw [e]
  refine List.map_congr_left fun k _=>?_
  omega
 have lo':(match lo with | none=>(0:Int) | some v=>max 0 (min (if v<0 then v+(n:Int) else v) (n:Int)))=((HT.sIx n 0 lo:Nat):Int):=by
  cases lo with
  | none=>rfl
  | some v=>exact clip v 0
 have hi':(match hi with | none=>(n:Int) | some v=>max 0 (min (if v<0 then v+(n:Int) else v) (n:Int)))=((HT.sIx n n hi:Nat):Int):=by
  cases hi with
  | none=>rfl
  | some v=>exact clip v n
 rw [← key,← lo',← hi']
 unfold Builtin.Str.strSliceIndices
 cases lo<;>cases hi<;>simp
theorem Qa (x:Str) (lo hi:Option Int):Txt.slice x lo hi=WH x lo hi:=by
 have hle1:=HT.sIx_le x.length 0 (Nat.zero_le _) lo
 have hle2:=HT.sIx_le x.length x.length (Nat.le_refl _) hi
 have core:((Builtin.Str.strSliceIndices lo hi 1 x.length).filterMap (x.cps[·]?))=(x.cps.toList.drop (HT.sIx x.length 0 lo)).take (HT.sIx x.length x.length hi - HT.sIx x.length 0 lo):=by
  rw [Vy,List.filterMap_map]
  generalize HT.sIx x.length 0 lo=i
  generalize HT.sIx x.length x.length hi - i=k
  have gen:∀ (l:List Nat) (k:Nat),(List.range k).filterMap (fun m=>l[m]?)=l.take k:=by
   intro l k
   induction k with
   | zero=>simp
   | succ k ih =>
    rw [List.range_succ,List.filterMap_append,ih]
    by_cases hk:k<l.length
    ·rw [List.take_succ_eq_append_getElem hk];simp [hk]
    ·have h1:l.take (k+1)=l:=List.take_of_length_le (by omega)
     have h2:l.take k=l:=List.take_of_length_le (by omega)
     rw [h1,h2];simp [hk]
  have e:((fun j=>x.cps[j]?) ∘ fun k=>i+k)=fun m=>(x.cps.toList.drop i)[m]?:=by
   funext m
   simp [List.getElem?_drop]
  rw [e,gen]
 unfold Txt.slice WH
 rw [core]
 split
 ·rename_i h
  simp only [beq_self_eq_true,Bool.true_and,beq_iff_eq] at h
  rw [Vy,List.length_map,List.length_range] at h
  have h0:HT.sIx x.length 0 lo=0∨x.length=0:=by omega
  have e:(x.cps.toList.drop (HT.sIx x.length 0 lo)).take (HT.sIx x.length x.length hi - HT.sIx x.length 0 lo)=x.cps.toList:=by
   have hl:x.cps.toList.length=x.length:=by simp [Str.length]
   rcases h0 with h0 | h0
   ·rw [h,h0,List.drop_zero,List.take_of_length_le (by omega)]
   ·have:x.cps.toList=[]:=List.eq_nil_of_length_eq_zero (by omega)
    rw [this];simp
  rw [e]
 ·rfl
theorem VR (x:Str) (lo hi:Option Int):(WH x lo hi).length≤x.length:=by
 rw [← Qa];exact Txt.slice_le x lo hi
def rSlS:V→Option Int→Option Int→Hp→VK→Prop:=fun x lo hi H Q=>∃ z,x = .str z∧z.length≤sizeLine∧Q (.str (WH z lo hi)) H
section
variable {X:Cx}
theorem YdZ:SlR X rSlS:=by
 intro pins s σ H x v vl vu lo hi sl Q I rx hs pl pu h
 obtain ⟨z,rfl,hz,q⟩:=h
 obtain ⟨t,rfl⟩:=rx
 refine ⟨"str",_,F.slot_str_getitem.lookup,typeIs_str _ _ _,?_⟩
 have fin:∀ (l u:Option (Int×Tok)),l.map (·.1)=lo→u.map (·.1)=hi→s.heap.IsSlice sl l u none→wpAny (model X.prog X.w) X.A (getItem (.str z t) (.ref sl)) (EP X pins σ Q) X.xe s:=fun l u el eu hsl=>by
  refine wpAny_getItem_str_slice (l:=l) (u:=u) (st:=none) hsl rfl ?_
  have e:(if (((none:Option (Int×Tok)).map (·.1)).getD 1==1&&(slicePicked z l u none).length==z.length)=true then z else ⟨((slicePicked z l u none).filterMap (z.cps[·]?)).toArray⟩)=WH z lo hi:=by
   rw [← Qa,← el,← eu]
   rfl
  refine post_val_or_str ⟨by rw [e];exact Nat.le_trans (VR z lo hi) hz,fun t' k=>?_⟩
  rw [e]
  exact ⟨.str (WH z lo hi),H,I.tok k,⟨t',rfl⟩,q⟩
 obtain ⟨o,ho,hc,hd⟩:=hs
 cases pl with
 | none =>
  cases pu with
  | none=>exact fin none none rfl rfl ⟨o,ho,hc,hd⟩
  | int j tj=>exact fin none (some (j,tj)) rfl rfl ⟨o,ho,hc,hd⟩
 | int i ti =>
  cases pu with
  | none=>exact fin (some (i,ti)) none rfl rfl ⟨o,ho,hc,hd⟩
  | int j tj=>exact fin (some (i,ti)) (some (j,tj)) rfl rfl ⟨o,ho,hc,hd⟩
def Its (x:Str):It:=⟨fun i _=>i<x.length,fun i H v H'=>H'=H∧∃ c,x.cps.toList[i]?=some c∧v = .str ⟨#[c]⟩,fun i _=>x.length≤i⟩
theorem Ycf {P:Program} {w:World} {K:PySem.W.Frag} {tg:Expr} (x:Str) (t:Tok) (it:Addr):Turn P w K tg (Its x) [it] it (fun i h=>h.IsStrIter it "str_ascii_iterator" x t i∨h.IsStrIter it "str_iterator" x t i) where
 mem:=by simp
 obj:=fun i h st b hb=>by
  have e:b=it:=by simpa using hb
  subst e
  rcases st with ⟨o,e,c,d⟩ | ⟨o,e,c,d⟩<;>exact ⟨o,e,fun v z=>by rw [d] at z;cases z⟩
 keep:=fun i h h' st k=>by
  rcases st with ⟨o,e,c⟩ | ⟨o,e,c⟩
  ·exact .inl ⟨o,k it (by simp) o e,c⟩
  ·exact .inr ⟨o,k it (by simp) o e,c⟩
 item:=by
  intro X hP hw hK hc i pins s σ H E I hf st hg
  subst hP hw hK
  have hi:i<x.cps.size:=hg
  have hx:x.cps[i]?=some x.cps[i]:=by simp [hi]
  obtain ⟨f0,f1,f2,f3,f4,f5⟩:=hf it (by simp)
  have fin:∀ (ty:String) (h':Heap),["enumerate","zip","dict_itemiterator","dict_reverseitemiterator","odict_iterator","itertools.zip_longest","itertools.pairwise"].contains ty=false→h'.IsStrIter it ty x t (i+1)→Heap.SameBut it s.heap h' →
    (h'.IsStrIter it ty x t (i+1)→(h'.IsStrIter it "str_ascii_iterator" x t (i+1)∨h'.IsStrIter it "str_iterator" x t (i+1))) →
    ∃ u,some (Value.str ⟨#[x.cps[i]]⟩ s.toks)=some u∧wpAny (model X.prog X.w) X.A (letOwnedTupleGo tg (.ref it) u) (fun _ s2=>∃ y H',Inv X pins σ H' s2∧Yr y u∧(Its x).yld i H y H' ∧
     (s2.heap.IsStrIter it "str_ascii_iterator" x t (i+1)∨s2.heap.IsStrIter it "str_iterator" x t (i+1))∧∀ b∈[it],H' b=none) E { s with heap:=h',toks:=s.toks+1 }:=fun ty h' hn st' sb hor=>by
   have I1:Inv X pins σ H { s with heap:=h',toks:=s.toks+1 }:=I.turned (t':=s.toks+1) (fun b o hb e=>(sb.2 b hb).trans e) f0 f1 f3 f4 f5
   obtain ⟨o,e,c,d⟩:=id st'
   exact ⟨_,rfl,YaD (s:={ s with heap:=h',toks:=s.toks+1 }) e c d hn ⟨.str ⟨#[x.cps[i]]⟩,H,I1,⟨_,rfl⟩,⟨rfl,x.cps[i],by simp [hi],rfl⟩,hor st',fun b hb=>(hf b hb).1⟩⟩
  rcases st with st | st
  ·exact wpAny_pyNext_ascii_item st hx fun h' st' sb=>fin _ h' (by decide) st' sb .inl
  ·exact wpAny_pyNext_wide_item st hx fun h' st' sb=>fin _ h' (by decide) st' sb .inr
 done:=by
  intro X hP hw hK hc i pins s σ H E I hf st hg
  subst hP hw hK
  have hi:x.cps.size≤i:=hg
  have hx:x.cps[i]?=none:=by simp [hi]
  obtain ⟨f0,f1,f2,f3,f4,f5⟩:=hf it (by simp)
  rcases st with st | st
  ·exact wpAny_pyNext_ascii_end (I.ok.hd hc) st hx fun h' eb=>⟨rfl,I.turned (t':=s.toks) (fun b o hb e=>eb b o hb e) f0 f1 f3 f4 f5⟩
  ·exact wpAny_pyNext_wide_end (I.ok.hd hc) st hx fun h' eb=>⟨rfl,I.turned (t':=s.toks) (fun b o hb e=>eb b o hb e) f0 f1 f3 f4 f5⟩
 self:=fun A i s Q E st h=>by
  rcases st with st | st
  ·exact wpAny_pyIter_slot st.typeIs F.slot_str_ascii_iterator_iter (wpAny_call_entry F.slot_str_ascii_iterator_iter st.typeIs F.entry_str_ascii_iterator_iter (wpAny_pure ⟨_,rfl,"str_ascii_iterator",_,st.typeIs,F.slot_str_ascii_iterator_next.lookup,h⟩) (F.args_str_ascii_iterator_iter_1 _))
  ·exact wpAny_pyIter_slot st.typeIs F.slot_str_iterator_iter (wpAny_call_entry F.slot_str_iterator_iter st.typeIs F.entry_str_iterator_iter (wpAny_pure ⟨_,rfl,"str_iterator",_,st.typeIs,F.slot_str_iterator_next.lookup,h⟩) (F.args_str_iterator_iter_1 _))
end
end L2
namespace L2
open PySem PySem.Spec PyProof.Rows
section
variable {X:Cx} {tg:Expr}
def iStr (tl:TE):TI:=fun σ H R=>tl σ H fun x H1=>∃ z,x = .str z∧R (Its z) H1
theorem Ybu {l:Expr} {tl:TE} (hl:PE X l tl):PI X tg l (iStr tl):=by
 intro pins s σ H R I h
 refine thn (hl pins s σ H _ I h) fun v s1 ⟨x,H1,I1,r1,q1⟩=>?_
 obtain ⟨z,e,q⟩:=q1
 subst e
 obtain ⟨t,rfl⟩:=r1
 refine wpAny_pyIter_strU ?_
 refine ⟨s1.heap.objs.size,[s1.heap.objs.size],_,_,H1,rfl,I1.kept (t':=s1.toks) fun b o e=>Heap.get?_push_of_some _ e,Ycf z t _,?_,fun b hb=>?_,q⟩
 ·unfold strIterType
  split
  ·exact .inl ⟨_,Heap.get?_push_size _ rfl,rfl,rfl⟩
  ·exact .inr ⟨_,Heap.get?_push_size _ rfl,rfl,rfl⟩
 ·have e:b=s1.heap.objs.size:=by simpa using hb
  subst e
  exact I1.fpOk (Nat.le_refl _) (I1.hok.fresh (Nat.le_refl _))
def XJ (J:It) (P:Hp→Prop) (xs:List V):Prop:=∀ H,P H→∀ i,(∀ x,xs[i]?=some x→J.go i H∧∀ y H',J.yld i H y H'→H'=H∧y=x)∧(xs.length≤i→J.stop i H)
theorem Ybv (z:Str) (P:Hp→Prop):XJ (Its z) P (z.cps.toList.map fun c => .str ⟨#[c]⟩):=fun H _ i=>by
 refine ⟨fun x hx=>?_,fun hi=>?_⟩
 ·rw [List.getElem?_map] at hx
  cases e:z.cps.toList[i]? with
  | none=>rw [e] at hx;simp at hx
  | some c =>
   rw [e] at hx
   have hx':V.str ⟨#[c]⟩=x:=by simpa using hx
   subst hx'
   have hi:i<z.cps.toList.length:=(List.getElem?_eq_some_iff.mp e).1
   refine ⟨by show i<z.cps.size;simpa using hi,fun y H' ⟨e1,c',e2,e3⟩=>⟨e1,?_⟩⟩
   rw [e] at e2
   cases e2
   exact e3
 ·show z.cps.size≤i
  simpa using hi
theorem XL {K:PySem.W.Frag} {a:Addr} {xs:List V}:XJ (Itl K a) (fun H=>SqL K H a xs) xs:=fun H hq i=>by
 refine ⟨fun x hx=>⟨⟨xs,x,hq,hx⟩,fun y H' ⟨e1,e2⟩=>⟨e1,?_⟩⟩,fun hi=>⟨xs,hq,hi⟩⟩
 have:=e2 xs hq
 rw [hx] at this
 exact (Option.some.inj this).symm
theorem QV {lo:Int} {n:Nat} {P:Hp→Prop}:XJ (Itr lo n) P ((List.range n).map fun (i:Nat)=>V.int (lo+i)):=fun H hq i=>by
 refine ⟨fun x hx=>?_,fun hi=>by show n≤i;simpa using hi⟩
 have hi:i<n:=by
  have:=(List.getElem?_eq_some_iff.mp hx).1
  simpa using this
 refine ⟨hi,fun y H' ⟨e1,e2⟩=>⟨e1,?_⟩⟩
 rw [List.getElem?_map,List.getElem?_range hi] at hx
 rw [e2]
 simpa using hx
theorem XJ.imp {J:It} {P P':Hp→Prop} {xs:List V} (h:XJ J P xs) (hp:∀ H,P' H→P H):XJ J P' xs:=fun H q=>h H (hp H q)
theorem YcZ {J:It} {P:Hp→Prop} {xs:List V} (hJ:XJ J P xs) {src:List (Option Nat)} {g:TG} {tt:TT} {te:TE} {σ:St} {H1:Hp} {Q:VK} {D:Addr} (Pv:Nat→List V→St→Hp→Prop)
  (h0:Pv 0 [] (Yw src σ) (upd H1 D (.lst []))) (hP:∀ i ys σ' H',Pv i ys σ' H'→P H'∧H' D=some (.lst ys))
  (step:∀ i ys σ' H' x,xs[i]?=some x→Pv i ys σ' H'→g x σ' H' fun σ2 H4=>tt σ2 H4 fun b H5=>if b=true then te σ2 H5 fun y H6=>H6 D=some (.lst ys)∧ys.length<sizeLine∧Pv (i+1) (ys++[y]) σ2 (upd H6 D (.lst (ys++[y]))) else Pv (i+1) ys σ2 H5)
  (fin:∀ ys σ' H',Pv xs.length ys σ' H'→Q (.ref D) H') :
  LC src J g tt te σ H1 Q D:=by
 refine ⟨fun i m ys σ' H'=>m=xs.length - i∧i≤xs.length∧Pv i ys σ' H',⟨xs.length,by simp,Nat.zero_le _,h0⟩,?_⟩
 rintro i m ys σ' H2 ⟨rfl,hi,p⟩
 obtain ⟨hp,hD⟩:=hP i ys σ' H2 p
 refine ⟨hD,?_⟩
 by_cases hlt:i<xs.length
 ·obtain ⟨go,yl⟩:=(hJ H2 hp i).1 xs[i] (by simp [hlt])
  refine .inr ⟨go,fun ys' σ3 H3=>Pv (i+1) ys' σ3 H3,fun ys' σ3 H3 p'=>⟨xs.length - (i+1),by omega,rfl,hlt,p'⟩,fun x H3 y=>?_⟩
  obtain ⟨e1,e2⟩:=yl x H3 y
  subst e1 e2
  exact step i ys σ' _ _ (by simp [hlt]) p
 ·have e:i=xs.length:=by omega
  subst e
  exact .inl ⟨(hJ H2 hp _).2 (Nat.le_refl _),fin ys σ' H2 p⟩
theorem Yb.upd_new {H:Hp} {p:Addr} (h:H p=none) (o:HO):Yb H (upd H p o):=fun b u q=>by rw [Yh (Yv q h)];exact q
theorem Yb.upd_over {H H':Hp} {p:Addr} (h:H p=none) (e:Yb H H') (o:HO):Yb H (upd H' p o):=fun b u q=>by rw [Yh (Yv q h)];exact e b u q
theorem Yb.tup {K:PySem.W.Frag} {H H':Hp} {a:Addr} {xs:List V} (e:Yb H H') (h:SqT K H a xs):SqT K H' a xs:=by
 rcases h with (h | ⟨o,h⟩) | h
 ·exact .inl (.inl (e _ _ h))
 ·exact .inl (.inr ⟨o,e _ _ h⟩)
 ·exact .inr h
end
section
variable {X:Cx}
theorem Qb:∀ {bs:List Bool} {us:List Value},Yn (bs.map V.bl) us→LSm.BoolsAre us bs
 | [],_,h=>by rw [Yn.zero h];exact .nil
 | b::bs,us,h=>by
  have h':Yn (V.bl b::bs.map V.bl) us:=h
  cases h' with
  | cons r t=>cases (show _=Value.bool b from r);exact .cons b (Qb t)
theorem Xp (hc:X.calm=true):Xu X (.builtin "all") (fun xs H Q=>∃ (p:Addr) (bs:List Bool),xs=[.ref p]∧SqL X.K H p (bs.map V.bl)∧Q (.bl (bs.all id)) H):=by
 intro pins s σ H xs us Q I r h
 obtain ⟨p,bs,rfl,hq,q⟩:=h
 obtain ⟨u,rfl,rx⟩:=XF r
 cases rx
 obtain ⟨its,r',pl,hz⟩:=I.list hq
 have hb:=Qb r'
 have hl:=pl.isList
 have hlt:p<s.heap.objs.size:=by obtain ⟨_,e,_⟩:=hl;exact Heap.lt_size e
 refine call_all_walk (wpAny_pyIter_list hl ?_)
 refine ⟨s.heap.objs.size,[s.heap.objs.size,p],[s.heap.objs.size],its.toArray.size,_,_,fun i=>(bs[i]?).getD true,rfl,Walks.list (A:=X.A.in1) (I.ok.hd hc) _ p (Nat.ne_of_lt hlt) its.toArray,
  ⟨⟨_,Heap.get?_push_size _ rfl,rfl,rfl⟩,hl.push _⟩,fun i v s' Q' E' hP hQ=>?_,fun h' tk hk=>?_⟩
 ·obtain ⟨b,e,rfl⟩:=hb.get i v (by simpa using hP)
  simp only [e,Option.getD_some] at hQ
  exact wpAny_truthy_bool hQ
 ·have e:((List.range its.toArray.size).all fun i=>(bs[i]?).getD true)=bs.all id:=by
   rw [List.size_toArray,hb.length];exact LSm.range_all bs
  rw [e]
  exact ⟨.bl _,H,I.kept (t':=tk) (LSm.kept_iter hk),rfl,q⟩
theorem Yai:∀ {ys:List Str} {us:List Value},Yn (ys.map V.str) us→StrsAre us ys
 | [],_,h=>by rw [Yn.zero h];exact .nil
 | y::ys,us,h=>by
  have h':Yn (V.str y::ys.map V.str) us:=h
  cases h' with
  | cons r t=>obtain ⟨t',rfl⟩:=r;exact .cons y t' (Yai t)
def rJoin (K:PySem.W.Frag):V→List V→Hp→VK→Prop:=fun x vs H Q=>∃ (z:Str) (p:Addr) (ys:List Str),x = .str z∧vs=[.ref p]∧SqL K H p (ys.map V.str)∧(ys.map (·.length)).sum+ys.length*z.length≤16777216∧Q (.str (Txt.join z ys)) H
theorem Ydl:MtR X "str.join" (rJoin X.K):=by
 intro pins s σ H x vs v us Q I rx rv h
 obtain ⟨z,p,ys,rfl,rfl,hq,hl,q⟩:=h
 obtain ⟨t,rfl⟩:=rx
 obtain ⟨u,rfl,ru⟩:=rv.one
 cases ru
 obtain ⟨its,r,pl,hz⟩:=I.list hq
 exact join_list pl.isList (by simpa using Yai r) hl fun t' k=>⟨.str _,H,I.tok k,⟨t',rfl⟩,q⟩
def YaK:V→Option Value
 | .ty n=>some (.type n)
 | .ref a=>some (.ref a)
 | _=>none
theorem YS:Xu X (.builtin "isinstance") (fun xs H Q=>∃ x c cv t b,xs=[x,c]∧YaK c=some cv∧TyOf X.K H x t∧PySem.W.kitOne X.K t cv=some b∧Q (.bl b) H):=by
 intro pins s σ H xs us Q I r h
 obtain ⟨x,c,cv,t,b,rfl,ec,ty,e,q⟩:=h
 obtain ⟨u,w',rfl,ru,rw'⟩:=YcV r
 have ew:w'=cv:=by
  cases c with
  | ty n=>cases (show w'=Value.type n from rw');simpa [YaK] using ec
  | ref a=>cases (show w'=Value.ref a from rw');simpa [YaK] using ec
  | _=>simp [YaK] at ec
 subst ew
 exact Ybm I ru ty e fun tk=>⟨.bl b,H,I.tok tk,rfl,q⟩
end
end L2
namespace L2
open PySem PySem.Spec PyProof.Rows
structure Sub (P:Program) (w:World) (i:Addr) (St:Nat→Heap→Prop) (Ready:Heap→(Nat→Option Value)→Prop):Prop where
 obj:∀ k h,St k h→∃ o,h.get? i=some o∧∀ v,o.data ≠ .cell v
 keep:∀ k h h',St k h→(∀ o,h.get? i=some o→h'.get? i=some o)→St k h'
 item:∀ (A:Around) (k:Nat) (s:Shared) (get:Nat→Option Value) (x:Value) (Q:Value→Shared→Prop) (E:Value→Shared→Prop),St k s.heap→Ready s.heap get→get k=some x →
  (∀ h' tk,St (k+1) h'→Heap.SameBut i s.heap h'→Q x { s with heap:=h',toks:=tk })→wpAny (model P w) A (Builtin.SmallTypes.nextOf (.ref i)) Q E s
 fin:∀ (A:Around) (k:Nat) (s:Shared) (get:Nat→Option Value) (Q:Value→Shared→Prop) (E:Value→Shared→Prop),A.handled=none→St k s.heap→Ready s.heap get→get k=none →
  (∀ h' e,Heap.ExtBut i s.heap h'→(∃ o,h'.get? e=some o∧o.cls = .type "StopIteration")→E (.ref e) { s with heap:=h' })→wpAny (model P w) A (Builtin.SmallTypes.nextOf (.ref i)) Q E s
section
variable {prog:Program} {w:World} {A:Around} {E:Value→Shared→Prop} {s:Shared}
theorem Vh {it t:Addr} {i:Nat} {items:Array Value} {x:Value} {Q:Value→Shared→Prop} (hit:s.heap.IsTupleIter it t i) (ht:s.heap.IsTuple t items) (hx:items[i]?=some x)
  (hQ:∀ h',h'.IsTupleIter it t (i+1)→Heap.SameBut it s.heap h'→Q x { s with heap:=h' }):wpAny (model prog w) A (Builtin.SmallTypes.nextOf (.ref it)) Q E s:=by
 obtain ⟨o,ho,hc,hd⟩:=id hit
 obtain ⟨ol,hol,_,nl,hdl⟩:=ht
 unfold Builtin.SmallTypes.nextOf
 refine wpAny_bind (wpAny_callSpecial?_slot (name:=Str.ofString "__next__") hit.typeIs F.slot_tuple_iterator_next (wpAny_call_entry F.slot_tuple_iterator_next hit.typeIs F.entry_tuple_iterator_next ?_ (F.args_tuple_iterator_next_1 _)))
 show wpAny _ _ (field (.ref it) 0 >>= _) _ _ s
 refine wpAny_bind (wpAny_field ho hd (x := .ref t) rfl ?_)
 show wpAny _ _ (if (Value.ref t==Value.none)=true then _ else _) _ _ s
 rw [if_neg (show ¬ ((Value.ref t==Value.none)=true) from Bool.false_ne_true)]
 show wpAny _ _ (field (.ref it) 1 >>= _) _ _ s
 refine wpAny_bind (wpAny_field ho hd (x := .int i 0) rfl ?_)
 show wpAny _ _ (seqItems? (.ref t) >>= _) _ _ s
 refine wpAny_bind (wpAny_seqItems hol hdl ?_)
 simp only [Int.toNat_natCast,hx]
 refine wpAny_bind (wpAny_setField ho hd (by simp) (wpAny_pure ⟨x,rfl,wpAny_pure (hQ _ ?_ (Heap.SameBut.update ..))⟩))
 exact ⟨_,Heap.get?_update_self _ ho (Obj.isFreed_of_fields (Obj.data_mapFields hd _)),(Obj.cls_mapFields ..).trans hc,by rw [Obj.data_mapFields hd];simp [rawInt]⟩
theorem Vo {it t:Addr} {i:Nat} {items:Array Value} {Q:Value→Shared→Prop} (hh:A.handled=none) (hit:s.heap.IsTupleIter it t i) (ht:s.heap.IsTuple t items) (hx:items[i]?=none)
  (hE:∀ h' e,Heap.ExtBut it s.heap h'→(∃ o,h'.get? e=some o∧o.cls = .type "StopIteration")→E (.ref e) { s with heap:=h' }):wpAny (model prog w) A (Builtin.SmallTypes.nextOf (.ref it)) Q E s:=by
 obtain ⟨o,ho,hc,hd⟩:=id hit
 obtain ⟨ol,hol,_,nl,hdl⟩:=ht
 unfold Builtin.SmallTypes.nextOf
 refine wpAny_bind (wpAny_callSpecial?_slot (name:=Str.ofString "__next__") hit.typeIs F.slot_tuple_iterator_next (wpAny_call_entry F.slot_tuple_iterator_next hit.typeIs F.entry_tuple_iterator_next ?_ (F.args_tuple_iterator_next_1 _)))
 show wpAny _ _ (field (.ref it) 0 >>= _) _ _ s
 refine wpAny_bind (wpAny_field ho hd (x := .ref t) rfl ?_)
 show wpAny _ _ (if (Value.ref t==Value.none)=true then _ else _) _ _ s
 rw [if_neg (show ¬ ((Value.ref t==Value.none)=true) from Bool.false_ne_true)]
 show wpAny _ _ (field (.ref it) 1 >>= _) _ _ s
 refine wpAny_bind (wpAny_field ho hd (x := .int i 0) rfl ?_)
 show wpAny _ _ (seqItems? (.ref t) >>= _) _ _ s
 refine wpAny_bind (wpAny_seqItems hol hdl ?_)
 simp only [Int.toNat_natCast,hx]
 refine wpAny_bind (wpAny_rule (wpAny_bind (wpAny_setField ho hd (by simp) ?_)))
 show wpAny _ _ (newExc (.type "StopIteration") [] >>= _) _ _ _
 refine wpAny_bind ?_
 simp only [newExc,newTuple]
 refine wpAny_bind (wpAny_newObj_type ?_ (by size_fits))
 refine wpAny_bind (m:=firstArgMember _ _) (wpAny_of_eq (a:=Value.none) (by first | rfl | (simp only [firstArgMember];rfl)) ?_)
 refine wpAny_newObj_type ?_ (by size_fits)
 simp only [raiseNew]
 refine wpAny_bind (wpAny_handled ?_)
 first | rw [show A.in1.handled=none from hh] | rw [hh]
 refine wpAny_bind (wpAny_pure (wpAny_throw ?_))
 exact hE _ _ (((Heap.SameBut.update ..).extBut.push _).push _) ⟨_,Heap.get?_push_size _ rfl,rfl⟩
end
theorem Xa {P:Program} {w:World} (i t:Addr):Sub P w i (fun k h=>h.IsTupleIter i t k) (fun h get=>∃ items:Array Value,h.IsTuple t items∧∀ k,get k=items[k]?) where
 obj:=fun k h ⟨o,e,c,d⟩=>⟨o,e,fun v z=>by rw [d] at z;cases z⟩
 keep:=fun k h h' st q=>st.at q
 item:=fun A k s get x Q E st ⟨items,ht,hg⟩ hx hQ=>Vh st ht ((hg k).symm.trans hx) fun h' st' sb=>hQ h' s.toks st' sb
 fin:=fun A k s get Q E hh st ⟨items,ht,hg⟩ hx hE=>Vo hh st ht ((hg k).symm.trans hx) hE
theorem Ycg {P:Program} {w:World} (i t:Addr):Sub P w i (fun k h=>h.IsListIter i t k) (fun h get=>∃ items:Array Value,h.IsList t items∧∀ k,get k=items[k]?) where
 obj:=fun k h ⟨o,e,c,d⟩=>⟨o,e,fun v z=>by rw [d] at z;cases z⟩
 keep:=fun k h h' st q=>st.at q
 item:=fun A k s get x Q E st ⟨items,ht,hg⟩ hx hQ=>wpAny_nextOf_list_item st ht ((hg k).symm.trans hx) fun h' st' sb=>hQ h' s.toks st' sb
 fin:=fun A k s get Q E hh st ⟨items,ht,hg⟩ hx hE=>wpAny_nextOf_list_end hh st ht ((hg k).symm.trans hx) hE
structure ZApart (z TI TO i1 i2:Addr):Prop where
 a:TI≠z
 b:TO≠z
 c:i1≠z
 d:i2≠z
 e:TI≠TO
 f:TI≠i1
 g:TI≠i2
 h:TO≠i1
 i:TO≠i2
 j:i1≠i2
section
variable {prog:Program} {w:World} {A:Around} {E:Value→Shared→Prop} {s:Shared} {z TI TO i1 i2:Addr} {S1 S2:Nat→Heap→Prop} {R1 R2:Heap→(Nat→Option Value)→Prop} {g1 g2:Nat→Option Value} {k:Nat} {a b:Value}
theorem Qc {x y:Value} {Q:Option Value→Shared→Prop} (D:ZApart z TI TO i1 i2) (U1:Sub prog w i1 S1 R1) (U2:Sub prog w i2 S2 R2)
  (k1:∀ h h' g,R1 h g→(∀ c o,c≠z→c≠TO→c≠i1→c≠i2→h.get? c=some o→h'.get? c=some o)→R1 h' g) (k2:∀ h h' g,R2 h g→(∀ c o,c≠z→c≠TO→c≠i1→c≠i2→h.get? c=some o→h'.get? c=some o)→R2 h' g)
  (hz:IsZip s.heap z TI TO .none) (hTI:IsPair s.heap TI (.ref i1) (.ref i2)) (hTO:IsPair s.heap TO a b) (h1:S1 k s.heap) (h2:S2 k s.heap) (r1:R1 s.heap g1) (r2:R2 s.heap g2) (hx:g1 k=some x) (hy:g2 k=some y)
  (hQ:∀ h' tk,IsZip h' z TI TO (rawInt s.heap.objs.size)→IsPair h' TO x y→S1 (k+1) h'→S2 (k+1) h'→IsPair h' s.heap.objs.size x y→h'.objs.size=s.heap.objs.size+1 →
   (∀ c o,c≠z→c≠TO→c≠i1→c≠i2→s.heap.get? c=some o→h'.get? c=some o)→Q (some (.ref s.heap.objs.size)) { s with heap:=h',toks:=tk }) :
  wpAny (model prog w) A (pyNext (.ref z)) Q E s:=by
 have hT:s.TypeIs (.ref z) "zip":=⟨_,hz,rfl⟩
 unfold pyNext
 refine wpAny_bind (wpAny_attempt (wpAny_callSpecial?_slot (name:=Str.ofString "__next__") hT F.slot_zip_next (wpAny_call_entry F.slot_zip_next hT F.entry_zip_next ?_ (F.args_zip_next_1 _))))
 show wpAny _ _ (field (.ref z) 2 >>= _) _ _ _
 refine wpAny_bind (wpAny_field hz rfl (x := .bool false) rfl ?_)
 show wpAny _ _ (field (.ref z) 3 >>= _) _ _ _
 refine wpAny_bind (wpAny_field hz rfl (x := .ref TI) rfl ?_)
 refine wpAny_bind (wpAny_seqItems hTI rfl ?_)
 show wpAny _ _ (Builtin.SmallTypes.ownedTupleIsFree (.ref z) >>= _) _ _ _
 refine wpAny_bind ?_
 unfold Builtin.SmallTypes.ownedTupleIsFree
 refine wpAny_bind (wpAny_field hz rfl (x := .none) rfl (wpAny_pure ?_))
 simp only [if_true]
 refine wpAny_bind (wpAny_rule ?_)
 refine wpAny_bind (wpAny_field hz rfl (x := .ref TO) rfl ?_)
 refine wpAny_bind (wpAny_setField_rec hz (by simp) fun h₁ hz₁ hs₁=>?_)
 replace hz₁:IsZip h₁ z TI TO .ellipsis:=hz₁
 refine wpAny_bind ?_
 simp only [List.zipIdx_cons,List.zipIdx_nil,List.forIn_cons,List.forIn_nil]
 refine wpAny_bind (wpAny_bind (wpAny_onRaise ?_))
 show wpAny _ _ (Builtin.SmallTypes.nextOf (.ref i1) >>= _) _ _ _
 have S1₁:S1 k h₁:=U1.keep _ _ _ h1 fun o e=>hs₁.extBut _ _ D.c e
 have R1₁:R1 h₁ g1:=k1 _ _ _ r1 fun c o c1 _ _ _ e=>hs₁.extBut _ _ c1 e
 refine wpAny_bind (U1.item _ k { s with heap:=h₁ } g1 x _ _ S1₁ R1₁ hx fun h₂ tk₂ S1₂ hs₂=>wpAny_pure ?_)
 have hTO₂:IsPair h₂ TO a b:=hs₂.extBut _ _ D.h (hs₁.extBut _ _ D.b hTO)
 refine wpAny_bind (wpAny_seqItems hTO₂ rfl ?_)
 refine wpAny_bind (wpAny_updateSeq_pair hTO₂ fun h₃ hTO₃ hs₃=>?_)
 replace hTO₃:IsPair h₃ TO x b:=hTO₃
 refine wpAny_bind (wpAny_letGo (wpAny_pure ?_))
 refine wpAny_bind (wpAny_bind (wpAny_onRaise ?_))
 show wpAny _ _ (Builtin.SmallTypes.nextOf (.ref i2) >>= _) _ _ _
 have kk₃:∀ c o,c≠z→c≠TO→c≠i1→c≠i2→s.heap.get? c=some o→h₃.get? c=some o:=fun c o c1 c2 c3 c4 e=>hs₃.extBut _ _ c2 (hs₂.extBut _ _ c3 (hs₁.extBut _ _ c1 e))
 have S2₃:S2 k h₃:=U2.keep _ _ _ h2 fun o e=>hs₃.extBut _ _ D.i.symm (hs₂.extBut _ _ D.j.symm (hs₁.extBut _ _ D.d e))
 refine wpAny_bind (U2.item _ k { s with heap:=h₃,toks:=tk₂ } g2 y _ _ S2₃ (k2 _ _ _ r2 kk₃) hy fun h₄ tk₄ S2₄ hs₄=>wpAny_pure ?_)
 have hTO₄:IsPair h₄ TO x b:=hs₄.extBut _ _ D.i hTO₃
 refine wpAny_bind (wpAny_seqItems hTO₄ rfl ?_)
 refine wpAny_bind (wpAny_updateSeq_pair hTO₄ fun h₅ hTO₅ hs₅=>?_)
 replace hTO₅:IsPair h₅ TO x y:=hTO₅
 refine wpAny_bind (wpAny_letGo (wpAny_pure (wpAny_pure ?_)))
 refine wpAny_bind (wpAny_seqItems hTO₅ rfl ?_)
 refine wpAny_bind (wpAny_newTuple ?_)
 have hsz:h₅.objs.size=s.heap.objs.size:=by rw [hs₅.1,hs₄.1,hs₃.1,hs₂.1,hs₁.1]
 have hz₅:IsZip h₅ z TI TO .ellipsis:=hs₅.extBut _ _ D.b.symm (hs₄.extBut _ _ D.d.symm (hs₃.extBut _ _ D.b.symm (hs₂.extBut _ _ D.c.symm hz₁)))
 have hk₅:∀ c o,c≠z→c≠TO→c≠i1→c≠i2→s.heap.get? c=some o→h₅.get? c=some o:=fun c o c1 c2 c3 c4 e=>hs₅.extBut _ _ c2 (hs₄.extBut _ _ c4 (kk₃ c o c1 c2 c3 c4 e))
 have S1₅:S1 (k+1) h₅:=U1.keep _ _ _ S1₂ fun o e=>hs₅.extBut _ _ D.h.symm (hs₄.extBut _ _ D.j (hs₃.extBut _ _ D.h.symm e))
 have S2₅:S2 (k+1) h₅:=U2.keep _ _ _ S2₄ fun o e=>hs₅.extBut _ _ D.i.symm e
 have hzlt:z<h₅.objs.size:=Heap.lt_size hz₅
 show wpAny _ _ (Builtin.SmallTypes.ownedTupleHandOut (.ref z) (.ref h₅.objs.size) >>= _) _ _ _
 refine wpAny_bind ?_
 unfold Builtin.SmallTypes.ownedTupleHandOut
 have hz₆:IsZip (h₅.push { cls := .type "tuple",data := .seq #[x,y] }) z TI TO .ellipsis:=Heap.get?_push_of_some _ hz₅
 refine wpAny_bind (wpAny_setField_rec hz₆ (by simp) fun h₇ hz₇ hs₇=>?_)
 replace hz₇:IsZip h₇ z TI TO (rawInt h₅.objs.size):=hz₇
 refine wpAny_setField_rec hz₇ (by simp) fun h₈ hz₈ hs₈=>?_
 replace hz₈:IsZip h₈ z TI TO (rawInt h₅.objs.size):=hz₈
 have up:∀ c o,c≠z→h₅.get? c=some o→h₈.get? c=some o:=fun c o c1 e=>hs₈.extBut _ _ c1 (hs₇.extBut _ _ c1 (Heap.get?_push_of_some _ e))
 have hT₈:IsPair h₈ h₅.objs.size x y:=hs₈.extBut _ _ (Nat.ne_of_gt hzlt) (hs₇.extBut _ _ (Nat.ne_of_gt hzlt) (Heap.get?_push_size _ rfl))
 have hz8:h₈.objs.size=h₅.objs.size+1:=by rw [hs₈.1,hs₇.1,Heap.size_push]
 rw [hsz] at hz₈ hT₈ hz8
 refine wpAny_pure ⟨_,rfl,wpAny_pure ?_⟩
 show Q (some (.ref h₅.objs.size)) _
 rw [hsz]
 exact hQ h₈ tk₄ hz₈ (up _ _ D.b hTO₅) (U1.keep _ _ _ S1₅ fun o e=>up _ o D.c e) (U2.keep _ _ _ S2₅ fun o e=>up _ o D.d e) hT₈ hz8 fun c o c1 c2 c3 c4 e=>up c o c1 (hk₅ c o c1 c2 c3 c4 e)
theorem Yaj {Q:Option Value→Shared→Prop} (hh:A.handled=none) (D:ZApart z TI TO i1 i2) (U1:Sub prog w i1 S1 R1) (U2:Sub prog w i2 S2 R2)
  (k1:∀ h h' g,R1 h g→(∀ c o,c≠z→c≠TO→c≠i1→c≠i2→h.get? c=some o→h'.get? c=some o)→R1 h' g) (k2:∀ h h' g,R2 h g→(∀ c o,c≠z→c≠TO→c≠i1→c≠i2→h.get? c=some o→h'.get? c=some o)→R2 h' g)
  (hz:IsZip s.heap z TI TO .none) (hTI:IsPair s.heap TI (.ref i1) (.ref i2)) (hTO:IsPair s.heap TO a b) (h1:S1 k s.heap) (h2:S2 k s.heap) (r1:R1 s.heap g1) (r2:R2 s.heap g2) (hend:g1 k=none∨g2 k=none)
  (hQ:∀ h' tk,(∀ c o,c≠z→c≠TO→c≠i1→c≠i2→s.heap.get? c=some o→h'.get? c=some o)→Q none { s with heap:=h',toks:=tk }):wpAny (model prog w) A (pyNext (.ref z)) Q E s:=by
 have hT:s.TypeIs (.ref z) "zip":=⟨_,hz,rfl⟩
 unfold pyNext
 refine wpAny_bind (wpAny_attempt (wpAny_callSpecial?_slot (name:=Str.ofString "__next__") hT F.slot_zip_next (wpAny_call_entry F.slot_zip_next hT F.entry_zip_next ?_ (F.args_zip_next_1 _))))
 show wpAny _ _ (field (.ref z) 2 >>= _) _ _ _
 refine wpAny_bind (wpAny_field hz rfl (x := .bool false) rfl ?_)
 show wpAny _ _ (field (.ref z) 3 >>= _) _ _ _
 refine wpAny_bind (wpAny_field hz rfl (x := .ref TI) rfl ?_)
 refine wpAny_bind (wpAny_seqItems hTI rfl ?_)
 show wpAny _ _ (Builtin.SmallTypes.ownedTupleIsFree (.ref z) >>= _) _ _ _
 refine wpAny_bind ?_
 unfold Builtin.SmallTypes.ownedTupleIsFree
 refine wpAny_bind (wpAny_field hz rfl (x := .none) rfl (wpAny_pure ?_))
 simp only [if_true]
 refine wpAny_bind (wpAny_rule ?_)
 refine wpAny_bind (wpAny_field hz rfl (x := .ref TO) rfl ?_)
 refine wpAny_bind (wpAny_setField_rec hz (by simp) fun h₁ hz₁ hs₁=>?_)
 replace hz₁:IsZip h₁ z TI TO .ellipsis:=hz₁
 refine wpAny_bind ?_
 simp only [List.zipIdx_cons,List.zipIdx_nil,List.forIn_cons,List.forIn_nil]
 refine wpAny_bind (wpAny_bind (wpAny_onRaise ?_))
 show wpAny _ _ (Builtin.SmallTypes.nextOf (.ref i1) >>= _) _ _ _
 have S1₁:S1 k h₁:=U1.keep _ _ _ h1 fun o e=>hs₁.extBut _ _ D.c e
 have R1₁:R1 h₁ g1:=k1 _ _ _ r1 fun c o c1 _ _ _ e=>hs₁.extBut _ _ c1 e
 cases hx:g1 k with
 | none =>
  refine wpAny_bind (U1.fin _ k { s with heap:=h₁ } g1 _ _ hh S1₁ R1₁ hx fun h₂ e hs₂ he=>?_)
  obtain ⟨oe,hoe,hce⟩:=he
  have hz₂:IsZip h₂ z TI TO .ellipsis:=hs₂ _ _ D.c.symm hz₁
  have hez:e≠z:=fun x=>by subst x;rw [hz₂] at hoe;cases hoe;simp at hce
  refine wpAny_setField_rec hz₂ (by simp) fun h₃ _ hs₃=>?_
  refine wpAny_bind (wpAny_isInstance (T:="StopIteration") (b:=true) ⟨oe,hs₃.extBut _ _ hez hoe,hce⟩ isSubtype_stop ?_)
  exact wpAny_pure (hQ h₃ s.toks fun c o c1 _ c3 _ x=>hs₃.extBut _ _ c1 (hs₂ _ _ c3 (hs₁.extBut _ _ c1 x)))
 | some x =>
  have hy:g2 k=none:=by rcases hend with h | h;rw [hx] at h;cases h;exact h
  refine wpAny_bind (U1.item _ k { s with heap:=h₁ } g1 x _ _ S1₁ R1₁ hx fun h₂ tk₂ S1₂ hs₂=>wpAny_pure ?_)
  have hTO₂:IsPair h₂ TO a b:=hs₂.extBut _ _ D.h (hs₁.extBut _ _ D.b hTO)
  refine wpAny_bind (wpAny_seqItems hTO₂ rfl ?_)
  refine wpAny_bind (wpAny_updateSeq_pair hTO₂ fun h₃ hTO₃ hs₃=>?_)
  refine wpAny_bind (wpAny_letGo (wpAny_pure ?_))
  refine wpAny_bind (wpAny_bind (wpAny_onRaise ?_))
  show wpAny _ _ (Builtin.SmallTypes.nextOf (.ref i2) >>= _) _ _ _
  have kk₃:∀ c o,c≠z→c≠TO→c≠i1→c≠i2→s.heap.get? c=some o→h₃.get? c=some o:=fun c o c1 c2 c3 c4 e=>hs₃.extBut _ _ c2 (hs₂.extBut _ _ c3 (hs₁.extBut _ _ c1 e))
  have S2₃:S2 k h₃:=U2.keep _ _ _ h2 fun o e=>hs₃.extBut _ _ D.i.symm (hs₂.extBut _ _ D.j.symm (hs₁.extBut _ _ D.d e))
  refine wpAny_bind (U2.fin _ k { s with heap:=h₃,toks:=tk₂ } g2 _ _ hh S2₃ (k2 _ _ _ r2 kk₃) hy fun h₄ e hs₄ he=>?_)
  obtain ⟨oe,hoe,hce⟩:=he
  have hz₄:IsZip h₄ z TI TO .ellipsis:=hs₄ _ _ D.d.symm (hs₃.extBut _ _ D.b.symm (hs₂.extBut _ _ D.c.symm hz₁))
  have hez:e≠z:=fun x=>by subst x;rw [hz₄] at hoe;cases hoe;simp at hce
  refine wpAny_setField_rec hz₄ (by simp) fun h₅ _ hs₅=>?_
  refine wpAny_bind (wpAny_isInstance (T:="StopIteration") (b:=true) ⟨oe,hs₅.extBut _ _ hez hoe,hce⟩ isSubtype_stop ?_)
  exact wpAny_pure (hQ h₅ tk₂ fun c o c1 c2 c3 c4 x=>hs₅.extBut _ _ c1 (hs₄ _ _ c4 (kk₃ c o c1 c2 c3 c4 x)))
end
end L2
namespace L2
open PySem PySem.Spec PyProof.Rows
abbrev zpH (h:Heap) (o1 o2:Obj):Heap:=((h.push o1).push o2)
abbrev zpT (h:Heap) (o1 o2:Obj):Heap:=(zpH h o1 o2).push { cls := .type "tuple",data := .seq #[.ref h.objs.size,.ref (h.push o1).objs.size] }
abbrev zpO (h:Heap) (o1 o2:Obj):Heap:=(zpT h o1 o2).push { cls := .type "tuple",data := .seq #[.none,.none] }
abbrev zpZ (h:Heap) (o1 o2:Obj):Heap:=(zpO h o1 o2).push { cls := .type "zip",data := .fields #[.none,.bool false,.bool false,.ref (zpH h o1 o2).objs.size,.ref (zpT h o1 o2).objs.size] }
def Xy (h:Heap) (v:Value) (o:Obj):Prop:=∀ (prog:Program) (w:World) (A:Around) (E:Value→Shared→Prop) (s:Shared) (Q:Value→Shared→Prop),(∀ b ob,h.get? b=some ob→s.heap.get? b=some ob) →
 Q (.ref s.heap.objs.size) { s with heap:=s.heap.push o }→wpAny (model prog w) A (pyIter v) Q E s
theorem WT {h:Heap} {t:Addr} {items:Array Value} (ht:h.IsTuple t items):Xy h (.ref t) { cls := .type "tuple_iterator",data := .fields #[.ref t,.int 0 0] }:=fun prog w A E s Q k q=>by
 obtain ⟨o,e,r⟩:=ht
 exact wpAny_pyIter_tuple (items:=items) ⟨o,k _ _ e,r⟩ q
theorem W0 {h:Heap} {t:Addr} {items:Array Value} (ht:h.IsList t items):Xy h (.ref t) { cls := .type "list_iterator",data := .fields #[.ref t,.int 0 0] }:=fun prog w A E s Q k q=>by
 obtain ⟨o,e,r⟩:=ht
 exact wpAny_pyIter_list (items:=items) ⟨o,k _ _ e,r⟩ q
theorem YaL (v1 v2:Value) (o1 o2:Obj) :
  Meets (Builtin.«zip.__new__» ⟨[.type "zip",v1,v2],[]⟩) (fun _ R s=>Xy s.heap v1 o1∧Xy s.heap v2 o2∧R (.ok (.ret (.ref (zpO s.heap o1 o2).objs.size))) { s with heap:=zpZ s.heap o1 o2 }) :=
 .of_wp fun prog w A R s h=>by
  obtain ⟨hp,g,d,tk,os⟩:=s
  obtain ⟨h1,h2,h⟩:=h
  have hsub:=sub_zip
  have p1:∀ {A':Around} {E:Value→Shared→Prop} {Q:Value→Shared→Prop},Q (.ref hp.objs.size) ⟨hp.push o1,g,d,tk,os⟩→wpAny (model prog w) A' (pyIter v1) Q E ⟨hp,g,d,tk,os⟩:=fun q=>h1 prog w _ _ ⟨hp,g,d,tk,os⟩ _ (fun _ _ e=>e) q
  have p2:∀ {A':Around} {E:Value→Shared→Prop} {Q:Value→Shared→Prop},Q (.ref (hp.push o1).objs.size) ⟨(hp.push o1).push o2,g,d,tk,os⟩→wpAny (model prog w) A' (pyIter v2) Q E ⟨hp.push o1,g,d,tk,os⟩:=fun q=>h2 prog w _ _ ⟨hp.push o1,g,d,tk,os⟩ _ (fun _ _ e=>Heap.get?_push_of_some _ e) q
  wp_walk using p1,p2
  exact ⟨_,rfl,h⟩
section
variable {prog:Program} {w:World} {A:Around} {E:Value→Shared→Prop} {s:Shared}
theorem Uq {v1 v2:Value} {o1 o2:Obj} {Q:Value→Shared→Prop} (p1:Xy s.heap v1 o1) (p2:Xy s.heap v2 o2) (f1:o1.isFreed=false) (f2:o2.isFreed=false)
  (h:∀ h',IsZip h' (s.heap.objs.size+4) (s.heap.objs.size+2) (s.heap.objs.size+3) .none→IsPair h' (s.heap.objs.size+2) (.ref s.heap.objs.size) (.ref (s.heap.objs.size+1))→IsPair h' (s.heap.objs.size+3) .none .none →
   h'.get? s.heap.objs.size=some o1→h'.get? (s.heap.objs.size+1)=some o2→h'.objs.size=s.heap.objs.size+5→(∀ c o,s.heap.get? c=some o→h'.get? c=some o)→Q (.ref (s.heap.objs.size+4)) { s with heap:=h' }) :
  wpAny (model prog w) A (call (.type "zip") [v1,v2]) Q E s:=by
 refine callType_new F.called_zip (by decide) (F.typeCall_zip_2 _ _) (F.newCall_zip_2 _ _) (fun obj=>F.args_object_init_3 obj _ _) F.entry_zip_new (YaL v1 v2 o1 o2) ⟨p1,p2,?_⟩
 have z1:(s.heap.push o1).objs.size=s.heap.objs.size+1:=Heap.size_push ..
 have z2:(zpH s.heap o1 o2).objs.size=s.heap.objs.size+2:=by rw [Heap.size_push,z1]
 have z3:(zpT s.heap o1 o2).objs.size=s.heap.objs.size+3:=by rw [Heap.size_push,z2]
 have z4:(zpO s.heap o1 o2).objs.size=s.heap.objs.size+4:=by rw [Heap.size_push,z3]
 have z5:(zpZ s.heap o1 o2).objs.size=s.heap.objs.size+5:=by rw [Heap.size_push,z4]
 have g5:(zpZ s.heap o1 o2).get? (zpO s.heap o1 o2).objs.size=some _:=Heap.get?_push_size _ rfl
 have g4:(zpZ s.heap o1 o2).get? (zpT s.heap o1 o2).objs.size=some _:=Heap.get?_push_of_some _ (Heap.get?_push_size _ rfl)
 have g3:(zpZ s.heap o1 o2).get? (zpH s.heap o1 o2).objs.size=some _:=Heap.get?_push_of_some _ (Heap.get?_push_of_some _ (Heap.get?_push_size _ rfl))
 have g2:(zpZ s.heap o1 o2).get? (s.heap.push o1).objs.size=some o2:=Heap.get?_push_of_some _ (Heap.get?_push_of_some _ (Heap.get?_push_of_some _ (Heap.get?_push_size _ f2)))
 have g1:(zpZ s.heap o1 o2).get? s.heap.objs.size=some o1:=Heap.get?_push_of_some _ (Heap.get?_push_of_some _ (Heap.get?_push_of_some _ (Heap.get?_push_of_some _ (Heap.get?_push_size _ f1))))
 show _∧_
 rw [z2,z3,z4] at g5
 rw [z1,z2] at g3
 rw [z3] at g4
 rw [z1] at g2
 rw [z4]
 exact ⟨⟨_,g5,rfl⟩,h _ g5 g3 g4 g1 g2 z5 fun c o x=>Heap.get?_push_of_some _ (Heap.get?_push_of_some _ (Heap.get?_push_of_some _ (Heap.get?_push_of_some _ (Heap.get?_push_of_some _ x))))⟩
end
section
variable {X:Cx} {pins:List (Addr×Obj)} {σ:St} {H:Hp} {s:Shared} {h':Heap}
theorem Inv.turnedL {t':Nat} {ch:List Addr} (I:Inv X pins σ H s) (k:∀ b o,b∉ch→s.heap.get? b=some o→h'.get? b=some o) (hf:∀ b∈ch,Xr X pins H b):Inv X pins σ H { s with heap:=h',toks:=t' }:=by
 have nit:∀ b u,H b=some u→b∉ch:=fun b u e z=>by rw [(hf b z).1] at e;cases e
 refine I.step (g':=s.gens) (d':=s.drawn) (ch:=ch) (fun b hb=>?_) (fun b o _ _ hc e _=>k b o hc e) (fun b o _ _ hc e _=>⟨o.slots,k b o hc e⟩) (fun _ _ _ _ n=>n)
  (fun b o hc e=>⟨o,k b o hc e⟩) (fun _ _ e=>e) (fun _ _ _ e=>e) (fun b ps e=>⟨#[],by rw [e];simp⟩) (fun m hm=>?_) (fun b u e=>?_) I.bare
 ·obtain ⟨f0,f1,f2,f3,f4,f5⟩:=hf b hb
  exact ⟨f3,f1,f4,f5⟩
 ·obtain ⟨o,es,ep,ho,r⟩:=hm
  exact ⟨o,es,ep,k _ o (fun z=>(hf _ z).2.1 rfl) ho,r⟩
 ·refine (I.hok b u e).stay (fun c v hc q=>k c v ?_ q) (fun _ q=>q) fun _ _ q=>q
  rcases hc with z | z
  ·rw [z];exact nit b u e
  ·exact nit c _ z
theorem Inv.turnedT {t':Nat} {ch:List Addr} {T:Addr} {vs:List V} (I:Inv X pins σ H s) (k:∀ b o,b∉ch→s.heap.get? b=some o→h'.get? b=some o) (hf:∀ b∈ch,Xr X pins H b) (hT:s.heap.objs.size≤T)
  (new:YJ X.prog X.w (upd H T (.tup vs)) h' T (.tup vs)):Inv X pins σ (upd H T (.tup vs)) { s with heap:=h',toks:=t' }:=by
 have hn:H T=none:=I.hok.fresh hT
 have nit:∀ b u,H b=some u→b∉ch:=fun b u e z=>by rw [(hf b z).1] at e;cases e
 have nT:∀ b o,s.heap.get? b=some o→b≠T:=fun b o e z=>absurd (Heap.lt_size e) (by rw [z];exact Nat.not_lt.mpr hT)
 have up:∀ b u,H b=some u→upd H T (.tup vs) b=some u:=fun b u e=>by rw [Yh (Yv e hn)];exact e
 refine I.step (g':=s.gens) (d':=s.drawn) (ch:=ch) (fun b hb=>?_) (fun b o _ _ hc e _=>k b o hc e) (fun b o _ _ hc e _=>⟨o.slots,k b o hc e⟩) (fun b o _ e n=>by rw [Yh (nT b o e)];exact n)
  (fun b o hc e=>⟨o,k b o hc e⟩) (fun b xs e=>up b _ e) (fun b o u e=>up b _ e) (fun b ps e=>⟨#[],by rw [up b _ e];simp⟩) (fun m hm=>?_) (fun b u e=>?_) I.bare
 ·obtain ⟨f0,f1,f2,f3,f4,f5⟩:=hf b hb
  exact ⟨f3,f1,f4,f5⟩
 ·obtain ⟨o,es,ep,ho,r⟩:=hm
  exact ⟨o,es,ep,k _ o (fun z=>(hf _ z).2.1 rfl) ho,r⟩
 ·by_cases hb:b=T
  ·subst hb;rw [Yc] at e;cases e;exact new
  ·rw [Yh hb] at e
   refine (I.hok b u e).stay (fun c v hc q=>k c v ?_ q) (fun c q=>up c _ q) fun c xs q=>up c _ q
   rcases hc with z | z
   ·rw [z];exact nit b u e
   ·exact nit c _ z
end
def Itz (G1 G2:Hp→List V→Prop):It :=
 ⟨fun i H=>∃ xs ys x y,G1 H xs∧G2 H ys∧xs[i]?=some x∧ys[i]?=some y,fun i H v H'=>∃ T,v = .ref T∧H T=none∧∀ xs ys x y,G1 H xs→G2 H ys→xs[i]?=some x→ys[i]?=some y→H'=upd H T (.tup [x,y]),
  fun i H=>∃ xs ys,G1 H xs∧G2 H ys∧(xs.length≤i∨ys.length≤i)⟩
structure Part (K:PySem.W.Frag) (G:Hp→List V→Prop) (Si:Addr→Nat→Heap→Prop) (R:Heap→(Nat→Option Value)→Prop) (own:Addr):Prop where
 sub:∀ (P:Program) (w:World) (i:Addr),Sub P w i (Si i) R
 ready:∀ (X:Cx),X.K=K→∀ (pins:List (Addr×Obj)) (σ:St) (H:Hp) (s:Shared) (xs:List V),Inv X pins σ H s→G H xs→∃ us:List Value,Yn xs us∧R s.heap (fun k=>us[k]?)
 inj:∀ (X:Cx),X.K=K→∀ (pins:List (Addr×Obj)) (σ:St) (H:Hp) (s:Shared) (xs ys:List V),Inv X pins σ H s→G H xs→G H ys→xs=ys
 keep:∀ h h' g,R h g→(∀ o,h.get? own=some o→h'.get? own=some o)→R h' g
theorem Ur {K:PySem.W.Frag} (a:Addr):Part K (fun H xs=>SqL K H a xs) (fun i k h=>h.IsListIter i a k) (fun h get=>∃ items:Array Value,h.IsList a items∧∀ k,get k=items[k]?) a where
 sub:=fun P w i=>Ycg i a
 ready:=fun X hK pins σ H s xs I hq=>by
  subst hK
  obtain ⟨its,r,ht,_⟩:=I.list hq
  exact ⟨its,r,its.toArray,ht.isList,fun k=>by simp⟩
 inj:=fun X hK pins σ H s xs ys I h1 h2=>by subst hK;exact I.list_inj h1 h2
 keep:=fun h h' g ⟨items,⟨o,e,r⟩,q⟩ k=>⟨items,⟨o,k o e,r⟩,q⟩
theorem Ych {P:Program} {w:World} {K:PySem.W.Frag} {elts:List Expr} {kk:Nat} {pos:Pos} {G1 G2:Hp→List V→Prop} {S1 S2:Addr→Nat→Heap→Prop} {R1 R2:Heap→(Nat→Option Value)→Prop} {a1 a2:Addr}
  (p1:Part K G1 S1 R1 a1) (p2:Part K G2 S2 R2 a2) {z TI TO i1 i2:Addr} (D:ZApart z TI TO i1 i2) (n1:a1∉[z,TO,i1,i2]) (n2:a2∉[z,TO,i1,i2]) :
  Turn P w K (.Tuple elts kk pos) (Itz G1 G2) [z,TI,TO,i1,i2] z (fun i h=>IsZip h z TI TO .none∧IsPair h TI (.ref i1) (.ref i2)∧(∃ a b,IsPair h TO a b)∧S1 i1 i h∧S2 i2 i h) where
 mem:=by simp
 obj:=fun i h ⟨hz,hTI,⟨a,b,hTO⟩,h1,h2⟩ c hc=>by
  simp only [List.mem_cons,List.not_mem_nil,or_false] at hc
  rcases hc with rfl | rfl | rfl | rfl | rfl
  ·exact ⟨_,hz,fun v e=>by cases e⟩
  ·exact ⟨_,hTI,fun v e=>by cases e⟩
  ·exact ⟨_,hTO,fun v e=>by cases e⟩
  ·exact (p1.sub P w _).obj _ _ h1
  ·exact (p2.sub P w _).obj _ _ h2
 keep:=fun i h h' ⟨hz,hTI,⟨a,b,hTO⟩,h1,h2⟩ q =>
  ⟨q z (by simp) _ hz,q TI (by simp) _ hTI,⟨a,b,q TO (by simp) _ hTO⟩,(p1.sub P w i1).keep _ _ _ h1 (q i1 (by simp)),(p2.sub P w i2).keep _ _ _ h2 (q i2 (by simp))⟩
 item:=by
  intro X hP hw hK hc i pins s σ H E I hf ⟨hz,hTI,⟨a,b,hTO⟩,h1,h2⟩ hg
  subst hP hw
  obtain ⟨xs,ys,x,y,g1,g2,hx,hy⟩:=hg
  obtain ⟨us1,r1,rd1⟩:=p1.ready X hK pins σ H s xs I g1
  obtain ⟨us2,r2,rd2⟩:=p2.ready X hK pins σ H s ys I g2
  obtain ⟨u,hu,ru⟩:=r1.get hx
  obtain ⟨v,hv,rv⟩:=r2.get hy
  have out:∀ c,c≠z→c≠TO→c≠i1→c≠i2→c∉[z,TO,i1,i2]:=fun c c1 c2 c3 c4 hm=>by
   simp only [List.mem_cons,List.not_mem_nil,or_false] at hm
   rcases hm with e | e | e | e<;>contradiction
  have sep:∀ {c:Addr},c∉[z,TO,i1,i2]→c≠z∧c≠TO∧c≠i1∧c≠i2:=fun hm=>⟨fun e=>hm (by simp [e]),fun e=>hm (by simp [e]),fun e=>hm (by simp [e]),fun e=>hm (by simp [e])⟩
  obtain ⟨m1,m2,m3,m4⟩:=sep n1
  obtain ⟨m5,m6,m7,m8⟩:=sep n2
  refine Qc (k:=i) D (p1.sub _ _ i1) (p2.sub _ _ i2) (fun h h' g r q=>p1.keep _ _ _ r fun o e=>q a1 o m1 m2 m3 m4 e) (fun h h' g r q=>p2.keep _ _ _ r fun o e=>q a2 o m5 m6 m7 m8 e) hz hTI hTO h1 h2 rd1 rd2 hu hv fun h' tk hz' hTO' h1' h2' hT' hsz keep=>?_
  refine ⟨_,rfl,?_⟩
  refine wpAny_letOwnedTupleGo_zip (s:={ s with heap:=h',toks:=tk }) hz' fun h'' hz'' sb=>?_
  have zlt:z<s.heap.objs.size:=Heap.lt_size hz
  have kp:∀ c o,c∉[z,TO,i1,i2]→s.heap.get? c=some o→h''.get? c=some o:=fun c o hm e=>by
   obtain ⟨c1,c2,c3,c4⟩:=sep hm
   exact sb.extBut c o c1 (keep c o c1 c2 c3 c4 e)
  have hT'':IsPair h'' s.heap.objs.size u v:=sb.extBut _ _ (Nat.ne_of_gt zlt) hT'
  have fp4:∀ c∈[z,TO,i1,i2],Xr X pins H c:=fun c hm=>hf c (by
   simp only [List.mem_cons,List.not_mem_nil,or_false] at hm ⊢
   rcases hm with e | e | e | e<;>simp [e])
  have I':=I.turnedT (t':=tk) (h':=h'') (T:=s.heap.objs.size) (vs:=[x,y]) kp fp4 (Nat.le_refl _) (show YJ X.prog X.w _ h'' _ (.tup [x,y]) from ⟨by show 2≤sizeLine;decide,[u,v],.cons ru (.cons rv .nil),_,hT'',rfl,_,rfl⟩)
  have fresh:H s.heap.objs.size=none:=I.hok.fresh (Nat.le_refl _)
  refine ⟨.ref s.heap.objs.size,_,I',rfl,⟨_,rfl,fresh,fun xs' ys' x' y' g1' g2' hx' hy'=>?_⟩,⟨hz'',sb.extBut _ _ D.a (keep _ _ D.a D.e D.f D.g hTI),⟨_,_,sb.extBut _ _ D.b hTO'⟩,(p1.sub X.prog X.w i1).keep _ _ _ h1' fun o e=>sb.extBut _ _ D.c e,(p2.sub X.prog X.w i2).keep _ _ _ h2' fun o e=>sb.extBut _ _ D.d e⟩,fun c hm=>?_⟩
  ·rw [p1.inj X hK pins σ H s _ _ I g1' g1,hx] at hx'
   rw [p2.inj X hK pins σ H s _ _ I g2' g2,hy] at hy'
   cases hx'
   cases hy'
   rfl
  ·have h0:=(hf c hm).1
   have clt:c<s.heap.objs.size:=by
    simp only [List.mem_cons,List.not_mem_nil,or_false] at hm
    rcases hm with rfl | rfl | rfl | rfl | rfl
    ·exact zlt
    ·exact Heap.lt_size hTI
    ·exact Heap.lt_size hTO
    ·obtain ⟨o,e,_⟩:=(p1.sub X.prog X.w _).obj _ _ h1;exact Heap.lt_size e
    ·obtain ⟨o,e,_⟩:=(p2.sub X.prog X.w _).obj _ _ h2;exact Heap.lt_size e
   rw [Yh (Nat.ne_of_lt clt)]
   exact h0
 done:=by
  intro X hP hw hK hc i pins s σ H E I hf ⟨hz,hTI,⟨a,b,hTO⟩,h1,h2⟩ hg
  subst hP hw
  obtain ⟨xs,ys,g1,g2,hend⟩:=hg
  obtain ⟨us1,r1,rd1⟩:=p1.ready X hK pins σ H s xs I g1
  obtain ⟨us2,r2,rd2⟩:=p2.ready X hK pins σ H s ys I g2
  have sep:∀ {c:Addr},c∉[z,TO,i1,i2]→c≠z∧c≠TO∧c≠i1∧c≠i2:=fun hm=>⟨fun e=>hm (by simp [e]),fun e=>hm (by simp [e]),fun e=>hm (by simp [e]),fun e=>hm (by simp [e])⟩
  obtain ⟨m1,m2,m3,m4⟩:=sep n1
  obtain ⟨m5,m6,m7,m8⟩:=sep n2
  have l1:=r1.length
  have l2:=r2.length
  refine Yaj (k:=i) (I.ok.hd hc) D (p1.sub _ _ i1) (p2.sub _ _ i2) (fun h h' g r q=>p1.keep _ _ _ r fun o e=>q a1 o m1 m2 m3 m4 e) (fun h h' g r q=>p2.keep _ _ _ r fun o e=>q a2 o m5 m6 m7 m8 e) hz hTI hTO h1 h2 rd1 rd2 ?_ fun h' tk keep=>?_
  ·rcases hend with e | e
   ·exact .inl (by simp;omega)
   ·exact .inr (by simp;omega)
  ·refine ⟨rfl,I.turnedL (ch:=[z,TO,i1,i2]) (fun c o hm e=>?_) fun c hm=>hf c (by
    simp only [List.mem_cons,List.not_mem_nil,or_false] at hm ⊢
    rcases hm with e | e | e | e<;>simp [e])⟩
   obtain ⟨c1,c2,c3,c4⟩:=sep hm
   exact keep c o c1 c2 c3 c4 e
 self:=fun A i s Q E ⟨hz,_⟩ q=>wpAny_pyIter_zip hz q
end L2
namespace L2
open PySem PySem.Spec PyProof.Rows
section
variable {X:Cx} {elts:List Expr} {kk:Nat} {tpos:Pos}
theorem Vz (n:Nat):ZApart (n+4) (n+2) (n+3) n (n+1):=by
 constructor<;>(intro e;have e':@Eq Nat _ _:=e;omega)
def YaM (K:PySem.W.Frag) (ta:TA):TI:=fun σ H R=>ta σ H fun vs H1=>∃ a b xs ys,vs=[.ref a,.ref b]∧SqL K H1 a xs∧SqL K H1 b ys∧R (Itz (fun H xs=>SqL K H a xs) (fun H ys=>SqL K H b ys)) H1
theorem Ydm {pins:List (Addr×Obj)} {σ:St} {H:Hp} {s:Shared} {R:It→Hp→Prop} {E:Value→Shared→Prop} {G1 G2:Hp→List V→Prop} {S1 S2:Addr→Nat→Heap→Prop} {R1 R2:Heap→(Nat→Option Value)→Prop} {a b:Addr} {o1 o2:Obj}
  (I:Inv X pins σ H s) (p1:Part X.K G1 S1 R1 a) (p2:Part X.K G2 S2 R2 b) (t1:Xy s.heap (.ref a) o1) (t2:Xy s.heap (.ref b) o2) (f1:o1.isFreed=false) (f2:o2.isFreed=false) (la:a<s.heap.objs.size) (lb:b<s.heap.objs.size)
  (s1:∀ h i,h.get? i=some o1→S1 i 0 h) (s2:∀ h i,h.get? i=some o2→S2 i 0 h) (q:R (Itz G1 G2) H) :
  wpAny (model X.prog X.w) X.A (call (.type "zip") [.ref a,.ref b]) (fun v s1=>wpAny (model X.prog X.w) X.A (pyIter v) (PIE X pins σ (.Tuple elts kk tpos) R) E s1) E s:=by
 refine Uq t1 t2 f1 f2 fun h' hz hTI hTO g1 g2 hsz keep=>?_
 refine wpAny_pyIter_zip hz ?_
 have I1:Inv X pins σ H { s with heap:=h' }:=I.kept (t':=s.toks) keep
 refine ⟨_,[s.heap.objs.size+4,s.heap.objs.size+2,s.heap.objs.size+3,s.heap.objs.size,s.heap.objs.size+1],_,_,H,rfl,I1,Ych (K:=X.K) p1 p2 (Vz s.heap.objs.size) ?_ ?_,⟨hz,hTI,⟨_,_,hTO⟩,s1 _ _ g1,s2 _ _ g2⟩,fun c hc=>?_,q⟩
 ·intro hm
  simp only [List.mem_cons,List.not_mem_nil,or_false] at hm
  rcases hm with e | e | e | e<;>(have e':@Eq Nat _ _:=e;have la':@LT.lt Nat _ a s.heap.objs.size:=la;have lb':@LT.lt Nat _ b s.heap.objs.size:=lb;omega)
 ·intro hm
  simp only [List.mem_cons,List.not_mem_nil,or_false] at hm
  rcases hm with e | e | e | e<;>(have e':@Eq Nat _ _:=e;have la':@LT.lt Nat _ a s.heap.objs.size:=la;have lb':@LT.lt Nat _ b s.heap.objs.size:=lb;omega)
 ·have hle:s.heap.objs.size≤c:=by
   simp only [List.mem_cons,List.not_mem_nil,or_false] at hc
   rcases hc with e | e | e | e | e<;>(have e':@Eq Nat _ _:=e;show @LE.le Nat _ s.heap.objs.size c;omega)
  exact I.fpOk hle (I.hok.fresh hle)
theorem VS {a b:Expr} {ta:TA} {p pos:Pos} (hg:Gl X "zip") (hm:X.mg "zip"=none) (ha:PA X [a,b] ta) (hs:starEach [a,b] X.env=[(false,eval a X.env),(false,eval b X.env)]) (hs2:starEach [b] X.env=[(false,eval b X.env)]) :
  PI X (.Tuple elts kk tpos) (.Call (.Name "zip" p) [a,b] [] pos) (YaM X.K ta):=by
 intro pins s σ H R I h
 refine Call_ (XA I hg hm boot_zip (PyProof.Rows.callWith_type1 (thn (ha pos pins s σ H _ I h) fun us s1 ⟨vs,H1,I1,r1,q1⟩=>?_) (by rw [hs,hs2]) (by rw [hs2];rfl)))
 obtain ⟨x,y,xs,ys,e,hx,hy,q⟩:=q1
 subst e
 obtain ⟨u,v,rfl,ru,rv⟩:=r1.two
 cases ru
 cases rv
 obtain ⟨i1,_,ht1,_⟩:=I1.list hx
 obtain ⟨i2,_,ht2,_⟩:=I1.list hy
 have l1:x<s1.heap.objs.size:=by obtain ⟨_,e,_⟩:=ht1.isList;exact Heap.lt_size e
 have l2:y<s1.heap.objs.size:=by obtain ⟨_,e,_⟩:=ht2.isList;exact Heap.lt_size e
 exact Ydm I1 (Ur x) (Ur y) (W0 ht1.isList) (W0 ht2.isList) rfl rfl l1 l2 (fun h i e=>⟨_,e,rfl,rfl⟩) (fun h i e=>⟨_,e,rfl,rfl⟩) q
theorem Yd0 {J:It} {P:Hp→Prop} {n:Nat} (hgo:∀ i H,P H→i<n→J.go i H) (hstop:∀ H,P H→J.stop n H) {src:List (Option Nat)} {g:TG} {tt:TT} {te:TE} {σ:St} {H1:Hp} {Q:VK} {D:Addr} (Pv:Nat→List V→St→Hp→Prop)
  (h0:Pv 0 [] (Yw src σ) (upd H1 D (.lst []))) (hP:∀ i ys σ' H',Pv i ys σ' H'→P H'∧H' D=some (.lst ys))
  (step:∀ i ys σ' H',i<n→Pv i ys σ' H'→∀ x H3,J.yld i H' x H3→g x σ' H3 fun σ2 H4=>tt σ2 H4 fun b H5=>if b=true then te σ2 H5 fun y H6=>H6 D=some (.lst ys)∧ys.length<sizeLine∧Pv (i+1) (ys++[y]) σ2 (upd H6 D (.lst (ys++[y]))) else Pv (i+1) ys σ2 H5)
  (fin:∀ ys σ' H',Pv n ys σ' H'→Q (.ref D) H') :
  LC src J g tt te σ H1 Q D:=by
 refine ⟨fun i m ys σ' H'=>m=n - i∧i≤n∧Pv i ys σ' H',⟨n,by simp,Nat.zero_le _,h0⟩,?_⟩
 rintro i m ys σ' H2 ⟨rfl,hi,p⟩
 obtain ⟨hp,hD⟩:=hP i ys σ' H2 p
 refine ⟨hD,?_⟩
 by_cases hlt:i<n
 ·refine .inr ⟨hgo i H2 hp hlt,fun ys' σ3 H3=>Pv (i+1) ys' σ3 H3,fun ys' σ3 H3 p'=>⟨n - (i+1),by omega,rfl,hlt,p'⟩,fun x H3 y=>step i ys σ' H2 hlt p x H3 y⟩
 ·have e:i=n:=by omega
  subst e
  exact .inl ⟨hstop H2 hp,fin ys σ' H2 p⟩
theorem UR {J:It} {P:Hp→Prop} {xs:List V} (hJ:XJ J P xs) {src:List (Option Nat)} {g:TG} {te:TE} {σ:St} {H1:Hp} {Q:VK} {D:Addr} (Pv:Nat→List V→St→Hp→Prop)
  (h0:Pv 0 [] (Yw src σ) (upd H1 D (.lst []))) (hP:∀ i ys σ' H',Pv i ys σ' H'→P H'∧H' D=some (.lst ys))
  (mono:∀ x σ H Q Q',(∀ σ' H',Q σ' H'→Q' σ' H')→g x σ H Q→g x σ H Q')
  (step:∀ i ys σ' H' x,xs[i]?=some x→Pv i ys σ' H'→g x σ' H' fun σ2 H4=>te σ2 H4 fun y H6=>H6 D=some (.lst ys)∧ys.length<sizeLine∧Pv (i+1) (ys++[y]) σ2 (upd H6 D (.lst (ys++[y]))))
  (fin:∀ ys σ' H',Pv xs.length ys σ' H'→Q (.ref D) H'):LC src J g Xs te σ H1 Q D :=
 YcZ hJ Pv h0 hP (fun i ys σ' H' x hx p=>by
  refine mono _ _ _ _ _ ?_ (step i ys σ' H' x hx p)
  intro σ2 H4 q
  unfold Xs
  dsimp only
  rw [if_pos rfl]
  exact q) fin
theorem WI (i:Nat):∀ x σ H Q Q',(∀ σ' H',Q σ' H'→Q' σ' H')→Ys i x σ H Q→Ys i x σ H Q':=fun _ _ _ _ _ h q=>h _ _ q
theorem Ybw {J:It} {P:Hp→Prop} {n:Nat} (hgo:∀ i H,P H→i<n→J.go i H) (hstop:∀ H,P H→J.stop n H) {src:List (Option Nat)} {g:TG} {te:TE} {σ:St} {H1:Hp} {Q:VK} {D:Addr} (Pv:Nat→List V→St→Hp→Prop)
  (h0:Pv 0 [] (Yw src σ) (upd H1 D (.lst []))) (hP:∀ i ys σ' H',Pv i ys σ' H'→P H'∧H' D=some (.lst ys))
  (mono:∀ x σ H Q Q',(∀ σ' H',Q σ' H'→Q' σ' H')→g x σ H Q→g x σ H Q')
  (step:∀ i ys σ' H',i<n→Pv i ys σ' H'→∀ x H3,J.yld i H' x H3→g x σ' H3 fun σ2 H4=>te σ2 H4 fun y H6=>H6 D=some (.lst ys)∧ys.length<sizeLine∧Pv (i+1) (ys++[y]) σ2 (upd H6 D (.lst (ys++[y]))))
  (fin:∀ ys σ' H',Pv n ys σ' H'→Q (.ref D) H'):LC src J g Xs te σ H1 Q D :=
 Yd0 hgo hstop Pv h0 hP (fun i ys σ' H' hi p x H3 y=>by
  refine mono _ _ _ _ _ ?_ (step i ys σ' H' hi p x H3 y)
  intro σ2 H4 q
  unfold Xs
  dsimp only
  rw [if_pos rfl]
  exact q) fin
end
end L2
namespace L2
open PySem PySem.Spec PyProof.Rows
structure Gx where
 P:Program
 w:World
 K:PySem.W.Frag
 mg:Str→Option Value
 base:Heap
def Cx.gx (X:Cx):Gx:=⟨X.prog,X.w,X.K,X.mg,X.base⟩
def Gx.Raw (g:Gx) (x qual:Str) (st:Stmt) (ps:List Str):Prop:=∃ f fd,Fun g.K x qual st f fd∧XG g.K fd ps []∧g.mg x=some (.ref f)
def Gx.Fn (g:Gx) (k:Nat) (x:Str) (ps:List Str) (sp:Sp):Prop:=∃ f fd,FnOk g.P g.w g.K g.mg g.base CX0 k f fd ps sp∧XG g.K fd ps []∧PySem.W.keepIn g.K (.ref f)=true∧g.mg x=some (.ref f)
def Gx.RawM (g:Gx) (C:Addr) (m qual:Str) (st:Stmt) (ps:List Str):Prop:=∃ f fd,Fun g.K m qual st f fd∧XG g.K fd ps []∧Meth g.K C m f
def Gx.Me (g:Gx) (k:Nat) (C:Addr) (m:Str) (ps:List Str) (sp:Sp):Prop:=∃ f fd,FnOk g.P g.w g.K g.mg g.base CX0 k f fd ps sp∧XG g.K fd ps []∧Meth g.K C m f
abbrev Gx.cx (g:Gx) (N:List Str) (qual:Str) (st:Stmt) (f:Addr) (cdv:Value) (A:Around) (outer:List Env) (s:Shared) (H:Hp) (E:XK):Cx:=(Wm CX0 g.P g.w g.K g.mg g.base N qual (Yi st) f cdv A outer s H E).nox
def YaN (g:Gx) (k:Nat) (N:List Str) (qual:Str) (st:Stmt) (sp:Sp):Prop:=∀ (f:Addr) (cdv:Value) (A:Around) (outer:List Env) (s:Shared) (H:Hp) (vs:List V) (Q:VK) (E:XK),Room k (g.cx N qual st f cdv A outer s H E).A→sp vs H Q E →
 ∃ t,PSs (g.cx N qual st f cdv A outer s H E) (YZ st) t∧t { nx:=fun _ H'=>Q .non H',rt:=Q } (Xi N vs) H
section
variable {g:Gx} {k:Nat} {x qual m:Str} {st:Stmt} {N ps:List Str} {sp:Sp} {C:Addr}
theorem Gx.Raw.fn (R:g.Raw x qual st ps) (S:FnScope N ps (Yi st)) (len:∀ vs H Q E,sp vs H Q E→vs.length=ps.length) (b:YaN g k N qual st sp):g.Fn (k+1) x ps sp:=by
 obtain ⟨f,fd,F,bd,hm⟩:=R
 exact ⟨f,fd,F.ok S len fun cdv A outer s H vs Q E hr h=>b f cdv A outer s H vs Q E hr h,bd,F.kp,hm⟩
theorem Gx.Fn.mono {j:Nat} (F:g.Fn j x ps sp) (h:j≤k):g.Fn k x ps sp:=by
 obtain ⟨f,fd,F,r⟩:=F
 exact ⟨f,fd,F.mono h,r⟩
theorem Gx.Raw.none (R:g.Raw x qual st ps) (no:∀ vs H Q E,¬ sp vs H Q E):g.Fn k x ps sp:=by
 obtain ⟨f,fd,F,bd,hm⟩:=R
 exact ⟨f,fd,⟨fun vs H Q E h=>absurd h (no vs H Q E),fun A outer s H args us vs Q E _ _ _ _ h=>absurd h (no vs H Q E)⟩,bd,F.kp,hm⟩
theorem Gx.RawM.none (R:g.RawM C m qual st ps) (no:∀ vs H Q E,¬ sp vs H Q E):g.Me k C m ps sp:=by
 obtain ⟨f,fd,F,bd,hm⟩:=R
 exact ⟨f,fd,⟨fun vs H Q E h=>absurd h (no vs H Q E),fun A outer s H args us vs Q E _ _ _ _ h=>absurd h (no vs H Q E)⟩,bd,hm⟩
end
section
variable {g:Gx} {X:Cx} {k j:Nat} {x m:Str} {ps:List Str} {sp:Sp} {C:Addr} {e o:Expr} {es:List Expr} {t:TA} {ta:TE} {p pos apos:Pos}
theorem Yz (F:g.Fn j x ps sp) (hr:Room k X.A) (ha:PA X (e::es) t) (hj:j≤k) (hX:X.gx=g) (hg:Gl X x) (hdb:(x==("__debug__":Str))=false)
  (he:starEach (e::es) X.env=(false,eval e X.env)::starEach es X.env) (hpl:(backTo pos (starEach es X.env)).any (·.1)=false):PE X (.Call (.Name x p) (e::es) [] pos) (YaI sp [] E0 t):=by
 subst hX
 obtain ⟨f,fd,F,b,kp,hm⟩:=F
 exact Ydf F (hr.mono hj) hg hm kp b .nil YcX ha hdb he hpl
theorem YF {id:String} {r:List V→Hp→VK→Prop} (hm:g.mg x=none) (hc:Xu X (.builtin id) r) (ha:PA X (e::es) t) (hv:bootBuiltins x=some (.builtin id)) (hX:X.gx=g) (hg:Gl X x) (hn:x≠"__name__") (hdb:(x==("__debug__":Str))=false)
  (he:starEach (e::es) X.env=(false,eval e X.env)::starEach es X.env) (hpl:(backTo pos (starEach es X.env)).any (·.1)=false):PE X (.Call (.Name x p) (e::es) [] pos) (tCB r t):=by
 subst hX
 exact Ycc hc hg hm hv ha hn hdb he hpl
theorem WJ {T:String} {r:List V→Hp→VK→Prop} (hm:g.mg x=none) (hc:Xu X (.type T) r) (ha:PA X (e::es) t) (hv:bootBuiltins x=some (.type T)) (hX:X.gx=g) (hg:Gl X x) (hn:x≠"__name__") (hdb:(x==("__debug__":Str))=false)
  (he:starEach (e::es) X.env=(false,eval e X.env)::starEach es X.env) (hpl:(backTo pos (starEach es X.env)).any (·.1)=false):PE X (.Call (.Name x p) (e::es) [] pos) (tCB r t):=by
 subst hX
 exact Ybo hc hg hm hv ha hn hdb he hpl
theorem XM {T:String} (hm:g.mg x=none) (hv:bootBuiltins x=some (.type T)) (hX:X.gx=g) (hg:Gl X x) (hn:x≠"__name__") (hdb:(x==("__debug__":Str))=false):PE X (.Name x pos) (tC (.ty T)):=by
 subst hX
 exact Ydd hg hm hv rfl hn hdb
end
def S (l:List Nat):Str:=⟨l.toArray⟩
theorem Xt (l:List Nat):(S l).cps.toList=l:=by simp [S]
theorem Wg (l:List Nat):(S l).length=l.length:=by simp [S,Str.length]
theorem Yc0 (a b:List Nat):S a++S b=S (a++b):=by
 show Str.append (S a) (S b)=S (a++b)
 simp [Str.append,S]
theorem Yci (l:List Nat) (i j:Nat):WH (S l) (some (i:Int)) (some (j:Int))=S ((l.drop i).take (j - i)):=by
 unfold WH
 rw [Xt,Wg,HT.sIx_nat,HT.sIx_nat]
 show S _=S _
 congr 1
 by_cases h:i≤l.length
 ·rw [Nat.min_eq_left h]
  by_cases h2:j≤l.length
  ·rw [Nat.min_eq_left h2]
  ·rw [Nat.min_eq_right (by omega)]
   rw [List.take_of_length_le (by simp),List.take_of_length_le (by simp;omega)]
 ·have e:min i l.length=l.length:=Nat.min_eq_right (by omega)
  rw [e,List.drop_eq_nil_of_le (Nat.le_refl l.length),List.drop_eq_nil_of_le (show l.length≤i by omega)]
  simp
def US (s:List Nat):List (List Nat)→List Nat
 | []=>[]
 | [x]=>x
 | x::y::r=>x++s++US s (y::r)
theorem Yd1 (s:List Nat):∀ ys:List (List Nat),Txt.join (S s) (ys.map S)=S (US s ys):=fun ys=>by
 have e:Txt.join (S s) (ys.map S)=Str.join (S s) (ys.map S):=eq_of_beq (join_plain_closes _ _)
 rw [e]
 induction ys with
 | nil=>rfl
 | cons x r ih =>
  cases r with
  | nil=>rfl
  | cons y r =>
   have ih':=ih (eq_of_beq (join_plain_closes _ _))
   show S x++S s++Str.join (S s) ((y::r).map S)=_
   rw [ih',Yc0,Yc0]
   rfl
end L2
namespace L2
open PySem PySem.Spec PyProof.Rows
section
variable {K:PySem.W.Frag} {h:Heap} {mg:Str→Option Value} {P:Program} {w:World} {base:Heap} {f C:Addr} {x qual m:Str} {st:Stmt} {ps:List Str} {oc kV dc pm cd ct:Value} {od an:Option Addr} {sl:Array (Option Value)}
theorem YI (X:K.In h) (G:h.Ns mainGlobals mg) (ps:List Str)
  (a:PySem.W.nsIn K mainGlobals x=some (some (.ref f))) (l:K.lookup f=some ⟨oc,od,.func (PySem.W.fnOf x x (Xf st) (YZ st) (Yi st) .none kV dc pm an cd ct),sl⟩) (c:PySem.W.codeIn K cd x=true) (k:PySem.W.keepIn K (.ref f)=true)
  (b:∀ (kV doc pm:Value) (an:Option Addr) (cdv ct:Value) (us:List Value),us.length=ps.length→bindArgs (PySem.W.fnOf x x (Xf st) (YZ st) (Yi st) .none kV doc pm an cdv ct) ⟨us,[]⟩=pure (ps.zip us)) :
  ∀ P w base,(Gx.mk P w K mg base).Raw x x st ps:=fun P w base =>
 have F:=U8 (st:=st) l c k
 ⟨f,_,F,F.binds b,PySem.W.mg_of X G a⟩
end
def Ybx (K:PySem.W.Frag) (mg:Str→Option Value) (st:Stmt) (x n:Str):Prop:=∃ f fd,Fun K n n st f fd∧(∀ (s:Shared) (u:Value),BindsTo s fd ⟨[u],[]⟩ [(x,u)])∧mg n=some (.ref f)
theorem Yby {K:PySem.W.Frag} {h:Heap} {mg:Str→Option Value} {f:Addr} {x n:Str} {st:Stmt} {oc kV dc pm cd ct:Value} {od an:Option Addr} {sl:Array (Option Value)} (X:K.In h) (G:h.Ns mainGlobals mg)
  (a:PySem.W.nsIn K mainGlobals n=some (some (.ref f))) (l:K.lookup f=some ⟨oc,od,.func (PySem.W.fnOf n n (Xf st) (YZ st) (Yi st) .none kV dc pm an cd ct),sl⟩) (c:PySem.W.codeIn K cd n=true) (k:PySem.W.keepIn K (.ref f)=true)
  (b:∀ (kV doc pm:Value) (an:Option Addr) (cdv ct:Value) (s:Shared) (u:Value),BindsTo s (PySem.W.fnOf n n (Xf st) (YZ st) (Yi st) .none kV doc pm an cdv ct) ⟨[u],[]⟩ [(x,u)]):Ybx K mg st x n :=
 ⟨f,_,U8 (st:=st) l c k,b kV dc pm an cd ct,PySem.W.mg_of X G a⟩
end L2
namespace L2
open PySem PySem.Spec PyProof.Rows
section
variable {X:Cx}
theorem Yak {a:Int} {m:Nat} (h:a.natAbs<2^m):Builtin.Int.intBits a≤m:=by
 unfold Builtin.Int.intBits
 split
 ·omega
 ·rename_i h0
  have h0:a.natAbs≠0:=by simpa using h0
  have:=(Nat.log2_lt h0).mpr h
  omega
def UT (i j:Int):Prop:=∃ m n:Nat,i.natAbs<2^m∧j.natAbs<2^n∧m+n≤100000000
theorem UT.ok {i j:Int} (h:UT i j):IntMulOk i j:=by
 obtain ⟨m,n,h1,h2,h3⟩:=h
 exact IntMulOk.of_le (Yak h1) (Yak h2) (by omega)
def YaO (i j:Int):Prop:=0<j∧j.natAbs<2^9000
theorem Xv:OpR X (binaryOp .FloorDiv) (rI YaO fun i j => .int (i / j)):=opI fun i j _ _ _ _ _ hc q=>by
 have h1:(0:Int)<j:=hc.1
 have h2:=hc.2
 have h3:j.natAbs≠0:=by omega
 exact floordiv_int (by omega) (by rw [Int.fdiv_eq_ediv_of_nonneg i (by omega)];exact q) (.inl (PyProof.noPylong_of_log2 ((Nat.log2_lt h3).mpr h2)))
end
end L2
namespace L2
open PySem PySem.Spec PyProof.Rows
theorem Yd2 {CX:CXT} {P:Program} {w:World} {K:PySem.W.Frag} {mg:Str→Option Value} {base:Heap} {N:List Str} {qual:Str} {scope:Scope} {f:Addr} {cd:Value} {A:Around} {outer:List Env} {s:Shared} {H:Hp} {E:XK} :
  (Wm CX P w K mg base N qual scope f cd A outer s H E).K=K:=rfl
theorem nox_K {X:Cx}:X.nox.K=X.K:=rfl
section
variable {g:TG} {tb:TS} {D:Ends} {σ:St} {H:Hp}
theorem W1 {K:PySem.W.Frag} {tl:TE} {a:Addr} {xs:List V} (Pv:Nat→St→Hp→Prop) (ha:∀ R:V→Hp→Prop,R (.ref a) H→tl σ H R) (h0:Pv 0 σ H) (hl:∀ i σ H,i≤xs.length→Pv i σ H→SqL K H a xs)
  (hs:∀ i x σ H,xs[i]?=some x→Pv i σ H→g x σ H fun σ2 H2=>tb { D with nx:=Pv (i+1),ct:=Pv (i+1),bk:=D.nx } σ2 H2) (hd:∀ σ H,Pv xs.length σ H→D.nx σ H):U3 (Ws K tl) g tb D σ H:=by
 refine ha _ ⟨a,rfl,⟨xs,hl 0 σ H (Nat.zero_le _) h0⟩,?_⟩
 exact U4 Pv h0 hl hs hd
end
end L2
namespace L2
open PySem PySem.Spec PyProof.Rows
section
variable {X:Cx}
theorem WU (hc:X.calm=true:=by rfl):Xu X (.builtin "sum") (fun xs H Q=>∃ (p:Addr) (ns:List Int),xs=[.ref p]∧SqL X.K H p (ns.map V.int)∧Q (.int ns.sum) H):=by
 intro pins s σ H xs us Q I r h
 obtain ⟨p,ns,rfl,hq,q⟩:=h
 obtain ⟨u,rfl,rx⟩:=XF r
 cases rx
 obtain ⟨its,r',pl,hz⟩:=I.list hq
 have hi:=YaJ r'
 have hl:=pl.isList
 obtain ⟨xs,ex⟩:=hi.allInts.items
 rw [ex] at hl
 have e:preSum (numAt xs) xs.size=ns.sum:=by
  have h1:=nums_intItems (xs:=xs)
  rw [← ex] at h1
  have h2:=hi.numsOf
  rw [preSum_eq,List.take_of_length_le (by simp)]
  rw [← h1]
  exact congrArg List.sum h2
 refine sum_intListG (I.ok.hd hc) hl fun h' tk t' hk=>?_
 rw [e]
 exact ⟨.int _,H,I.kept (t':=tk) hk,⟨t',rfl⟩,q⟩
end
section
variable {X:Cx} {elts:List Expr} {kk:Nat} {tpos:Pos}
end
end L2
namespace L2
open PySem PySem.Spec PyProof.Rows
mutual
inductive Den (K:PySem.W.Frag) (H:Hp):V→PyData→Prop
 | non:Den K H .non .none
 | bl (b:Bool):Den K H (.bl b) (.bool b)
 | int (i:Int):Den K H (.int i) (.int i)
 | str (x:Str) (h:PyData.strOk x=true):Den K H (.str x) (.str x)
 | lst {a:Addr} {vs:List V} {ds:List PyData}:SqL K H a vs→Dens K H vs ds→Den K H (.ref a) (.list ds)
 | tup {a:Addr} {vs:List V} {ds:List PyData}:SqT K H a vs→Dens K H vs ds→Den K H (.ref a) (.tuple ds)
inductive Dens (K:PySem.W.Frag) (H:Hp):List V→List PyData→Prop
 | nil:Dens K H [] []
 | cons {v:V} {d:PyData} {vs:List V} {ds:List PyData}:Den K H v d→Dens K H vs ds→Dens K H (v::vs) (d::ds)
end
mutual
theorem Den.keep {K:PySem.W.Frag} {H H':Hp} (e:Yb H H'):∀ {v:V} {d:PyData},Den K H v d→Den K H' v d
 | _,_,.non => .non
 | _,_,.bl b => .bl b
 | _,_,.int i => .int i
 | _,_,.str x h => .str x h
 | _,_,.lst h hs => .lst (e.seq h) (hs.keep e)
 | _,_,.tup h hs => .tup (e.tup h) (hs.keep e)
theorem Dens.keep {K:PySem.W.Frag} {H H':Hp} (e:Yb H H'):∀ {vs:List V} {ds:List PyData},Dens K H vs ds→Dens K H' vs ds
 | _,_,.nil => .nil
 | _,_,.cons h hs => .cons (h.keep e) (hs.keep e)
end
mutual
theorem Den.lay {K:PySem.W.Frag} {H:Hp}:∀ {v:V} {d:PyData},Den K H v d→d.canLay0=true
 | _,_,.non=>rfl
 | _,_,.bl b=>rfl
 | _,_,.int i=>rfl
 | _,_,.str x h=>by simpa [PyData.canLay0] using h
 | _,_,.lst _ hs=>by rw [PyData.canLay0];exact hs.lay
 | _,_,.tup _ hs=>by rw [PyData.canLay0];exact hs.lay
theorem Dens.lay {K:PySem.W.Frag} {H:Hp}:∀ {vs:List V} {ds:List PyData},Dens K H vs ds→PyData.canLayAll0 ds=true
 | _,_,.nil=>rfl
 | _,_,.cons h hs=>by rw [PyData.canLayAll0,h.lay,hs.lay];rfl
end
theorem Dens.length {K:PySem.W.Frag} {H:Hp}:∀ {vs:List V} {ds:List PyData},Dens K H vs ds→vs.length=ds.length
 | _,_,.nil=>rfl
 | _,_,.cons _ hs=>congrArg (·+1) hs.length
theorem Dens.append {K:PySem.W.Frag} {H:Hp} {vs':List V} {ds':List PyData}:∀ {vs:List V} {ds:List PyData},Dens K H vs ds→Dens K H vs' ds'→Dens K H (vs++vs') (ds++ds')
 | _,_,.nil,h=>h
 | _,_,.cons a b,h => .cons a (b.append h)
theorem Dens.get {K:PySem.W.Frag} {H:Hp}:∀ {vs:List V} {ds:List PyData} {i:Nat} {v:V},Dens K H vs ds→vs[i]?=some v→∃ d,ds[i]?=some d∧Den K H v d
 | _,_,0,v,.cons a _,h=>by
  have:_=v:=Option.some.inj h
  subst this
  exact ⟨_,rfl,a⟩
 | _,_,i+1,v,.cons _ b,h=>b.get (i:=i) h
section
variable {X:Cx}
mutual
theorem Den.reads {pins:List (Addr×Obj)} {σ:St} {H:Hp} {s:Shared} (I:Inv X pins σ H s):∀ {v:V} {d:PyData} {u:Value},Den X.K H v d→Yr v u→∃ as,Reads s.heap u d as
 | _,_,u,.non,r=>by cases (show u = .none from r);exact ⟨_,.none⟩
 | _,_,u,.bl b,r=>by cases (show u = .bool b from r);exact ⟨_,.bool b⟩
 | _,_,u,.int i,r=>by obtain ⟨t,rfl⟩:=r;exact ⟨_,.int i t⟩
 | _,_,u,.str x h,r=>by obtain ⟨t,rfl⟩:=r;exact ⟨_,.str x t⟩
 | _,_,u,.lst (a:=a) h hs,r=>by
  cases (show u = .ref a from r)
  obtain ⟨its,rv,pl,hz⟩:=I.list h
  obtain ⟨as,ra⟩:=hs.reads I rv
  obtain ⟨o,e1,e2,n,e3⟩:=pl.isList
  exact ⟨_,.list e1 e2 e3 (by simpa using ra)⟩
 | _,_,u,.tup (a:=a) h hs,r=>by
  cases (show u = .ref a from r)
  obtain ⟨its,rv,pl,hz⟩:=I.tuple h
  obtain ⟨as,ra⟩:=hs.reads I rv
  obtain ⟨o,e1,e2,n,e3⟩:=(show s.heap.IsTuple a its.toArray from pl)
  exact ⟨_,.tuple e1 e2 e3 (by simpa using ra)⟩
theorem Dens.reads {pins:List (Addr×Obj)} {σ:St} {H:Hp} {s:Shared} (I:Inv X pins σ H s):∀ {vs:List V} {ds:List PyData} {us:List Value},Dens X.K H vs ds→Yn vs us→∃ as,ReadsAll s.heap us ds as
 | _,_,us,.nil,r=>by cases r;exact ⟨_,.nil⟩
 | _,_,us,.cons h hs,r=>by
  cases r with
  | cons r rr =>
   obtain ⟨as,ra⟩:=h.reads I r
   obtain ⟨bs,rb⟩:=hs.reads I rr
   exact ⟨_,.cons ra rb⟩
end
theorem Qd (hu:X.A.units+64<cLine):OpR X (compareOp .Eq) (fun x y H Q=>∃ d e,Den X.K H x d∧Den X.K H y e∧d.depth≤64∧Q (.bl (PyData.eqv d e)) H):=by
 intro pins s σ H x y v u Q I rx ry h
 obtain ⟨d,e,hd,he,dp,q⟩:=h
 obtain ⟨as,ra⟩:=hd.reads I rx
 obtain ⟨bs,rb⟩:=he.reads I ry
 exact SeqAt.rcAt_reads ra rb hd.lay he.lay (by omega) _ _ _ _ ⟨.bl _,H,I,rfl,q⟩
theorem VA (hu:X.A.units+64<cLine):OpR X (compareOp .NotEq) (fun x y H Q=>∃ d e,Den X.K H x d∧Den X.K H y e∧d.depth≤64∧Q (.bl (!PyData.eqv d e)) H):=by
 intro pins s σ H x y v u Q I rx ry h
 obtain ⟨d,e,hd,he,dp,q⟩:=h
 obtain ⟨as,ra⟩:=hd.reads I rx
 obtain ⟨bs,rb⟩:=he.reads I ry
 exact SeqAt.compareNe_reads ra rb hd.lay he.lay (by omega) ⟨.bl _,H,I,rfl,q⟩
end
theorem Y5 {α:Type} {l:List α} {i:Nat} {x:α} (h:l[i]?=some x):l.take (i+1)=l.take i++[x]:=by
 obtain ⟨hi,hc⟩:=List.getElem?_eq_some_iff.mp h
 rw [List.take_succ_eq_append_getElem hi,hc]
theorem Qe {J:It} {P:Hp→Prop} {xs:List V} (hJ:XJ J P xs) {src:List (Option Nat)} {te:TE} {σ:St} {H1:Hp} {Q:VK} {D:Addr} (ys:List V) (hP:∀ H',Yb H1 H'→P H') (hD:H1 D=none) (hl:ys.length=xs.length) (hlen:xs.length≤100000)
  (step:∀ (i:Nat) x y H',xs[i]?=some x→ys[i]?=some y→Yb H1 H'→∀ R:VK,(∀ H'',Yb H' H''→R y H'')→te (some x::Yw src σ) H' R)
  (fin:∀ H',Yb H1 H'→H' D=some (.lst ys)→Q (.ref D) H'):LC (none::src) J (Ys 0) Xs te σ H1 Q D:=by
 have h6:100000<sizeLine:=by decide
 refine UR hJ (fun i zs σ' H'=>zs=ys.take i∧(∃ o,σ'=o::Yw src σ)∧Yb H1 H'∧H' D=some (.lst zs)) ⟨by simp,⟨none,rfl⟩,.upd_new hD _,Yc⟩ (fun i zs σ' H' p=>⟨hP _ p.2.2.1,p.2.2.2⟩) (WI 0) ?_ ?_
 ·rintro i zs σ' H' x hx ⟨rfl,⟨o,rfl⟩,sm,hd⟩
  have hi:=(List.getElem?_eq_some_iff.mp hx).1
  have hy:ys[i]?=some (ys[i]'(by omega)):=List.getElem?_eq_getElem _
  show te (some x::Yw src σ) H' _
  refine step i x _ H' hx hy sm _ fun H'' s2=>⟨s2 _ _ hd,?_,(Y5 hy).symm,⟨_,rfl⟩,.upd_over hD (sm.trans s2) _,Yc⟩
  rw [List.length_take];omega
 ·rintro zs σ' H' ⟨rfl,_,sm,hd⟩
  rw [← hl,List.take_length] at hd
  exact fin H' sm hd
theorem Vi (K:PySem.W.Frag) (i j:Nat):∀ x σ H Q Q',(∀ σ' H',Q σ' H'→Q' σ' H')→XR K 2 (YU (Ys i) (YU (Ys j) XQ)) x σ H Q→XR K 2 (YU (Ys i) (YU (Ys j) XQ)) x σ H Q':=by
 rintro x σ H Q Q' h ⟨a,xs,e,sq,l,v,r,e1,v2,r2,e2,e3,q⟩
 exact ⟨a,xs,e,sq,l,v,r,e1,v2,r2,e2,e3,h _ _ q⟩
end L2
namespace L2
open PySem PySem.Spec PyProof.Rows
section
variable {a b c d e r:TS} {D:Ends} {σ:St} {H:Hp} (M:St→Hp→Prop) (h1:∀ σ H,M σ H→r D σ H)
include h1
theorem WK (h2:∀ N:St→Hp→Prop,(∀ σ H,M σ H→N σ H)→a { D with nx:=N } σ H):Wa a r D σ H:=h2 (r D) h1
theorem cut2 (h2:∀ N:St→Hp→Prop,(∀ σ H,M σ H→N σ H)→Wa a b { D with nx:=N } σ H):Wa a (Wa b r) D σ H:=h2 (r D) h1
theorem cut3 (h2:∀ N:St→Hp→Prop,(∀ σ H,M σ H→N σ H)→Wa a (Wa b c) { D with nx:=N } σ H):Wa a (Wa b (Wa c r)) D σ H:=h2 (r D) h1
end
theorem Yal (i j:Int):YaF (.int i) (.int j)=true:=rfl
theorem Ydn (i j:Str):YaF (.str i) (.str j)=true:=rfl
theorem Qf {α:Type} (xs:List α) (i j:Nat):(xs.drop (min i xs.length)).take (min j xs.length - min i xs.length)=(xs.drop i).take (j - i):=by
 by_cases hi:i≤xs.length
 ·rw [Nat.min_eq_left hi]
  by_cases hj:j≤xs.length
  ·rw [Nat.min_eq_left hj]
  ·rw [Nat.min_eq_right (by omega),List.take_of_length_le (by rw [List.length_drop];omega),List.take_of_length_le (by rw [List.length_drop];omega)]
 ·rw [List.drop_of_length_le (by omega),List.drop_of_length_le (show xs.length≤i by omega)]
  simp
theorem Yam (xs:List V) (i j:Nat):YB xs (some (i:Int)) (some (j:Int))=(xs.drop i).take (j - i):=by
 unfold YB
 rw [HT.sIx_nat,HT.sIx_nat]
 exact Qf xs i j
theorem VT (xs:List V) (j:Nat):YB xs none (some (j:Int))=xs.take j:=by
 unfold YB
 rw [HT.sIx_nat,HT.sIx_none,List.drop_zero,Nat.sub_zero]
 have:=Qf xs 0 j
 simpa using this
theorem VU (xs:List V) (i:Nat):YB xs (some (i:Int)) none=xs.drop i:=by
 unfold YB
 rw [HT.sIx_nat,HT.sIx_none]
 by_cases hi:i≤xs.length
 ·rw [Nat.min_eq_left hi,List.take_of_length_le (by rw [List.length_drop];omega)]
 ·rw [List.drop_of_length_le (by omega),List.drop_of_length_le (show xs.length≤i by omega)]
  simp
theorem Ybz (xs:List V):YB xs none (some (-1))=xs.take (xs.length - 1):=by
 unfold YB
 have e:HT.sIx xs.length xs.length (some (-1))=xs.length - 1:=by
  show (if (-1:Int)<0 then ((-1:Int)+(xs.length:Int)).toNat else min (-1:Int).toNat xs.length)=_
  rw [if_pos (by decide)];omega
 rw [e,HT.sIx_none];simp
end L2
namespace L2
open PySem PySem.Spec PyProof.Rows
section
variable {X:Cx} {tg:Expr}
end
end L2
namespace L2
open PySem PySem.Spec PyProof.Rows
end L2
namespace L2
open PySem PySem.Spec PyProof.Rows
section
variable {src:List (Option Nat)} {te:TE} {σ:St} {H:Hp} {Q:VK}
theorem VB {ta:TA} {n:Nat} (ys:List V) (ha:∀ R:List V→Hp→Prop,R [.int n] H→ta σ H R) (hl:ys.length=n) (hlen:n≤100000)
  (step:∀ (i:Nat) y H',i<n→ys[i]?=some y→Yb H H'→∀ R:VK,(∀ H'',Yb H' H''→R y H'')→te (some (.int i)::Yw src σ) H' R)
  (fin:∀ D H',H D=none→Yb H H'→H' D=some (.lst ys)→Q (.ref D) H'):tLC (none::src) (YcS ta) (Ys 0) Xs te σ H Q:=by
 refine ha _ ⟨n,rfl,by omega,by omega,fun D hD=>?_⟩
 refine Qe (QV (lo:=0) (n:=n) (P:=fun _=>True)) ys (fun _ _=>trivial) hD (by simpa using hl) (by simpa using hlen) (fun i x y H' hx hy sm R r=>?_) fun H'=>fin D H' hD
 have hi:i<n:=by have:=(List.getElem?_eq_some_iff.mp hx).1;simpa using this
 rw [List.getElem?_map,List.getElem?_range hi] at hx
 have e:V.int (0+(i:Int))=x:=Option.some.inj hx
 rw [Int.zero_add] at e
 subst e
 exact step i y H' hi hy sm R r
theorem W2 {K:PySem.W.Frag} {tl:TE} {xs:List V} (ys:List V) (ha:∀ R:V→Hp→Prop,(∀ a H1,Yb H H1→SqL K H1 a xs→R (.ref a) H1)→tl σ H R) (hl:ys.length=xs.length) (hlen:xs.length≤100000)
  (step:∀ (i:Nat) x y H',xs[i]?=some x→ys[i]?=some y→Yb H H'→∀ R:VK,(∀ H'',Yb H' H''→R y H'')→te (some x::Yw src σ) H' R)
  (fin:∀ D H',H D=none→Yb H H'→H' D=some (.lst ys)→Q (.ref D) H'):tLC (none::src) (Ws K tl) (Ys 0) Xs te σ H Q :=
 ha _ fun a H1 s1 hS=>⟨a,rfl,⟨xs,hS⟩,fun D hD=>Qe (XL.imp fun H' (e:Yb H1 H')=>e.seq hS) ys (fun _ e=>e) hD hl hlen (fun i x y H' hx hy sm R r=>step i x y H' hx hy (s1.trans sm) R r) fun H' sm=>fin D H' (s1.free hD) (s1.trans sm)⟩
end
end L2
namespace L2
open PySem PySem.Spec PyProof.Rows
section
variable {src:List (Option Nat)} {te:TE} {σ:St} {H:Hp} {Q:VK}
end
section
variable {X:Cx} {K:PySem.W.Frag}
theorem Vp (h:X.K=K:=by rfl):IxR X (rIxL K):=by subst h;exact YY
theorem Xq (h:X.K=K:=by rfl):IxR X (rIxT K):=by subst h;exact Yl
theorem Ydo (hu:X.A.units+64<cLine) (h:X.K=K:=by rfl):OpR X (compareOp .Eq) (fun x y H Q=>∃ d e,Den K H x d∧Den K H y e∧d.depth≤64∧Q (.bl (PyData.eqv d e)) H):=by subst h;exact Qd hu
theorem Ydp (hu:X.A.units+64<cLine) (h:X.K=K:=by rfl):OpR X (compareOp .NotEq) (fun x y H Q=>∃ d e,Den K H x d∧Den K H y e∧d.depth≤64∧Q (.bl (!PyData.eqv d e)) H):=by subst h;exact VA hu
end
end L2
namespace L2
open PySem PySem.Spec PyProof.Rows
section
variable {tb:TS} {D:Ends} {σ:St} {H:Hp}
theorem YbA {K:PySem.W.Frag} {ta:TA} (i j:Nat) {xs ys:List V} (Pv:Addr→Addr→Nat→St→Hp→Prop) (ha:∀ R:List V→Hp→Prop,(∀ a b H1,Pv a b 0 σ H1→R [.ref a,.ref b] H1)→ta σ H R)
  (hl:∀ a b n σ H,n≤min xs.length ys.length→Pv a b n σ H→SqL K H a xs∧SqL K H b ys)
  (hs:∀ a b (n:Nat) x y σ H T,xs[n]?=some x→ys[n]?=some y→Pv a b n σ H→H T=none→tb { D with nx:=Pv a b (n+1),ct:=Pv a b (n+1),bk:=D.nx } ((σ.set i (some x)).set j (some y)) (upd H T (.tup [x,y])))
  (hd:∀ a b σ H,Pv a b (min xs.length ys.length) σ H→D.nx σ H):U3 (YaM K ta) (XR K 2 (YU (Ys i) (YU (Ys j) XQ))) tb D σ H:=by
 refine ha _ fun a b H1 h0=>?_
 obtain ⟨s1,s2⟩:=hl a b 0 σ H1 (Nat.zero_le _) h0
 refine ⟨a,b,xs,ys,rfl,s1,s2,?_⟩
 refine ⟨fun n m σ H=>m=min xs.length ys.length - n∧n≤min xs.length ys.length∧Pv a b n σ H,⟨min xs.length ys.length,by simp,Nat.zero_le _,h0⟩,?_⟩
 rintro n m σ H ⟨rfl,hn,p⟩
 obtain ⟨g1,g2⟩:=hl a b n σ H hn p
 by_cases hlt:n<min xs.length ys.length
 ·have hx:xs[n]?=some (xs[n]'(by omega)):=List.getElem?_eq_getElem _
  have hy:ys[n]?=some (ys[n]'(by omega)):=List.getElem?_eq_getElem _
  refine .inr ⟨⟨xs,ys,_,_,g1,g2,hx,hy⟩,Pv a b (n+1),fun σ' H' p'=>⟨min xs.length ys.length - (n+1),by omega,rfl,hlt,p'⟩,?_⟩
  rintro v H' ⟨T,rfl,hT,heq⟩
  have e:=heq xs ys _ _ g1 g2 hx hy
  subst e
  exact ⟨T,_,rfl,SqT.of Yc,rfl,_,_,rfl,_,_,rfl,rfl,hs a b n _ _ σ H T hx hy p hT⟩
 ·have e:n=min xs.length ys.length:=by omega
  subst e
  refine .inl ⟨⟨xs,ys,g1,g2,?_⟩,hd a b σ H p⟩
  omega
end
end L2
namespace L2
open PySem PySem.Spec PyProof.Rows
theorem UK (its:List Value):slicePick its.toArray none none (some (-1))=its.reverse.toArray:=by
 unfold slicePick
 have hb:sliceBounds none none (some (-1)) its.toArray.size=((its.length:Int) - 1,-1,-1):=by simp [sliceBounds]
 rw [hb]
 have hr:sliceRange ((its.length:Int) - 1) (-1) (-1)=(List.range its.length).map fun (k:Nat)=>its.length - 1 - k:=by
  unfold sliceRange
  simp only [show ¬ ((-1:Int)>0) by decide,if_false]
  have hc:(if (its.length:Int) - 1 > -1 then ((its.length:Int) - 1 - -1 - -1 - 1) / - -1 else 0).toNat=its.length:=by
   split
   ·have:((its.length:Int) - 1 - -1 - -1 - 1)=its.length:=by omega
    rw [this,show (- -1:Int)=1 from rfl,Int.ediv_one];omega
   ·omega
  rw [hc]
  apply List.map_congr_left
  intro k hk
  have:k<its.length:=List.mem_range.mp hk
  omega
 simp only [hr]
 congr 1
 rw [List.filterMap_map]
 apply List.ext_getElem?
 intro i
 have key:∀ (n:Nat),n≤its.length→(List.filterMap ((fun x=>its.toArray[x]?) ∘ fun k=>its.length - 1 - k) (List.range n))=its.reverse.take n:=by
  intro n
  induction n with
  | zero=>intro _;simp
  | succ n ih =>
   intro hn
   rw [List.range_succ,List.filterMap_append,ih (by omega)]
   have hx:its.reverse[n]?=some (its[its.length - 1 - n]'(by omega)):=by
    rw [List.getElem?_reverse (by omega)];exact List.getElem?_eq_getElem _
   rw [Y5 hx]
   have hlt:its.length - 1 - n<its.length:=by omega
   simp [hlt]
 rw [key its.length (Nat.le_refl _)]
 rw [List.take_of_length_le (by simp)]
section
variable {X:Cx} {e st:Expr} {te ts:TE} {pos p2:Pos}
def tRev (K:PySem.W.Frag) (te ts:TE):TE:=fun σ H Q=>te σ H fun x H1=>ts σ H1 fun y H2=>y = .int (-1)∧∃ a xs,x = .ref a∧SqL K H2 a xs∧∀ p,H2 p=none→Q (.ref p) (upd H2 p (.lst xs.reverse))
theorem YbB (he:PE X e te) (hs:PE X st ts):PE X (.Subscript e (.Slice none none (some st) p2) pos) (tRev X.K te ts):=by
 intro pins s σ H Q I h
 refine Subscript_ (thn (he pins s σ H _ I h) fun v s1 ⟨x,H1,I1,r1,q1⟩=>?_)
 refine wpAny_Slice ?_
 rw [evalPart_none]
 refine wpAny_pure (wpAny_pure ?_)
 rw [evalPart_some]
 refine thn (hs pins s1 σ H1 _ I1 q1) fun u s2 ⟨y,H2,I2,r2,q2⟩=>?_
 obtain ⟨rfl,a,xs,rfl,hx,q⟩:=q2
 obtain ⟨t,rfl⟩:=r2
 cases r1
 have I4:Inv X pins σ H2 { s2 with heap:=s2.heap.push { cls := .type "slice",data := .fields #[.none,.none,.int (-1) t] } }:=I2.kept (t':=s2.toks) fun b ob q=>Heap.get?_push_of_some _ q
 obtain ⟨its,r,ht,hz⟩:=I4.list hx
 have hlen:=r.length
 have hg:=wpAny_getItem_list_slice (prog:=X.prog) (w:=X.w) (A:=X.A) (E:=X.xe) (Q:=EP X pins σ Q) ht.isList (Heap.IsSliceOf.new ..) .none .none (.int (-1) t) (by decide) (by
  rw [UK]
  refine ⟨.ref _,_,I4.laid (t':=_) (o := .lst xs.reverse) (fun b ob q=>Heap.get?_push_of_some _ q) (Nat.le_refl _) ?_,rfl,q _ (I4.hok.fresh (Nat.le_refl _))⟩
  exact ⟨by rw [List.length_reverse];exact hz,_,0,r.reverse,Heap.get?_push_size _ rfl⟩) (by rw [List.size_toArray]<;>omega)
 exact tail_any (ops:=[.ref a,.ref s2.heap.objs.size]) ht.isList.typeIs slot_list_getitem.lookup hg (by with_unfolding_all rfl)
end
end L2
namespace L2
open PySem PySem.Spec PyProof.Rows
section
variable {X:Cx} {pos:Pos}
def Yc1:V→List V→Hp→VK→Prop:=fun x vs H Q=>∃ i,x = .int i∧vs=[]∧Q (.int (Builtin.Int.intBits i:Nat)) H
theorem Yan:MtR X "int.bit_length" Yc1:=by
 intro pins s σ H x vs v us Q I rx r h
 obtain ⟨i,rfl,rfl,q⟩:=h
 obtain ⟨t,rfl⟩:=rx
 cases r
 exact call_gives F.slot_int_bit_length (typeIs_int s i t) F.entry_int_bit_length (F.args_int_bit_length_1 _) (AutoIntG2.int_bit_length_int_0 i t) ⟨.int _,H,I.tok _,⟨_,rfl⟩,q⟩
def Yc2:V→List V→Hp→VK→Prop:=fun x vs H Q=>∃ (z y:Str),x = .str z∧vs=[.str y]∧Q (.int (Txt.find z y)) H
theorem Ydq:MtR X "str.find" Yc2:=by
 intro pins s σ H x vs v us Q I rx r h
 obtain ⟨z,y,rfl,rfl,q⟩:=h
 obtain ⟨t,rfl⟩:=rx
 obtain ⟨u,rfl,ru⟩:=XF r
 obtain ⟨t',rfl⟩:=ru
 exact call_gives F.slot_str_find (typeIs_str s z t) F.entry_str_find (F.args_str_find_2 _ _) (gives_str_find z y t t') ⟨.int _,H,I.tok _,⟨_,rfl⟩,q⟩
def Yd3:TE:=fun _ H Q=>∀ p,H p=none→Q (.ref p) (upd H p (.dK []))
end
def Gx.ConT (g:Gx) (x:Str) (xs:List V):Prop:=∃ c,g.mg x=some (.ref c)∧∀ H,SqT g.K H c xs
theorem Ydr {K:PySem.W.Frag} {h:Heap} {mg:Str→Option Value} {x:Str} {i:Addr} {dc:Option Addr} {its:Array Value} {n:Nat} {sl:Array (Option Value)} {xs:List V} (X:K.In h) (G:h.Ns mainGlobals mg)
  (a:PySem.W.nsIn K mainGlobals x=some (some (.ref i))) (l:K.lookup i=some ⟨.type "tuple",dc,.seq its n,sl⟩) (hz:its.size≤sizeLine) (r:Yn xs its.toList):∀ P w base,(Gx.mk P w K mg base).ConT x xs :=
 fun P w base=>⟨i,PySem.W.mg_of X G a,fun H => .inr ⟨_,its,n,l,rfl,rfl,hz,r⟩⟩
section
variable {X:Cx} {g:Gx} {x:Str} {pos:Pos}
def Yc3 (K:PySem.W.Frag) (xs:List V):TE:=fun _ H Q=>∀ c,SqT K H c xs→Q (.ref c) H
theorem Yc4 {xs:List V} (F:g.ConT x xs) (hX:X.gx=g) (hg:Gl X x) (hd:(x==("__debug__":Str))=false):PE X (.Name x pos) (Yc3 g.K xs):=by
 subst hX
 obtain ⟨c,e,hc⟩:=F
 exact fun pins s σ H Q I h=>Ydc hg e (show Yr (.ref c) (.ref c) from rfl) hd pins s σ H Q I (h c (hc H))
end
end L2
namespace L2
open PySem PySem.Spec PyProof.Rows
theorem Ym {c A B:Prop} [Decidable c] (h:¬ c) (hb:B):if c then A else B:=by rw [if_neg h];exact hb
theorem XT {c A B:Prop} [Decidable c] (h:c) (ha:A):if c then A else B:=by rw [if_pos h];exact ha
section
variable {src:List (Option Nat)} {te:TE} {σ:St} {H:Hp} {Q:VK}
theorem Yao {tl:TE} {l:List Nat} (ys:List V) (ha:∀ R:V→Hp→Prop,R (.str (S l)) H→tl σ H R) (hl:ys.length=l.length) (hlen:l.length≤100000)
  (step:∀ (i c:Nat) y H',l[i]?=some c→ys[i]?=some y→Yb H H'→∀ R:VK,(∀ H'',Yb H' H''→R y H'')→te (some (.str (S [c]))::Yw src σ) H' R)
  (fin:∀ D H',H D=none→Yb H H'→H' D=some (.lst ys)→Q (.ref D) H'):tLC (none::src) (iStr tl) (Ys 0) Xs te σ H Q :=
 ha _ ⟨S l,rfl,fun D hD=>Qe (Ybv (S l) (fun _=>True)) ys (fun _ _=>trivial) hD (by rw [Xt];simpa using hl) (by rw [Xt];simpa using hlen) (fun i x y H' hx hy sm R r=>by
  rw [Xt,List.getElem?_map] at hx
  cases e:l[i]? with
  | none=>rw [e] at hx;cases hx
  | some c =>
   rw [e] at hx
   have:V.str ⟨#[c]⟩=x:=Option.some.inj hx
   subst this
   exact step i c y H' e hy sm R r) fun H'=>fin D H' hD⟩
end
section
variable {X:Cx} {K:PySem.W.Frag} {o e:Expr} {es:List Expr} {to:TE} {t:TA} {name:Str} {apos cpos:Pos} {T id:String} {r:V→List V→Hp→VK→Prop}
theorem Yd4 (pa:PlainAttrs T) (slot:Slot T name id) (hty:typeOf (.builtin id)=pure (.type "method_descriptor")) (hm:MtR X id r) (ho:PE X o to) (ha:PA X (e::es) t)
  (hbase:attributeBase o name X.env (eval o X.env)=eval o X.env)
  (hfew:((backTo cpos (starEach (e::es) X.env)).all (fun x => !x.1)&&(backToKw cpos (keywordEach [] X.env)).all (fun x=>x.1.isSome)
   && decide ((e::es).length+([]:List Keyword).length+(if ([]:List Keyword).isEmpty then 0 else 1)<30))=true)
  (hline:(apos.endLine==cpos.line)=true) (hs:starEach (e::es) X.env=(false,eval e X.env)::starEach es X.env) (hplain:(backTo cpos (starEach es X.env)).any (·.1)=false) (hK:X.K=K) :
  PE X (.Call (.Attribute o name apos) (e::es) [] cpos) (tBM K T r to t):=by
 subst hK
 exact XH pa slot hty hm ho ha hbase hfew hline hs hplain
end
section
variable {X:Cx}
def Yc5 (i j:Int):Prop:=UT i j∨CMul i j
theorem Yap:OpR X (binaryOp .Mult) (rI Yc5 fun i j => .int (i*j)):=opI fun _ _ _ _ _ _ _ hc q=>mul_int q (hc.elim (fun h=>h.ok) fun h=>h.ok)
end
theorem Yds (l:List Nat) (c:Nat):(!(Builtin.Str.occurrences (S l) (S [c]) 0 (S l).length 1).isEmpty)=decide (c∈l):=by
 have:=PySem.StrLaws.found_one (S l) c
 rw [Xt] at this
 exact this
end L2
namespace L2
open PySem PySem.Spec PyProof.Rows
abbrev X9 (h:Heap) (z TI TO:Addr) (f0:Value) (f1:Bool):Prop :=
 h.get? z=some { cls := .type "zip",dict:=none,data := .fields #[f0,.bool f1,.bool false,.ref TI,.ref TO],slots:=#[] }
section
variable {prog:Program} {w:World} {A:Around} {E:Value→Shared→Prop} {s:Shared} {z TI TO i1 i2 T:Addr} {S1 S2:Nat→Heap→Prop} {R1 R2:Heap→(Nat→Option Value)→Prop} {g1 g2:Nat→Option Value} {k:Nat} {a b:Value} {f:Bool} {oT:Obj}
theorem Qg {x y:Value} {Q:Option Value→Shared→Prop} (D:ZApart z TI TO i1 i2) (U1:Sub prog w i1 S1 R1) (U2:Sub prog w i2 S2 R2)
  (k1:∀ h h' g,R1 h g→(∀ c o,c≠z→c≠TO→c≠i1→c≠i2→h.get? c=some o→h'.get? c=some o)→R1 h' g) (k2:∀ h h' g,R2 h g→(∀ c o,c≠z→c≠TO→c≠i1→c≠i2→h.get? c=some o→h'.get? c=some o)→R2 h' g)
  (hz:X9 s.heap z TI TO (rawInt T) f) (hTI:IsPair s.heap TI (.ref i1) (.ref i2)) (hT:s.heap.get? T=some oT) (h1:S1 k s.heap) (h2:S2 k s.heap) (r1:R1 s.heap g1) (r2:R2 s.heap g2) (hx:g1 k=some x) (hy:g2 k=some y)
  (hQ:∀ h' tk,X9 h' z TI TO (rawInt T) true→S1 (k+1) h'→S2 (k+1) h'→IsPair h' s.heap.objs.size x y→h'.objs.size=s.heap.objs.size+1 →
   (∀ c o,c≠z→c≠i1→c≠i2→s.heap.get? c=some o→h'.get? c=some o)→Q (some (.ref s.heap.objs.size)) { s with heap:=h',toks:=tk }) :
  wpAny (model prog w) A (pyNext (.ref z)) Q E s:=by
 have hTy:s.TypeIs (.ref z) "zip":=⟨_,hz,rfl⟩
 unfold pyNext
 refine wpAny_bind (wpAny_attempt (wpAny_callSpecial?_slot (name:=Str.ofString "__next__") hTy F.slot_zip_next (wpAny_call_entry F.slot_zip_next hTy F.entry_zip_next ?_ (F.args_zip_next_1 _))))
 show wpAny _ _ (field (.ref z) 2 >>= _) _ _ _
 refine wpAny_bind (wpAny_field hz rfl (x := .bool false) rfl ?_)
 show wpAny _ _ (field (.ref z) 3 >>= _) _ _ _
 refine wpAny_bind (wpAny_field hz rfl (x := .ref TI) rfl ?_)
 refine wpAny_bind (wpAny_seqItems hTI rfl ?_)
 show wpAny _ _ (Builtin.SmallTypes.ownedTupleIsFree (.ref z) >>= _) _ _ _
 refine wpAny_bind ?_
 unfold Builtin.SmallTypes.ownedTupleIsFree
 refine wpAny_bind (wpAny_field hz rfl (x:=rawInt T) rfl ?_)
 show wpAny _ _ (loadIfAlive ((T:Int).toNat) >>= _) _ _ _
 rw [Int.toNat_natCast]
 refine wpAny_bind (PySem.W.kdx_alive hT ?_)
 simp only [Option.isNone_some,Bool.false_eq_true,if_false]
 refine wpAny_bind (wpAny_field hz rfl (x := .bool f) rfl ?_)
 have step:∀ (P:Bool→Shared→Prop) (E':Value→Shared→Prop),(∀ h₀:Heap,X9 h₀ z TI TO (rawInt T) true→Heap.SameBut z s.heap h₀→P false { s with heap:=h₀ }) →
   wpAny (model prog w) A.in1 (if (Value.bool f != Value.bool true)=true then do setField (Value.ref z) 1 (Value.bool true);pure false else pure false) P E' s:=by
  intro P E' h
  cases f with
  | true =>
   rw [if_neg (show ¬ ((Value.bool true != Value.bool true)=true) from Bool.false_ne_true)]
   exact wpAny_pure (h s.heap hz (Heap.SameBut.refl _ _))
  | false =>
   rw [if_pos (show (Value.bool false != Value.bool true)=true from rfl)]
   exact wpAny_bind (wpAny_setField_rec hz (by simp) fun h₃ he₃ hs₃=>wpAny_pure (h h₃ he₃ hs₃))
 refine step _ _ fun h₀ hz₀ hs₀=>?_
 simp only [Bool.false_eq_true,if_false]
 have S1₀:S1 k h₀:=U1.keep _ _ _ h1 fun o e=>hs₀.extBut _ _ D.c e
 have R1₀:R1 h₀ g1:=k1 _ _ _ r1 fun c o c1 _ _ _ e=>hs₀.extBut _ _ c1 e
 rw [← Array.forIn_toList]
 simp only [List.forIn_cons,List.forIn_nil]
 refine wpAny_bind (wpAny_bind (wpAny_bind (wpAny_holding ?_)))
 show wpAny _ _ (Builtin.SmallTypes.nextOf (.ref i1) >>= _) _ _ _
 refine wpAny_bind (U1.item _ k { s with heap:=h₀ } g1 x _ _ S1₀ R1₀ hx fun h₂ tk₂ S1₂ hs₂=>wpAny_pure ?_)
 have kk₂:∀ c o,c≠z→c≠i1→s.heap.get? c=some o→h₂.get? c=some o:=fun c o c1 c3 e=>hs₂.extBut _ _ c3 (hs₀.extBut _ _ c1 e)
 refine wpAny_pure ?_
 dsimp only
 have S2₂:S2 k h₂:=U2.keep _ _ _ h2 fun o e=>hs₂.extBut _ _ D.j.symm (hs₀.extBut _ _ D.d e)
 refine wpAny_bind (wpAny_bind (wpAny_holding ?_))
 show wpAny _ _ (Builtin.SmallTypes.nextOf (.ref i2) >>= _) _ _ _
 refine wpAny_bind (U2.item _ k { s with heap:=h₂,toks:=tk₂ } g2 y _ _ S2₂ (k2 _ _ _ r2 fun c o c1 c2 c3 c4 e=>kk₂ c o c1 c3 e) hy fun h₄ tk₄ S2₄ hs₄=>wpAny_pure ?_)
 refine wpAny_pure (wpAny_pure ?_)
 dsimp only
 refine wpAny_bind (wpAny_newTuple ?_ (show (2:Nat)≤sizeLine by decide))
 have hsz:h₄.objs.size=s.heap.objs.size:=by rw [hs₄.1,hs₂.1,hs₀.1]
 have hz₄:X9 h₄ z TI TO (rawInt T) true:=hs₄.extBut _ _ D.d.symm (hs₂.extBut _ _ D.c.symm hz₀)
 refine wpAny_pure ⟨_,rfl,wpAny_pure ?_⟩
 show Q (some (.ref h₄.objs.size)) _
 have hlast:=hQ (h₄.push { cls := .type "tuple",data := .seq #[x,y] }) tk₄ (Heap.get?_push_of_some _ hz₄) (U1.keep _ _ _ S1₂ fun o e=>Heap.get?_push_of_some _ (hs₄.extBut _ _ D.j e)) (U2.keep _ _ _ S2₄ fun o e=>Heap.get?_push_of_some _ e)
  (by rw [← hsz];exact Heap.get?_push_size _ rfl) (by rw [Heap.size_push,hsz]) fun c o c1 c3 c4 e=>Heap.get?_push_of_some _ (hs₄.extBut _ _ c4 (kk₂ c o c1 c3 e))
 rw [hsz]
 exact hlast
theorem QW {Q:Option Value→Shared→Prop} (hh:A.handled=none) (D:ZApart z TI TO i1 i2) (U1:Sub prog w i1 S1 R1) (U2:Sub prog w i2 S2 R2)
  (k1:∀ h h' g,R1 h g→(∀ c o,c≠z→c≠TO→c≠i1→c≠i2→h.get? c=some o→h'.get? c=some o)→R1 h' g)
  (hz:X9 s.heap z TI TO (rawInt T) f) (hTI:IsPair s.heap TI (.ref i1) (.ref i2)) (hT:s.heap.get? T=some oT) (h1:S1 k s.heap) (r1:R1 s.heap g1) (hend:g1 k=none)
  (hQ:∀ h' tk,(∀ c o,c≠z→c≠i1→c≠i2→s.heap.get? c=some o→h'.get? c=some o)→Q none { s with heap:=h',toks:=tk }):wpAny (model prog w) A (pyNext (.ref z)) Q E s:=by
 have hTy:s.TypeIs (.ref z) "zip":=⟨_,hz,rfl⟩
 unfold pyNext
 refine wpAny_bind (wpAny_attempt (wpAny_callSpecial?_slot (name:=Str.ofString "__next__") hTy F.slot_zip_next (wpAny_call_entry F.slot_zip_next hTy F.entry_zip_next ?_ (F.args_zip_next_1 _))))
 show wpAny _ _ (field (.ref z) 2 >>= _) _ _ _
 refine wpAny_bind (wpAny_field hz rfl (x := .bool false) rfl ?_)
 show wpAny _ _ (field (.ref z) 3 >>= _) _ _ _
 refine wpAny_bind (wpAny_field hz rfl (x := .ref TI) rfl ?_)
 refine wpAny_bind (wpAny_seqItems hTI rfl ?_)
 show wpAny _ _ (Builtin.SmallTypes.ownedTupleIsFree (.ref z) >>= _) _ _ _
 refine wpAny_bind ?_
 unfold Builtin.SmallTypes.ownedTupleIsFree
 refine wpAny_bind (wpAny_field hz rfl (x:=rawInt T) rfl ?_)
 show wpAny _ _ (loadIfAlive ((T:Int).toNat) >>= _) _ _ _
 rw [Int.toNat_natCast]
 refine wpAny_bind (PySem.W.kdx_alive hT ?_)
 simp only [Option.isNone_some,Bool.false_eq_true,if_false]
 refine wpAny_bind (wpAny_field hz rfl (x := .bool f) rfl ?_)
 have step:∀ (P:Bool→Shared→Prop) (E':Value→Shared→Prop),(∀ h₀:Heap,X9 h₀ z TI TO (rawInt T) true→Heap.SameBut z s.heap h₀→P false { s with heap:=h₀ }) →
   wpAny (model prog w) A.in1 (if (Value.bool f != Value.bool true)=true then do setField (Value.ref z) 1 (Value.bool true);pure false else pure false) P E' s:=by
  intro P E' h
  cases f with
  | true =>
   rw [if_neg (show ¬ ((Value.bool true != Value.bool true)=true) from Bool.false_ne_true)]
   exact wpAny_pure (h s.heap hz (Heap.SameBut.refl _ _))
  | false =>
   rw [if_pos (show (Value.bool false != Value.bool true)=true from rfl)]
   exact wpAny_bind (wpAny_setField_rec hz (by simp) fun h₃ he₃ hs₃=>wpAny_pure (h h₃ he₃ hs₃))
 refine step _ _ fun h₀ hz₀ hs₀=>?_
 simp only [Bool.false_eq_true,if_false]
 have S1₀:S1 k h₀:=U1.keep _ _ _ h1 fun o e=>hs₀.extBut _ _ D.c e
 have R1₀:R1 h₀ g1:=k1 _ _ _ r1 fun c o c1 _ _ _ e=>hs₀.extBut _ _ c1 e
 rw [← Array.forIn_toList]
 simp only [List.forIn_cons,List.forIn_nil]
 refine wpAny_bind (wpAny_bind (wpAny_bind (wpAny_holding ?_)))
 show wpAny _ _ (Builtin.SmallTypes.nextOf (.ref i1) >>= _) _ _ _
 refine wpAny_bind (U1.fin _ k { s with heap:=h₀ } g1 _ _ hh S1₀ R1₀ hend fun h₂ e hs₂ he=>?_)
 obtain ⟨oe,hoe,hce⟩:=he
 refine wpAny_bind (wpAny_isInstance (T:="StopIteration") (b:=true) ⟨oe,hoe,hce⟩ isSubtype_stop ?_)
 exact wpAny_pure (hQ h₂ s.toks fun c o c1 c3 c4 x=>hs₂ _ _ c3 (hs₀.extBut _ _ c1 x))
end
section
variable {prog:Program} {w:World} {A:Around} {s:Shared} {R:Result→Shared→Prop} {z TI TO i1 i2 S p1 p2:Addr} {xs ys:List Value}
def ZSt (h:Heap) (z TI TO i1 i2 p1 p2:Addr) (i:Nat) (as:List Addr):Prop :=
 IsPair h TI (.ref i1) (.ref i2)∧h.IsTupleIter i1 p1 i∧h.IsTupleIter i2 p2 i∧((i=0∧IsZip h z TI TO .none∧∃ a b,IsPair h TO a b)∨∃ T f,T∈as∧X9 h z TI TO (rawInt T) f)
theorem Ycj (hh:A.handled=none) (D:ZApart z TI TO i1 i2) (lo:Nat) (hlo:z<lo∧TI<lo∧TO<lo∧i1<lo∧i2<lo∧S<lo∧p1<lo∧p2<lo) (nS:S∉[z,TI,TO,i1,i2,p1,p2]) (n1:p1∉[z,TO,i1,i2]) (n2:p2∉[z,TO,i1,i2]) (hl:xs.length=ys.length) (hn:xs.length≤sizeLine) (res:Value) {h₁:Heap}
  (hR:∀ (h':Heap) (tk:Nat) (acc:Array Value) (c:Nat) (as:List Addr),(∀ b o,b∉[S,z,TO,i1,i2]→h₁.get? b=some o→h'.get? b=some o)→h'.get? S=some { cls := .type "list",dict:=none,data := .seq acc c,slots:=#[] }→as.length=xs.length→acc.toList=as.map Value.ref →
   as.Pairwise (·<·)→(∀ a∈as,lo≤a)→(∀ (j:Nat) a x y,as[j]?=some a→xs[j]?=some x→ys[j]?=some y→IsPair h' a x y)→R (.ok (.ret res)) { s with heap:=h',toks:=tk }) :
  ∀ (k i:Nat) (h:Heap) (tk c:Nat) (acc:Array Value) (as:List Addr),xs.length - i=k→i≤xs.length→ZSt h z TI TO i1 i2 p1 p2 i as→h.IsTuple p1 xs.toArray→h.IsTuple p2 ys.toArray→(∀ b o,b∉[S,z,TO,i1,i2]→h₁.get? b=some o→h.get? b=some o) →
   h.get? S=some { cls := .type "list",dict:=none,data := .seq acc c,slots:=#[] }→acc.toList=as.map Value.ref→as.length=i→as.Pairwise (·<·)→(∀ a∈as,lo≤a∧a<h.objs.size)→(∀ (j:Nat) a x y,as[j]?=some a→xs[j]?=some x→ys[j]?=some y→IsPair h a x y)→lo≤h.objs.size →
   codeAny (model prog w) A (.builtin "list.extend.loop" ⟨[.ref S,.ref z,res],[]⟩) R { s with heap:=h,toks:=tk }:=by
 intro k
 have nz:S≠z:=fun e=>nS (by simp [e])
 have nTI:S≠TI:=fun e=>nS (by simp [e])
 have nTO:S≠TO:=fun e=>nS (by simp [e])
 have ni1:S≠i1:=fun e=>nS (by simp [e])
 have ni2:S≠i2:=fun e=>nS (by simp [e])
 have np1:S≠p1:=fun e=>nS (by simp [e])
 have np2:S≠p2:=fun e=>nS (by simp [e])
 have q1:p1≠z∧p1≠TO∧p1≠i1∧p1≠i2:=⟨fun e=>n1 (by simp [e]),fun e=>n1 (by simp [e]),fun e=>n1 (by simp [e]),fun e=>n1 (by simp [e])⟩
 have q2:p2≠z∧p2≠TO∧p2≠i1∧p2≠i2:=⟨fun e=>n2 (by simp [e]),fun e=>n2 (by simp [e]),fun e=>n2 (by simp [e]),fun e=>n2 (by simp [e])⟩
 have big:∀ {a:Addr},lo≤a→a≠z∧a≠TO∧a≠i1∧a≠i2∧a≠S:=fun {a} ha=>by
  obtain ⟨l1,l2,l3,l4,l5,l6,_⟩:=hlo
  refine ⟨?_,?_,?_,?_,?_⟩<;>(intro e;subst e;exact absurd ha (Nat.not_le.mpr (by assumption)))
 have rdy1:∀ h:Heap,h.IsTuple p1 xs.toArray→∃ items:Array Value,h.IsTuple p1 items∧∀ k:Nat,(fun k:Nat=>xs[k]?) k=items[k]?:=fun h e=>⟨_,e,fun (k:Nat)=>by simp⟩
 have rdy2:∀ h:Heap,h.IsTuple p2 ys.toArray→∃ items:Array Value,h.IsTuple p2 items∧∀ k:Nat,(fun k:Nat=>ys[k]?) k=items[k]?:=fun h e=>⟨_,e,fun (k:Nat)=>by simp⟩
 have kp1:∀ (h h':Heap) (g:Nat→Option Value),(∃ items:Array Value,h.IsTuple p1 items∧∀ k,g k=items[k]?)→(∀ c o,c≠z→c≠TO→c≠i1→c≠i2→h.get? c=some o→h'.get? c=some o)→∃ items:Array Value,h'.IsTuple p1 items∧∀ k,g k=items[k]? :=
  fun h h' g ⟨items,⟨o,e,r⟩,q⟩ k=>⟨items,⟨o,k _ o q1.1 q1.2.1 q1.2.2.1 q1.2.2.2 e,r⟩,q⟩
 have kp2:∀ (h h':Heap) (g:Nat→Option Value),(∃ items:Array Value,h.IsTuple p2 items∧∀ k,g k=items[k]?)→(∀ c o,c≠z→c≠TO→c≠i1→c≠i2→h.get? c=some o→h'.get? c=some o)→∃ items:Array Value,h'.IsTuple p2 items∧∀ k,g k=items[k]? :=
  fun h h' g ⟨items,⟨o,e,r⟩,q⟩ k=>⟨items,⟨o,k _ o q2.1 q2.2.1 q2.2.2.1 q2.2.2.2 e,r⟩,q⟩
 induction k with
 | zero =>
  intro i h tk c acc as hk hi hst ht1 ht2 hkeep hS hacc hal hpw hab hpr hlo'
  have hin:i=xs.length:=by omega
  refine codeAny_builtin PySem.F.entry_extend_loop ?_
  rw [Around.under_plainId PySem.F.plain_extend_loop _]
  show wpAny _ A.in1 (pyNext (.ref z) >>= _) _ _ _
  obtain ⟨hTI,hi1,hi2,hzs⟩:=hst
  have fin:∀ h' tk',(∀ b o,b≠z→b≠TO→b≠i1→b≠i2→h.get? b=some o→h'.get? b=some o)→R (.ok (.ret res)) { s with heap:=h',toks:=tk' }:=fun h' tk' kp=>by
   refine hR h' tk' acc c as (fun b o hb e=>?_) (kp S _ nz nTO ni1 ni2 hS) (by omega) hacc hpw (fun a ha=>(hab a ha).1) (fun j a x y h1 h2 h3=>?_)
   ·simp only [List.mem_cons,List.not_mem_nil,or_false,not_or] at hb
    exact kp b o hb.2.1 hb.2.2.1 hb.2.2.2.1 hb.2.2.2.2 (hkeep b o (by simp [hb]) e)
   ·have hb:=big (hab a (List.mem_of_getElem? h1)).1
    exact kp a _ hb.1 hb.2.1 hb.2.2.1 hb.2.2.2.1 (hpr j a x y h1 h2 h3)
  rcases hzs with ⟨e0,hz,a,b,hTO⟩ | ⟨T,f,hT,hz⟩
  ·refine wpAny_bind (Yaj (s:={ s with heap:=h,toks:=tk }) (A:=A.in1) (k:=i) hh D (Xa i1 p1) (Xa i2 p2) kp1 kp2 hz hTI hTO hi1 hi2 (rdy1 h ht1) (rdy2 h ht2) (.inl (List.getElem?_eq_none (by omega))) fun h' tk' kp=>wpAny_pure (fin h' tk' kp))
  ·obtain ⟨j,hj⟩:=List.mem_iff_getElem?.mp hT
   have hjl:=(List.getElem?_eq_some_iff.mp hj).1
   have:=hpr j T _ _ hj (List.getElem?_eq_getElem (show j<xs.length by omega)) (List.getElem?_eq_getElem (show j<ys.length by omega))
   refine wpAny_bind (QW (s:={ s with heap:=h,toks:=tk }) (A:=A.in1) (k:=i) hh D (Xa i1 p1) (Xa i2 p2) kp1 hz hTI this hi1 (rdy1 h ht1) (List.getElem?_eq_none (by omega)) fun h' tk' kp=>wpAny_pure (fin h' tk' fun b o b1 _ b3 b4 e=>kp b o b1 b3 b4 e))
 | succ k ih =>
  intro i h tk c acc as hk hi hst ht1 ht2 hkeep hS hacc hal hpw hab hpr hlo'
  have hlt:i<xs.length:=by omega
  have hlt2:i<ys.length:=by omega
  have hx:xs[i]?=some xs[i]:=List.getElem?_eq_getElem hlt
  have hy:ys[i]?=some ys[i]:=List.getElem?_eq_getElem hlt2
  have hsz:acc.size=i:=by rw [← Array.length_toList,hacc,List.length_map,hal]
  refine codeAny_builtin PySem.F.entry_extend_loop ?_
  rw [Around.under_plainId PySem.F.plain_extend_loop _]
  show wpAny _ A.in1 (pyNext (.ref z) >>= _) _ _ _
  obtain ⟨hTI,hi1,hi2,hzs⟩:=hst
  have step:∀ (Q:Option Value→Shared→Prop) (E:Value→Shared→Prop),(∀ (h':Heap) (tk':Nat) (T:Addr) (f:Bool),T∈as++[h.objs.size]→X9 h' z TI TO (rawInt T) f→h'.IsTupleIter i1 p1 (i+1)→h'.IsTupleIter i2 p2 (i+1)→IsPair h' h.objs.size xs[i] ys[i]→h'.objs.size=h.objs.size+1 →
    (∀ c o,c≠z→c≠TO→c≠i1→c≠i2→h.get? c=some o→h'.get? c=some o)→Q (some (.ref h.objs.size)) { s with heap:=h',toks:=tk' })→wpAny (model prog w) A.in1 (pyNext (.ref z)) Q E { s with heap:=h,toks:=tk }:=by
   intro Q E hq
   rcases hzs with ⟨e0,hz,a,b,hTO⟩ | ⟨T,f,hT,hz⟩
   ·exact Qc (s:={ s with heap:=h,toks:=tk }) (A:=A.in1) (k:=i) D (Xa i1 p1) (Xa i2 p2) kp1 kp2 hz hTI hTO hi1 hi2 (rdy1 h ht1) (rdy2 h ht2) hx hy fun h' tk' hz' _ s1 s2 hp hs kp=>hq h' tk' h.objs.size _ (by simp) hz' s1 s2 hp hs kp
   ·obtain ⟨j,hj⟩:=List.mem_iff_getElem?.mp hT
    have hjl:=(List.getElem?_eq_some_iff.mp hj).1
    have:=hpr j T _ _ hj (List.getElem?_eq_getElem (show j<xs.length by omega)) (List.getElem?_eq_getElem (show j<ys.length by omega))
    exact Qg (s:={ s with heap:=h,toks:=tk }) (A:=A.in1) (k:=i) D (Xa i1 p1) (Xa i2 p2) kp1 kp2 hz hTI this hi1 hi2 (rdy1 h ht1) (rdy2 h ht2) hx hy fun h' tk' hz' s1 s2 hp hs kp=>hq h' tk' T _ (by simp [hT]) hz' s1 s2 hp hs fun c o c1 _ c3 c4 e=>kp c o c1 c3 c4 e
  refine wpAny_bind (step _ _ fun h' tk' T f hT hz' s1 s2 hp hs hkp=>?_)
  have hS':=hkp S _ nz nTO ni1 ni2 hS
  have up:∀ b o,b≠S→h'.get? b=some o→(h'.update S (Obj.mapSeq (·.push (Value.ref h.objs.size)))).get? b=some o:=fun b o hb e=>(Heap.get?_update_other _ _ (Ne.symm hb)).trans e
  have hSl:S<h.objs.size:=Heap.lt_size hS
  have np:h.objs.size≠S:=Nat.ne_of_gt hSl
  show wpAny _ A.in1 (updateSeq S (·.push (Value.ref h.objs.size)) >>= _) _ _ _
  refine wpAny_bind ?_
  refine wpAny_updateSeq hS' rfl (wpAny_pure ⟨plainId_quiet PySem.F.plain_extend_loop _,ih (i+1) _ tk' _ (acc.push (Value.ref h.objs.size)) (as++[h.objs.size]) (by omega) hlt ⟨?_,?_,?_,.inr ⟨T,f,hT,up _ _ nz.symm hz'⟩⟩ ?_ ?_
   (fun b o hb e=>?_) (Heap.get?_update_self _ hS' rfl) (by rw [Array.toList_push,hacc,List.map_append];rfl) (by rw [List.length_append,hal];rfl) ?_ ?_ ?_ ?_⟩) (by rw [hsz];omega) (by show (acc.push (Value.ref h.objs.size)).size≤sizeLine+1;rw [Array.size_push,hsz];omega)
  ·exact up _ _ nTI.symm (hkp TI _ D.a D.e D.f D.g hTI)
  ·obtain ⟨o,e,r⟩:=s1
   exact ⟨o,up _ _ ni1.symm e,r⟩
  ·obtain ⟨o,e,r⟩:=s2
   exact ⟨o,up _ _ ni2.symm e,r⟩
  ·obtain ⟨o,e,r⟩:=ht1
   exact ⟨o,up _ _ np1.symm (hkp _ _ q1.1 q1.2.1 q1.2.2.1 q1.2.2.2 e),r⟩
  ·obtain ⟨o,e,r⟩:=ht2
   exact ⟨o,up _ _ np2.symm (hkp _ _ q2.1 q2.2.1 q2.2.2.1 q2.2.2.2 e),r⟩
  ·have hb':=hb
   simp only [List.mem_cons,List.not_mem_nil,or_false,not_or] at hb'
   exact up b o hb'.1 (hkp b o hb'.2.1 hb'.2.2.1 hb'.2.2.2.1 hb'.2.2.2.2 (hkeep b o hb e))
  ·refine List.pairwise_append.mpr ⟨hpw,List.pairwise_singleton _ _,fun a ha b hb=>?_⟩
   rw [List.mem_singleton.mp hb]
   exact (hab a ha).2
  ·have hsz':(h'.update S (Obj.mapSeq (·.push (Value.ref h.objs.size)))).objs.size=h.objs.size+1:=by rw [← hs];exact Heap.size_update _ _ _
   intro a ha
   rw [hsz']
   rcases List.mem_append.mp ha with ha | ha
   ·exact ⟨(hab a ha).1,Nat.lt_succ_of_lt (hab a ha).2⟩
   ·rw [List.mem_singleton.mp ha];exact ⟨hlo',Nat.lt_succ_self _⟩
  ·intro j b x y hj ex ey
   rcases Nat.lt_trichotomy j as.length with h1 | h1 | h1
   ·rw [List.getElem?_append_left h1] at hj
    have hb:=big (hab b (List.mem_of_getElem? hj)).1
    exact up b _ hb.2.2.2.2 (hkp b _ hb.1 hb.2.1 hb.2.2.1 hb.2.2.2.1 (hpr j b x y hj ex ey))
   ·subst h1
    have hb:h.objs.size=b:=by simpa using hj
    subst hb
    rw [hal] at ex ey
    rw [hx] at ex
    rw [hy] at ey
    cases ex
    cases ey
    exact up _ _ np hp
   ·have hnone:(as++[h.objs.size])[j]?=none:=List.getElem?_eq_none (by rw [List.length_append,List.length_singleton];omega)
    rw [hnone] at hj;cases hj
  ·have hsz':(h'.update S (Obj.mapSeq (·.push (Value.ref h.objs.size)))).objs.size=h.objs.size+1:=by rw [← hs];exact Heap.size_update _ _ _
   rw [hsz'];exact Nat.le_succ_of_le hlo'
end
end L2
namespace L2
open PySem PySem.Calls PySem.Spec PyProof.Rows PyProof.V
theorem YaP:typeLookup (.type "zip") "__len__"=pure none:=by rw [typeLookup_type,builtinLookup_eq_fast];kernel_rfl
theorem QX:typeLookup (.type "zip") "__length_hint__"=pure none:=by rw [typeLookup_type,builtinLookup_eq_fast];kernel_rfl
section
variable {prog:Program} {w:World} {A:Around} {E:Value→Shared→Prop} {s:Shared} {z TI TO i1 i2 p1 p2:Addr} {xs ys:List Value}
theorem Yck (hT:s.TypeIs (.ref z) "zip") {Q:Bool→Shared→Prop} (h:Q true s):wpAny (model prog w) A (Builtin.List.listLengthHint (.ref z)) Q E s:=by
 unfold Builtin.List.listLengthHint
 refine wpAny_bind (wpAny_specialOf hT YaP ?_)
 show wpAny _ _ (specialOf (.ref z) "__length_hint__" >>= _) _ _ _
 refine wpAny_bind (wpAny_specialOf hT QX ?_)
 exact wpAny_pure h
structure ZGot (xs ys:List Value) (lo:Nat) (h:Heap) (as:List Addr):Prop where
 len:as.length=xs.length
 rise:as.Pairwise (·<·)
 above:∀ a∈as,lo≤a
 pairs:∀ (j:Nat) a x y,as[j]?=some a→xs[j]?=some x→ys[j]?=some y→IsPair h a x y
theorem YaQ {R:Result→Shared→Prop} {S:Addr} {oa ob:Value} (hh:A.handled=none) (D:ZApart z TI TO i1 i2) (hlt:z<S∧TI<S∧TO<S∧i1<S∧i2<S∧p1<S∧p2<S) (n1:p1∉[z,TO,i1,i2]) (n2:p2∉[z,TO,i1,i2]) (hl:xs.length=ys.length) (hn:xs.length≤sizeLine) (res:Value) (c₀:Nat)
  (hz:IsZip s.heap z TI TO .none) (hTI:IsPair s.heap TI (.ref i1) (.ref i2)) (hTO:IsPair s.heap TO oa ob) (h1:s.heap.IsTupleIter i1 p1 0) (h2:s.heap.IsTupleIter i2 p2 0) (t1:s.heap.IsTuple p1 xs.toArray) (t2:s.heap.IsTuple p2 ys.toArray) (hS:s.heap.get? S=some { cls := .type "list",data := .seq #[] c₀ })
  (hR:∀ (h':Heap) (tk:Nat) (acc:Array Value) (c:Nat) (as:List Addr),(∀ b o,b∉[S,z,TO,i1,i2]→s.heap.get? b=some o→h'.get? b=some o)→h'.get? S=some { cls := .type "list",dict:=none,data := .seq acc c,slots:=#[] }→acc.toList=as.map Value.ref→ZGot xs ys (S+1) h' as→R (.ok (.ret res)) { s with heap:=h',toks:=tk }) :
  wpAny (model prog w) A.in1 (Builtin.List.listExtendWith (.ref S) (.ref z) res)
   (fun fin s'=>match fin with | .done f=>R (.ok f) s' | .again c'=>c'.quiet=true∧codeAny (model prog w) A c' R s') (fun e s'=>R (.error e) s') s:=by
 obtain ⟨l1,l2,l3,l4,l5,l6,l7⟩:=hlt
 have nS:S∉[z,TI,TO,i1,i2,p1,p2]:=by
  intro hm
  simp only [List.mem_cons,List.not_mem_nil,or_false] at hm
  rcases hm with e | e | e | e | e | e | e<;>(subst e;first | exact absurd l1 (Nat.lt_irrefl _) | exact absurd l2 (Nat.lt_irrefl _) | exact absurd l3 (Nat.lt_irrefl _) | exact absurd l4 (Nat.lt_irrefl _) | exact absurd l5 (Nat.lt_irrefl _) | exact absurd l6 (Nat.lt_irrefl _) | exact absurd l7 (Nat.lt_irrefl _))
 have key:∀ (h:Heap) (c₁ tk:Nat),(∀ b o,b≠S→s.heap.get? b=some o→h.get? b=some o)→h.get? S=some { cls := .type "list",data := .seq #[] c₁ }→codeAny (model prog w) A (.builtin "list.extend.loop" ⟨[.ref S,.ref z,res],[]⟩) R { s with heap:=h,toks:=tk }:=by
  intro h c₁ tk hk hS₁
  have m:∀ {b:Addr},b<S→∀ o,s.heap.get? b=some o→h.get? b=some o:=fun {b} hb o e=>hk b o (Nat.ne_of_lt hb) e
  refine Ycj (s:=s) (h₁:=s.heap) hh D (S+1) ⟨Nat.lt_succ_of_lt l1,Nat.lt_succ_of_lt l2,Nat.lt_succ_of_lt l3,Nat.lt_succ_of_lt l4,Nat.lt_succ_of_lt l5,Nat.lt_succ_self _,Nat.lt_succ_of_lt l6,Nat.lt_succ_of_lt l7⟩ nS n1 n2 hl hn res (fun h' tk' acc c as kp eS ln ac pw ab pr=>hR h' tk' acc c as kp eS ac ⟨ln,pw,ab,pr⟩)
   xs.length 0 h tk c₁ #[] [] (Nat.sub_zero _) (Nat.zero_le _) ⟨m l2 _ hTI,?_,?_,.inl ⟨rfl,m l1 _ hz,_,_,m l3 _ hTO⟩⟩ ?_ ?_ (fun b o hb e=>hk b o (fun q=>hb (by simp [q])) e) hS₁ rfl rfl List.Pairwise.nil (fun _ ha=>nomatch ha) (fun j a x y hj=>by simp at hj) (Heap.lt_size hS₁)
  ·obtain ⟨o,e,r⟩:=h1;exact ⟨o,m l4 _ e,r⟩
  ·obtain ⟨o,e,r⟩:=h2;exact ⟨o,m l5 _ e,r⟩
  ·obtain ⟨o,e,r⟩:=t1;exact ⟨o,m l6 _ e,r⟩
  ·obtain ⟨o,e,r⟩:=t2;exact ⟨o,m l7 _ e,r⟩
 have hT:s.TypeIs (.ref z) "zip":=⟨_,hz,rfl⟩
 unfold Builtin.List.listExtendWith
 refine wpAny_bind (wpAny_typeOf (T:="zip") hT ?_)
 have h1:Builtin.List.listSameRef (.ref S) (.ref z)=false:=by simp [Builtin.List.listSameRef,Nat.ne_of_gt l1]
 have h2:(Value.type "zip"==Value.type "list")=false:=by decide
 have h3:(Value.type "zip"==Value.type "tuple")=false:=by decide
 simp only [h1,h2,h3,Bool.or_false,Bool.false_eq_true,if_false]
 refine wpAny_bind (wpAny_pyIter_zip hz ?_)
 refine wpAny_bind (wpAny_holding (Yck hT ?_))
 refine wpAny_ite_split (fun _=>?_) (fun _=>wpAny_pure ⟨plainId_quiet PySem.F.plain_extend_loop _,key _ c₀ _ (fun b o _ e=>e) hS⟩)
 refine wpAny_bind (wpAny_rule ?_)
 refine wpAny_bind ?_
 show wpAny _ _ (updateSeq S (·.push .none) >>= fun _=>updateSeq S (·.pop)) _ _ _
 refine wpAny_bind (wpAny_updateSeq hS rfl ?_)
 have hS₂:=Heap.get?_update_self (Obj.mapSeq (·.push Value.none)) hS rfl
 refine wpAny_updateSeq (hz:=by seq_fits) hS₂ rfl ?_
 have hS₃:=Heap.get?_update_self (Obj.mapSeq (·.pop)) hS₂ rfl
 refine wpAny_pure ⟨plainId_quiet PySem.F.plain_extend_loop _,key _ _ _ (fun b o hb e=>?_) hS₃⟩
 exact (Heap.get?_update_other _ _ (Ne.symm hb)).trans ((Heap.get?_update_other _ _ (Ne.symm hb)).trans e)
theorem Ycl {R:Result→Shared→Prop} {S:Addr} {oa ob:Value} (hh:A.handled=none) (D:ZApart z TI TO i1 i2) (hlt:z<S∧TI<S∧TO<S∧i1<S∧i2<S∧p1<S∧p2<S) (n1:p1∉[z,TO,i1,i2]) (n2:p2∉[z,TO,i1,i2]) (hl:xs.length=ys.length) (hn:xs.length≤sizeLine)
  (hz:IsZip s.heap z TI TO .none) (hTI:IsPair s.heap TI (.ref i1) (.ref i2)) (hTO:IsPair s.heap TO oa ob) (h1:s.heap.IsTupleIter i1 p1 0) (h2:s.heap.IsTupleIter i2 p2 0) (t1:s.heap.IsTuple p1 xs.toArray) (t2:s.heap.IsTuple p2 ys.toArray) (hS:s.heap.get? S=some { cls := .type "list",data := .seq #[] })
  (hR:∀ (h':Heap) (tk:Nat) (acc:Array Value) (c:Nat) (as:List Addr),(∀ b o,b∉[S,z,TO,i1,i2]→s.heap.get? b=some o→h'.get? b=some o)→h'.get? S=some { cls := .type "list",dict:=none,data := .seq acc c,slots:=#[] }→acc.toList=as.map Value.ref→ZGot xs ys (S+1) h' as→R (.ok (.ret .none)) { s with heap:=h',toks:=tk }) :
  wpAny (model prog w) A.in1 (Builtin.«list.__init__» ⟨[.ref S,.ref z],[]⟩)
   (fun fin s'=>match fin with | .done f=>R (.ok f) s' | .again c'=>c'.quiet=true∧codeAny (model prog w) A c' R s') (fun e s'=>R (.error e) s') s:=by
 show wpAny _ _ (do let old ← Builtin.List.listItems (.ref S);Builtin.List.listUpdate (.ref S) (fun _=>#[]);letGo old.toList.reverse;Builtin.List.listExtendWith (.ref S) (.ref z) .none) _ _ s
 refine wpAny_bind ?_
 unfold Builtin.List.listItems
 refine wpAny_bind (wpAny_seqItems hS rfl (wpAny_pure ?_))
 show wpAny _ _ (updateSeq S (fun _=>#[]) >>= fun _=>letGo (#[]:Array Value).toList.reverse >>= fun _=>Builtin.List.listExtendWith (.ref S) (.ref z) .none) _ _ s
 refine wpAny_bind (wpAny_updateSeq hS rfl ?_)
 have hS₂:=Heap.get?_update_self (Obj.mapSeq (fun _=>(#[]:Array Value))) hS rfl
 have oth:∀ b o,b≠S→s.heap.get? b=some o→(s.heap.update S (Obj.mapSeq (fun _=>(#[]:Array Value)))).get? b=some o :=
  fun b o hb e=>(Heap.get?_update_other _ _ (Ne.symm hb)).trans e
 have m:∀ {b:Addr},b<S→∀ o,s.heap.get? b=some o→(s.heap.update S (Obj.mapSeq (fun _=>(#[]:Array Value)))).get? b=some o:=fun {b} hb o e=>oth b o (Nat.ne_of_lt hb) e
 refine wpAny_bind (wpAny_letGo ?_)
 refine YaQ (oa:=oa) (ob:=ob) (xs:=xs) (ys:=ys) hh D hlt n1 n2 hl hn .none _ (m hlt.1 _ hz) (m hlt.2.1 _ hTI) (m hlt.2.2.1 _ hTO) ?_ ?_ ?_ ?_ hS₂ (fun h' tk acc c as hk hS' hacc hG=>?_)
 ·obtain ⟨o,e,r⟩:=h1;exact ⟨o,m hlt.2.2.2.1 _ e,r⟩
 ·obtain ⟨o,e,r⟩:=h2;exact ⟨o,m hlt.2.2.2.2.1 _ e,r⟩
 ·obtain ⟨o,e,r⟩:=t1;exact ⟨o,m hlt.2.2.2.2.2.1 _ e,r⟩
 ·obtain ⟨o,e,r⟩:=t2;exact ⟨o,m hlt.2.2.2.2.2.2 _ e,r⟩
 ·exact hR h' tk acc c as (fun b o hb e=>hk b o hb (oth b o (fun q=>hb (by simp [q])) e)) hS' hacc hG
theorem UL {Q:Value→Shared→Prop} {oa ob:Value} (hh:A.handled=none) (D:ZApart z TI TO i1 i2) (n1:p1∉[z,TO,i1,i2]) (n2:p2∉[z,TO,i1,i2]) (hl:xs.length=ys.length) (hn:xs.length≤sizeLine)
  (hz:IsZip s.heap z TI TO .none) (hTI:IsPair s.heap TI (.ref i1) (.ref i2)) (hTO:IsPair s.heap TO oa ob) (h1:s.heap.IsTupleIter i1 p1 0) (h2:s.heap.IsTupleIter i2 p2 0) (t1:s.heap.IsTuple p1 xs.toArray) (t2:s.heap.IsTuple p2 ys.toArray)
  (hQ:∀ (h':Heap) (tk:Nat) (acc:Array Value) (c:Nat) (as:List Addr),(∀ b o,b∉[z,TO,i1,i2]→s.heap.get? b=some o→h'.get? b=some o)→h'.get? s.heap.objs.size=some { cls := .type "list",dict:=none,data := .seq acc c,slots:=#[] }→acc.toList=as.map Value.ref→ZGot xs ys (s.heap.objs.size+1) h' as→Q (.ref s.heap.objs.size) { s with heap:=h',toks:=tk }) :
  wpAny (model prog w) A (call (.type "list") [.ref z]) Q E s:=by
 refine callType_codes (Q₁:=fun obj s₁=>obj = .ref s.heap.objs.size∧s₁={ s with heap:=s.heap.push { cls := .type "list",data := .seq #[] } }) PySem.F.called_list (PySem.F.typeCall_list_1 _) PySem.F.entry_list_init
  (code_list_new _ ⟨rfl,rfl⟩) fun obj s₁ h₁=>?_
 obtain ⟨rfl,rfl⟩:=h₁
 have hS:(s.heap.push { cls := .type "list",data := .seq #[] }).get? s.heap.objs.size=some { cls := .type "list",data := .seq #[] }:=Heap.get?_push_size _ rfl
 obtain ⟨o1,e1,r1⟩:=h1
 obtain ⟨o2,e2,r2⟩:=h2
 obtain ⟨o3,e3,r3⟩:=t1
 obtain ⟨o4,e4,r4⟩:=t2
 refine ⟨⟨_,hS,rfl⟩,PySem.F.args_list_init_2 _ _,Ycl (oa:=oa) (ob:=ob) (xs:=xs) (ys:=ys) (A:=A.in1) hh D ⟨Heap.lt_size hz,Heap.lt_size hTI,Heap.lt_size hTO,Heap.lt_size e1,Heap.lt_size e2,Heap.lt_size e3,Heap.lt_size e4⟩ n1 n2 hl hn
  (Heap.get?_push_of_some _ hz) (Heap.get?_push_of_some _ hTI) (Heap.get?_push_of_some _ hTO) ⟨_,Heap.get?_push_of_some _ e1,r1⟩ ⟨_,Heap.get?_push_of_some _ e2,r2⟩ ⟨_,Heap.get?_push_of_some _ e3,r3⟩ ⟨_,Heap.get?_push_of_some _ e4,r4⟩ hS (fun h' tk acc c as hk hS' hacc hG=>?_)⟩
 exact ⟨rfl,hQ h' tk acc c as (fun b o hb e=>hk b o (fun q=>hb (by
  rcases List.mem_cons.mp q with q | q
  ·exact absurd (Heap.lt_size e) (by rw [q];exact Nat.lt_irrefl _)
  ·exact q)) (Heap.get?_push_of_some _ e)) hS' hacc hG⟩
end
end L2
namespace L2
open PySem PySem.Spec PyProof.Rows
section
variable {X:Cx} {pins:List (Addr×Obj)} {σ:St} {H H':Hp} {s:Shared} {h':Heap}
theorem Inv.turnedM {t':Nat} {ch:List Addr} (I:Inv X pins σ H s) (k:∀ b o,b∉ch→s.heap.get? b=some o→h'.get? b=some o) (hf:∀ b∈ch,Xr X pins H b) (up:∀ b u,H b=some u→H' b=some u)
  (nw:∀ b u,H' b=some u→H b=none→s.heap.objs.size≤b∧YJ X.prog X.w H' h' b u):Inv X pins σ H' { s with heap:=h',toks:=t' }:=by
 have nit:∀ b u,H b=some u→b∉ch:=fun b u e z=>by rw [(hf b z).1] at e;cases e
 refine I.step (g':=s.gens) (d':=s.drawn) (ch:=ch) (fun b hb=>?_) (fun b o _ _ hc e _=>k b o hc e) (fun b o _ _ hc e _=>⟨o.slots,k b o hc e⟩) (fun b o _ e n=>?_)
  (fun b o hc e=>⟨o,k b o hc e⟩) (fun b xs e=>up b _ e) (fun b o u e=>up b _ e) (fun b ps e=>⟨#[],by rw [up b _ e];simp⟩) (fun m hm=>?_) (fun b u e=>?_) I.bare
 ·obtain ⟨f0,f1,f2,f3,f4,f5⟩:=hf b hb
  exact ⟨f3,f1,f4,f5⟩
 ·cases q:H' b with
  | none=>rfl
  | some u=>exact absurd (Heap.lt_size e) (Nat.not_lt.mpr (nw b u q n).1)
 ·obtain ⟨o,es,ep,ho,r⟩:=hm
  exact ⟨o,es,ep,k _ o (fun z=>(hf _ z).2.1 rfl) ho,r⟩
 ·cases q:H b with
  | none=>exact (nw b u e q).2
  | some v =>
   have q':=up b v q
   rw [e] at q'
   cases q'
   refine (I.hok b u q).stay (fun c v hc q3=>k c v ?_ q3) (fun c q=>up c _ q) fun c xs q=>up c _ q
   rcases hc with z | z
   ·rw [z];exact nit b u q
   ·exact nit c _ z
end
theorem WV {β:Type}:∀ (as:List Addr) (ps:List β) (j:Nat) (a:Addr) (p:β),as.Pairwise (·<·)→as[j]?=some a→ps[j]?=some p→(as.zip ps).lookup a=some p
 | [],_,j,a,p,_,h,_=>by simp at h
 | _::_,[],j,a,p,_,_,h=>by simp at h
 | b::as,q::ps,0,a,p,_,h1,h2=>by
  simp only [List.getElem?_cons_zero,Option.some.injEq] at h1 h2
  subst h1;subst h2
  simp [List.lookup]
 | b::as,q::ps,j+1,a,p,hp,h1,h2=>by
  simp only [List.getElem?_cons_succ] at h1 h2
  obtain ⟨g1,g2⟩:=List.pairwise_cons.mp hp
  have hlt:b<a:=g1 a (List.mem_of_getElem? h1)
  have hne:(a==b)=false:=by simpa using Nat.ne_of_gt hlt
  simp only [List.zip_cons_cons,List.lookup,hne]
  exact WV as ps j a p g2 h1 h2
theorem Wb {β:Type}:∀ (as:List Addr) (ps:List β) (a:Addr) (p:β),(as.zip ps).lookup a=some p→∃ j:Nat,as[j]?=some a∧ps[j]?=some p
 | [],_,a,p,h=>by simp at h
 | _::_,[],a,p,h=>by simp at h
 | b::as,q::ps,a,p,h=>by
  simp only [List.zip_cons_cons,List.lookup] at h
  by_cases e:a=b
  ·subst e
   simp only [beq_self_eq_true,Option.some.injEq] at h
   exact ⟨0,by simp,by simp [h]⟩
  ·have hne:(a==b)=false:=by simpa using e
   simp only [hne] at h
   obtain ⟨j,h1,h2⟩:=Wb as ps a p h
   exact ⟨j+1,by simpa using h1,by simpa using h2⟩
section
variable {X:Cx}
def tLZ (K:PySem.W.Frag) (ta:TA):TE:=fun σ H Q=>ta σ H fun vs H1=>∃ a b xs ys,vs=[.ref a,.ref b]∧SqT K H1 a xs∧SqT K H1 b ys∧xs.length=ys.length ∧
 ∀ (l:Addr) (as:List Addr) (H2:Hp),H1 l=none→Yb H1 H2→H2 l=some (.lst (as.map V.ref))→as.length=xs.length →
  (∀ (j:Nat) a x y,as[j]?=some a→xs[j]?=some x→ys[j]?=some y→H1 a=none∧H2 a=some (.tup [x,y]))→Q (.ref l) H2
theorem Us:∀ as:List Addr,Yn (as.map V.ref) (as.map Value.ref)
 | [] => .nil
 | _::as => .cons rfl (Us as)
theorem Qh:∀ {xs:List V} {us:List Value},Yn xs us→∀ {j:Nat} {x:V},xs[j]?=some x→∃ u,us[j]?=some u∧Yr x u:=by
 intro xs us h
 induction h with
 | nil=>intro j x e;simp at e
 | cons r _ ih =>
  intro j x e
  cases j with
  | zero=>simp only [List.getElem?_cons_zero,Option.some.injEq] at e;subst e;exact ⟨_,rfl,r⟩
  | succ j=>simpa using ih (by simpa using e)
theorem QY {a b:Expr} {ta:TA} {p q pos pos':Pos} (hgl:Gl X "list") (hml:X.mg "list"=none) (hg:Gl X "zip") (hm:X.mg "zip"=none) (ha:PA X [a,b] ta) (hc:X.calm=true)
  (hs:starEach [a,b] X.env=[(false,eval a X.env),(false,eval b X.env)]) (hs2:starEach [b] X.env=[(false,eval b X.env)]) :
  PE X (.Call (.Name "list" p) [.Call (.Name "zip" q) [a,b] [] pos'] [] pos) (tLZ X.K ta):=by
 intro pins s σ H Q I h
 refine wpAny_Call_Name_kw (XA I hgl hml boot_list ?_)
 refine PyProof.Rows.callWith_type1 ?_
 show wpAny _ _ (spliced ((false,eval (.Call (.Name "zip" q) [a,b] [] pos') X.env)::[])) _ _ s
 refine Calls.spliced_cons ?_
 refine wpAny_Call_Name_kw (XA I hg hm boot_zip (PyProof.Rows.callWith_type1 (thn (ha pos' pins s σ H _ I h) fun us s1 ⟨vs,H1,I1,r1,q1⟩=>?_) (by rw [hs,hs2]) (by rw [hs2];rfl)))
 obtain ⟨x,y,xs,ys,e,hx,hy,hl,q⟩:=q1
 subst e
 obtain ⟨u,v,rfl,ru,rv⟩:=r1.two
 cases ru
 cases rv
 obtain ⟨i1,w1,ht1,z1⟩:=I1.tuple hx
 obtain ⟨i2,w2,ht2,z2⟩:=I1.tuple hy
 have l1:x<s1.heap.objs.size:=by obtain ⟨_,e,_⟩:=ht1;exact Heap.lt_size e
 have l2:y<s1.heap.objs.size:=by obtain ⟨_,e,_⟩:=ht2;exact Heap.lt_size e
 refine Uq (WT ht1) (WT ht2) rfl rfl fun h1 hz hTI hTO g1 g2 hsz keep=>?_
 refine Calls.spliced_nil ?_
 have I2:Inv X pins σ H1 { s1 with heap:=h1 }:=I1.kept (t':=s1.toks) keep
 have n1:x∉[s1.heap.objs.size+4,s1.heap.objs.size+3,s1.heap.objs.size,s1.heap.objs.size+1]:=by
  intro hm
  simp only [List.mem_cons,List.not_mem_nil,or_false] at hm
  rcases hm with e | e | e | e<;>(have e':@Eq Nat _ _:=e;have la':@LT.lt Nat _ x s1.heap.objs.size:=l1;omega)
 have n2:y∉[s1.heap.objs.size+4,s1.heap.objs.size+3,s1.heap.objs.size,s1.heap.objs.size+1]:=by
  intro hm
  simp only [List.mem_cons,List.not_mem_nil,or_false] at hm
  rcases hm with e | e | e | e<;>(have e':@Eq Nat _ _:=e;have la':@LT.lt Nat _ y s1.heap.objs.size:=l2;omega)
 have t1:h1.IsTuple x i1.toArray:=by obtain ⟨o,e,r⟩:=ht1;exact ⟨o,keep _ _ e,r⟩
 have t2:h1.IsTuple y i2.toArray:=by obtain ⟨o,e,r⟩:=ht2;exact ⟨o,keep _ _ e,r⟩
 have e1:=w1.length
 have e2:=w2.length
 refine UL (s:={ s1 with heap:=h1 }) (xs:=i1) (ys:=i2) (I2.ok.hd hc) (Vz s1.heap.objs.size) n1 n2 (by omega) (by omega) hz hTI hTO ⟨_,g1,rfl,rfl⟩ ⟨_,g2,rfl,rfl⟩ t1 t2 fun h' tk acc c as kp hS hacc hG=>?_
 let H2:Hp:=fun b=>if b=h1.objs.size then some (.lst (as.map V.ref)) else match (as.zip (xs.zip ys)).lookup b with | some p=>some (.tup [p.1,p.2]) | none=>H1 b
 have fr:∀ b,h1.objs.size≤b→H1 b=none:=fun b hb=>I2.hok.fresh hb
 have old:∀ b u,H1 b=some u→b<h1.objs.size:=fun b u e=>Nat.lt_of_not_le fun hb=>by rw [fr b hb] at e;cases e
 have lk:∀ b p,(as.zip (xs.zip ys)).lookup b=some p→h1.objs.size+1≤b:=fun b p e=>by
  obtain ⟨j,h1,_⟩:=Wb _ _ _ _ e
  exact hG.above b (List.mem_of_getElem? h1)
 have up:∀ b u,H1 b=some u→H2 b=some u:=fun b u e=>by
  have hb:=old b u e
  show (if b=h1.objs.size then _ else _)=_
  rw [if_neg (Nat.ne_of_lt hb)]
  cases e':(as.zip (xs.zip ys)).lookup b with
  | none=>exact e
  | some p=>exact absurd (Nat.lt_of_succ_le (lk b p e')) (Nat.not_lt.mpr (Nat.le_of_lt hb))
 have atj:∀ (j:Nat) a x y,as[j]?=some a→xs[j]?=some x→ys[j]?=some y→H2 a=some (.tup [x,y]):=fun j a x y h1' h2 h3=>by
  have ha:h1.objs.size+1≤a:=hG.above a (List.mem_of_getElem? h1')
  show (if a=h1.objs.size then _ else _)=_
  have hzz:(xs.zip ys)[j]?=some (x,y):=List.getElem?_zip_eq_some.mpr ⟨h2,h3⟩
  rw [if_neg (Nat.ne_of_gt (Nat.lt_of_succ_le ha)),WV as (xs.zip ys) j a (x,y) hG.rise h1' hzz]
 have hS2:H2 h1.objs.size=some (.lst (as.map V.ref)):=if_pos rfl
 have hlen:as.length=xs.length:=by rw [hG.len];omega
 have I3:Inv X pins σ H2 { s1 with heap:=h',toks:=tk }:=by
  refine I2.turnedM (s:={ s1 with heap:=h1 }) (ch:=[s1.heap.objs.size+4,s1.heap.objs.size+3,s1.heap.objs.size,s1.heap.objs.size+1]) kp (fun b hb=>?_) up (fun b u e hn=>?_)
  ·have hle:s1.heap.objs.size≤b:=by
    simp only [List.mem_cons,List.not_mem_nil,or_false] at hb
    rcases hb with e | e | e | e<;>(have e':@Eq Nat _ _:=e;show @LE.le Nat _ s1.heap.objs.size b;omega)
   exact I1.fpOk hle (I1.hok.fresh hle)
  ·by_cases hb:b=h1.objs.size
   ·subst hb
    rw [hS2] at e
    cases e
    refine ⟨Nat.le_refl _,(by rw [List.length_map];omega),as.map Value.ref,c,Us as,?_⟩
    rw [← hacc];exact hS
   ·have e0:(match (as.zip (xs.zip ys)).lookup b with | some p=>some (HO.tup [p.1,p.2]) | none=>H1 b)=some u:=by
     have:H2 b=_:=if_neg hb
     rw [← this];exact e
    cases e':(as.zip (xs.zip ys)).lookup b with
    | none=>rw [e'] at e0;rw [hn] at e0;cases e0
    | some p =>
     rw [e'] at e0
     cases e0
     refine ⟨Nat.le_of_succ_le (lk b p e'),(show (2:Nat)≤sizeLine by decide),?_⟩
     obtain ⟨j,j1,j2⟩:=Wb _ _ _ _ e'
     obtain ⟨k1,k2⟩:=List.getElem?_zip_eq_some.mp j2
     obtain ⟨u1,f1,r1⟩:=Qh w1 k1
     obtain ⟨u2,f2,r2⟩:=Qh w2 k2
     exact ⟨[u1,u2],.cons r1 (.cons r2 .nil),⟨_,hG.pairs j b u1 u2 j1 f1 f2,rfl,_,rfl⟩⟩
 exact ⟨.ref h1.objs.size,H2,I3,rfl,q _ as H2 (fr _ (Nat.le_refl _)) up hS2 hlen fun j a x y k1 k2 k3=>⟨fr a (Nat.le_of_succ_le (hG.above a (List.mem_of_getElem? k1))),atj j a x y k1 k2 k3⟩⟩
end
end L2
namespace L2
open PySem PySem.Spec PyProof.Rows
section
variable {src:List (Option Nat)} {te:TE} {σ:St} {H:Hp} {Q:VK}
theorem Ydt {J:It} {P:Hp→Prop} {xs:List V} (hJ:XJ J P xs) {H1:Hp} {D:Addr} (ts:List (List V)) (hP:∀ H',Yb H1 H'→P H') (hD:H1 D=none) (hl:ts.length=xs.length) (hlen:xs.length≤100000)
  (step:∀ (i:Nat) x t H',xs[i]?=some x→ts[i]?=some t→Yb H1 H'→∀ R:VK,(∀ a H'',Yb H' H''→H'' a=some (.tup t)→R (.ref a) H'')→te (some x::Yw src σ) H' R)
  (fin:∀ (as:List Addr) H',Yb H1 H'→H' D=some (.lst (as.map V.ref))→as.length=xs.length→(∀ (j:Nat) a t,as[j]?=some a→ts[j]?=some t→H' a=some (.tup t))→Q (.ref D) H'):LC (none::src) J (Ys 0) Xs te σ H1 Q D:=by
 have h6:100000<sizeLine:=by decide
 refine UR hJ (fun i zs σ' H'=>∃ as:List Addr,zs=as.map V.ref∧as.length=i∧(∃ o,σ'=o::Yw src σ)∧Yb H1 H'∧H' D=some (.lst zs)∧∀ (j:Nat) a t,as[j]?=some a→ts[j]?=some t→H' a=some (.tup t))
  ⟨[],rfl,rfl,⟨none,rfl⟩,.upd_new hD _,Yc,fun j a t h=>by simp at h⟩ (fun i zs σ' H' ⟨as,_,_,_,p1,p2,_⟩=>⟨hP _ p1,p2⟩) (WI 0) ?_ ?_
 ·rintro i zs σ' H' x hx ⟨as,rfl,hi',⟨o,rfl⟩,sm,hd,hts⟩
  have hi:=(List.getElem?_eq_some_iff.mp hx).1
  have ht:ts[i]?=some (ts[i]'(by omega)):=List.getElem?_eq_getElem _
  show te (some x::Yw src σ) H' _
  refine step i x _ H' hx ht sm _ fun a H'' s2 ha=>⟨s2 _ _ hd,by rw [List.length_map];omega,as++[a],by simp,by simp [hi'],⟨_,rfl⟩,.upd_over hD (sm.trans s2) _,Yc,fun j b t hj hjt=>?_⟩
  have key:H'' b=some (.tup t):=by
   rcases Nat.lt_trichotomy j as.length with h1 | h1 | h1
   ·rw [List.getElem?_append_left h1] at hj
    exact s2 _ _ (hts j b t hj hjt)
   ·have hb:a=b:=by subst h1;simpa using hj
    subst hb
    rw [h1,hi'] at hjt
    rw [ht] at hjt
    cases hjt
    exact ha
   ·rw [List.getElem?_eq_none (by rw [List.length_append,List.length_singleton];omega)] at hj;cases hj
  rw [Yh (X4 key (s2 _ _ hd) (by intro z;cases z))]
  exact key
 ·rintro zs σ' H' ⟨as,rfl,hn,_,sm,hd,hts⟩
  exact fin as H' sm hd hn hts
theorem Qi {K:PySem.W.Frag} {tl:TE} {xs:List V} (ts:List (List V)) (ha:∀ R:V→Hp→Prop,(∀ a H1,Yb H H1→SqL K H1 a xs→R (.ref a) H1)→tl σ H R) (hl:ts.length=xs.length) (hlen:xs.length≤100000)
  (step:∀ (i:Nat) x t H',xs[i]?=some x→ts[i]?=some t→Yb H H'→∀ R:VK,(∀ a H'',Yb H' H''→H'' a=some (.tup t)→R (.ref a) H'')→te (some x::Yw src σ) H' R)
  (fin:∀ D (as:List Addr) H',H D=none→Yb H H'→H' D=some (.lst (as.map V.ref))→as.length=xs.length→(∀ (j:Nat) a t,as[j]?=some a→ts[j]?=some t→H' a=some (.tup t))→Q (.ref D) H'):tLC (none::src) (Ws K tl) (Ys 0) Xs te σ H Q :=
 ha _ fun a H1 s1 hS=>⟨a,rfl,⟨xs,hS⟩,fun D hD=>Ydt (XL.imp fun H' (e:Yb H1 H')=>e.seq hS) ts (fun _ e=>e) hD hl hlen (fun i x t H' hx ht sm R r=>step i x t H' hx ht (s1.trans sm) R r) fun as H' sm=>fin D as H' (s1.free hD) (s1.trans sm)⟩
theorem Vj {α β:Type} {P:α→β→Prop}:∀ (zs:List α),(∀ (i:Nat) z,zs[i]?=some z→∃ q,P z q)→∃ qs:List β,qs.length=zs.length∧∀ (i:Nat) z q,zs[i]?=some z→qs[i]?=some q→P z q
 | [],_=>⟨[],rfl,fun i z q h=>by simp at h⟩
 | z::zs,h=>by
  obtain ⟨q,hq⟩:=h 0 z rfl
  obtain ⟨qs,hl,hs⟩:=Vj zs fun i z hi=>h (i+1) z (by simpa using hi)
  refine ⟨q::qs,by simp [hl],fun i z' q' h1 h2=>?_⟩
  cases i with
  | zero =>
   have e1:z=z':=by simpa using h1
   have e2:q=q':=by simpa using h2
   subst e1 e2
   exact hq
  | succ i=>exact hs i z' q' (by simpa using h1) (by simpa using h2)
end
end L2
namespace L2
open PySem PySem.Spec PyProof.Rows
section
variable {X:Cx}
theorem W9 {i:Nat} {x:Str} {pos' apos:Pos} {elt tg iter:Expr} {ifs:List Expr} {scope:Scope} {pos:Pos} {src:List (Option Nat)} {N':List Str} {wi:TI} {g:TG} {tt:TT} {te:TE} (hN:X.N.Nodup) (hix:X.N[i]?=some x) (hlx:Loc X.env.scope x) (hcap:Cap X scope src N') (hc:X.calm=true) (hi:PI X tg iter wi)
  (hg:∀ cl C s₀ H₀ fp pn,PG (cxC X scope N' cl C s₀ H₀ fp pn) tg g) (ht:∀ cl C s₀ H₀ fp pn,PTs (cxC X scope N' cl C s₀ H₀ fp pn) ifs tt) (he:∀ cl C s₀ H₀ fp pn,PE (cxC X scope N' cl C s₀ H₀ fp pn) elt te)
  (hfree:∀ x,(x,NameKind.free)∈scope.names→X.env.scope.names.lookup x=some NameKind.cell∨X.env.scope.names.lookup x=some NameKind.free)
  (hk:scope.kind = .function) (hcell:∀ y∈scope.names,y.2 ≠ .cell) (hnames:∀ y∈scope.names,y.2 = .local→scope.names.lookup y.1=some .local)
  (hs:∀ x,foldedSetIterable iter X.env x=pure x) (hsw:swapsWithSole [.Name x pos'] (.ListComp elt [⟨tg,iter,ifs,0⟩] scope pos) apos.line X.env=pure true) (hf:X.fn x=true∨X.env.scope.names.lookup x=some .local) :
  PS X (.Assign [.Name x pos'] (.ListComp elt [⟨tg,iter,ifs,0⟩] scope pos) apos) (tAsg (tLC src wi g tt te) (Ys i)):=by
 intro pins s σ H D0 I h
 have no:∀ {E:Value→Shared→Prop},∀ (e:Value) (s':Shared),False→E e s':=fun _ _ f=>f.elim
 obtain ⟨cl,hcl,a,b⟩:=Vx X.env scope fun x hx=>I.ok.has x (hfree x hx)
 rw [exec_Assign_arm]
 refine wpAny_bind (wpAny_standAt ?_)
 rw [hsw]
 refine wpAny_bind (wpAny_pure ?_)
 rw [if_pos rfl]
 refine wpAny_bind ?_
 rw [arm_evalThenUse_ListComp]
 refine wpAny_bind ?_
 refine wpAny_comprehension_free (use:=some _) rfl hs hcl hk hnames (thn (hi pins s σ H _ I h) fun v s1 h1=>thn h1 fun itv s2 h2=>?_)
 obtain ⟨it,fp,tn,J,H2,e,I2,T,st2,f2,q⟩:=h2
 subst e
 have hD:H2 s2.heap.objs.size=none:=I2.hok.fresh (Nat.le_refl _)
 obtain ⟨W,⟨m0,w0⟩,turn⟩:=q s2.heap.objs.size hD
 have I3:=I2.lnew (t':=s2.toks) (ys:=[]) (its:=[]) .nil (Nat.zero_le _)
 have fl2:∀ b∈fp,b<s2.heap.objs.size:=fun b hb=>by
  obtain ⟨o,e,_⟩:=T.obj _ _ st2 b hb
  exact Heap.lt_size e
 refine wpAny_newObj_type ?_
 generalize es3:({ s2 with heap:=s2.heap.push { cls := .type "list",dict:=none,data := .seq ([]:List Value).toArray } }:Shared)=s3
 have I3':Inv X pins σ (upd H2 s2.heap.objs.size (.lst [])) s3:=es3▸I3
 have keep3:∀ b o,s2.heap.get? b=some o→s3.heap.get? b=some o:=fun b o e=>by rw [← es3];exact Heap.get?_push_of_some _ e
 have st3:tn 0 s3.heap:=T.keep _ _ _ st2 fun b _ o e=>keep3 b o e
 have fl3:∀ b∈fp,b<s3.heap.objs.size:=fun b hb=>by
  obtain ⟨o,e,_⟩:=T.obj _ _ st3 b hb
  exact Heap.lt_size e
 have f3:∀ b∈fp,Xr X pins (upd H2 s2.heap.objs.size (.lst [])) b:=fun b hb=>⟨by rw [Yh (Nat.ne_of_lt (fl2 b hb))];exact (f2 b hb).1,(f2 b hb).2⟩
 generalize eD:s2.heap.objs.size=D at *
 generalize eH3:upd H2 D (.lst [])=H3 at *
 refine wpAny_newFunctionEnv hcell (by intro y hy;simp at hy) (fun h₁ hns₁ hsb₁=>?_) hk
 have keep4:∀ b o,s3.heap.get? b=some o→h₁.get? b=some o:=fun b o e=>hsb₁.extBut b o (Nat.ne_of_lt (Heap.lt_size e)) (Heap.get?_push_of_some _ e)
 have I4:=U9 (N':=N') (src:=src) (tk:=s3.toks+([]:List (Str×Value)).length) hk hcell hcap a b I3' f3 fl3 rfl keep4 hns₁
 -- the iterator's objects,through the block
 have stat:∀ {H':Hp},(∀ b∈fp,H' b=none)→∀ b∈fp,Xr (cxC X scope N' cl s3.heap.objs.size s3 H3 fp (X.pn++pins)) [] H' b:=fun hn b' hb=>by
  obtain ⟨f0,f1,fs,fe,f4,f5⟩:=f3 b' hb
  refine ⟨hn b' hb,Nat.ne_of_lt (fl3 b' hb),fun z=>?_,.inl hb,fun x c h=>f4 x c (a x c h),fun p hp=>f5 p (by simpa [cxC] using hp)⟩
  rcases List.mem_cons.mp (I3'.stkSub b' z) with e | e
  ·exact f1 e
  ·exact fs e
 -- behind the block
 have fin:∀ {H':Hp} {s':Shared} {σ':St} {pins':List (Addr×Obj)},Inv (cxC X scope N' cl s3.heap.objs.size s3 H3 fp (X.pn++pins)) pins' σ' H' s'→∀ h',Heap.SameBut s3.heap.objs.size s'.heap h'→Inv X pins σ H' { s' with heap:=h' }:=fun {H' s' σ' pins'} J' h' sb=>by
  have same:∀ b o,b≠s3.heap.objs.size→s'.heap.get? b=some o→h'.get? b=some o:=fun b o hb e=>sb.extBut b o hb e
  have u:Un (frs X.stack) fp H3 H' s3.heap s'.heap:=J'.base
  refine I3'.call' (s':={ s' with heap:=h' }) (ch:=fp) J'.os ⟨fun b o e n hb hx=>?_,fun b o e n hb hx=>?_,u.free,fun b o e hx=>?_,u.tups,u.frzs,u.tbls⟩ (fun b o e=>?_) J'.bare fun b hb=>?_
  ·exact same b o (Nat.ne_of_lt (Heap.lt_size e)) (u.keep b o e n hb hx)
  ·obtain ⟨sl,z⟩:=u.slot b o e n hb hx
   exact ⟨sl,same b _ (Nat.ne_of_lt (Heap.lt_size e)) z⟩
  ·obtain ⟨o',z⟩:=u.there b o e hx
   exact ⟨o',same b o' (Nat.ne_of_lt (Heap.lt_size e)) z⟩
  ·have nC:∀ c v,H' c=some v→c≠s3.heap.objs.size:=fun c v z q=>by
    have:=J'.free
    rw [show (cxC X scope N' cl s3.heap.objs.size s3 H3 fp (X.pn++pins)).env.locals=s3.heap.objs.size from rfl,← q,z] at this
    cases this
   refine (J'.hok b o e).stay (fun c v hc q=>same c v ?_ q) (fun _ q=>q) fun _ _ q=>q
   rcases hc with z | z
   ·rw [z];exact nC b o e
   ·exact nC c _ z
  ·obtain ⟨f0,f1,fs,fe,f4,f5⟩:=f3 b hb
   exact ⟨fe,f1,f4,f5⟩
 have loop:codeAny (model X.prog X.w) X.A (.compLoop (.ListComp elt [⟨tg,iter,ifs,0⟩] scope pos) 0 (.ref it) (.ref D) (compEnvC scope cl s3.heap.objs.size X.env))
   (compPost (model X.prog X.w) X.A X.xe (some fun v=>assignAll v ((assignEach [.Name x pos'] X.env).map (·.2))) (fun _ s'=>wpAny (model X.prog X.w) X.A (pure PUnit.unit) (fun _ s'=>wpAny (model X.prog X.w) X.A (pure Flow.next) (SP X pins D0) X.xe s') X.xe s') (.ref D) s3.heap.objs.size) { s3 with heap:=h₁,toks:=s3.toks+([]:List (Str×Value)).length }:=by
  refine Up (fun n s'=>∃ i ys σ' H',Inv (cxC X scope N' cl s3.heap.objs.size s3 H3 fp (X.pn++pins)) [] σ' H' s'∧tn i s'.heap∧(∀ b∈fp,H' b=none)∧W i n ys σ' H') ?_ m0 ⟨0,[],Yw src σ,H3,I4,T.keep _ _ _ st3 fun b _ o e=>keep4 b o e,fun b hb=>(f3 b hb).1,w0⟩
  rintro n s5 ⟨i,ys,σ5,H5,I5,st5,fr5,w5⟩
  obtain ⟨hDs,stop | go⟩:=turn i n ys σ5 H5 w5
  ·obtain ⟨stop,qn⟩:=stop
   refine thn (T.done (cxC X scope N' cl s3.heap.objs.size s3 H3 fp (X.pn++pins)) rfl rfl rfl hc i [] s5 σ5 H5 _ I5 (stat fr5) st5 stop) fun r s6 ⟨hr,I6⟩=>?_
   subst hr
   obtain ⟨m,hn,_⟩:=id I6.loc
   have IO:Inv X pins σ H5 s6:=fin I6 s6.heap (Heap.SameBut.refl _ _)
   have hCn:H5 s3.heap.objs.size=none:=I6.free
   have hC:∀ {H':Hp},H' s3.heap.objs.size=none→Xr X pins H' s3.heap.objs.size:=fun {H'} z=>I3'.fpOk (Nat.le_refl _) z
   obtain ⟨oC,es,ep,hoC,rC⟩:=hn
   have IP:=IO.pinned (fp:=[s3.heap.objs.size]) (fun b hb=>by rw [List.mem_singleton.mp hb];exact hC hCn) (fun b hb=>by rw [List.mem_singleton.mp hb];exact ⟨oC,hoC,fun v z=>by (rw [rC.1] at z;cases z)⟩)
   show wpAny _ _ (assign (.Name x pos') X.env (.ref D)) _ _ _
   refine thn (Yu hN hix hlx hf _ s6 σ H5 (.ref D) (.ref D) _ IP rfl qn) fun _ s7 ⟨σ7,H7,I7,q7⟩=>?_
   obtain ⟨g1,g2,_⟩:=I7.pin (s3.heap.objs.size,oC) (List.mem_append_right _ (List.mem_append_right _ (Xb (List.mem_singleton.mpr rfl) hoC)))
   refine ⟨m,⟨oC,es,ep,g1,rC⟩,fun h' sb=>wpAny_pure (wpAny_pure ⟨σ7,H7,?_,q7⟩)⟩
   exact I7.unpinned.turnedL (t':=s7.toks) (ch:=[s3.heap.objs.size]) (fun b o hb e=>sb.extBut b o (fun z=>hb (by rw [z];exact List.mem_singleton.mpr rfl)) e) (fun b hb=>by rw [List.mem_singleton.mp hb];exact hC g2)
  ·obtain ⟨go,N,hN,step⟩:=go
   refine thn (T.item (cxC X scope N' cl s3.heap.objs.size s3 H3 fp (X.pn++pins)) rfl rfl rfl hc i [] s5 σ5 H5 _ I5 (stat fr5) st5 go) fun r s6 ⟨u,hr,h6⟩=>?_
   subst hr
   refine thn h6 fun _ s7 ⟨x,H7,I7,r7,y7,st7,fr7⟩=>?_
   have I7':=I7.pinned (stat fr7) (T.obj _ _ st7)
   have again:∀ {s8:Shared} {σ8:St} {H8:Hp} {ys':List V},Inv (cxC X scope N' cl s3.heap.objs.size s3 H3 fp (X.pn++pins)) ([]++Wz fp s7.heap) σ8 H8 s8→(∃ m',m'<n∧W (i+1) m' ys' σ8 H8) →
     ∃ m,m<n∧∃ i ys σ' H',Inv (cxC X scope N' cl s3.heap.objs.size s3 H3 fp (X.pn++pins)) [] σ' H' s8∧tn i s8.heap∧(∀ b∈fp,H' b=none)∧W i m ys σ' H':=fun {s8 σ8 H8 ys'} I8 ⟨m',hm,w8⟩=>by
    refine ⟨m',hm,i+1,ys',σ8,H8,I8.unpinned,T.keep _ _ _ st7 fun b hb o e=>(I8.pin (b,o) (List.mem_append_right _ (List.mem_append_right _ (Xb hb e)))).1,fun b hb=>?_,w8⟩
    obtain ⟨o,e,d⟩:=T.obj _ _ st7 b hb
    exact (I8.pin (b,o) (List.mem_append_right _ (List.mem_append_right _ (Xb hb e)))).2.1
   refine thn (hg cl _ s3 H3 fp _ _ s7 σ5 H7 x u _ I7' r7 (step x H7 y7)) fun _ s8 ⟨σ8,H8,I8,q8⟩=>?_
   refine thn (ht cl _ s3 H3 fp _ _ s8 σ8 H8 _ I8 q8) fun ok s9 ⟨H9,I9,q9⟩=>?_
   cases ok with
   | false=>exact again I9 (hN _ _ _ q9)
   | true =>
    rw [if_pos rfl]
    refine thn (he cl _ s3 H3 fp _ _ s9 σ8 H9 _ I9 q9) fun y s10 ⟨yv,H10,I10,r10,q10⟩=>?_
    obtain ⟨hDy,hlen,w10⟩:=q10
    refine thn (Y7 (X:=cxC X scope N' cl s3.heap.objs.size s3 H3 fp (X.pn++pins)) _ s10 σ8 H10 (.ref D) [yv] (.ref D) [y] (fun _ H'=>H'=upd H10 D (.lst (ys++[yv]))) I10 rfl (.cons r10 .nil) ⟨D,ys,yv,rfl,rfl,hDy,hlen,rfl⟩) fun _ s11 ⟨_,H11,I11,_,e11⟩=>?_
    subst e11
    exact again I11 (hN _ _ _ w10)
 exact codeAny_compStart_list loop (T.self _ 0 _ _ _ (T.keep _ _ _ st3 fun b _ o e=>keep4 b o e) loop)
end
end L2
namespace L2
open PySem PySem.Spec PyProof.Rows
structure Fly (P:Program) (w:World) (l:List Env) (H:Hp) (h:Heap) (e:Addr) (cls:Value) (H':Hp) (h' B:Heap):Prop where
 fl:∃ a0,Heap.FlyingW B l e cls a0 h'
 hok:HOk P w H' B
 keep:∀ b o,h.get? b=some o→H b=none→b∉frs l→B.get? b=some o
 slot:∀ b o,h.get? b=some o→H b=none→b∈frs l→∃ sl,h'.get? b=some { o with slots:=sl }
 al:∀ b o,h.get? b=some o→b∉frs l→∃ o',B.get? b=some o'
 free:∀ b o,h.get? b=some o→H b=none→H' b=none
 tups:∀ b xs,H b=some (.tup xs)→H' b=some (.tup xs)
 frzs:∀ b o u,H b=some (.frz o u)→H' b=some (.frz o u)
 tbls:∀ b ps,H b=some (.tbl ps)→∃ more,H' b=some (.tbl (ps++more))
section
variable {P:Program} {w:World} {l:List Env} {H H':Hp} {h h' h'' B:Heap} {e:Addr} {cls:Value}
theorem Fly.un (F:Fly P w l H h e cls H' h' B) (hf:∀ b∈frs l,H b=none):Un (frs l) [] H H' h h':=by
 obtain ⟨a0,fl⟩:=F.fl
 refine ⟨fun b o q n hb _=>fl.1 b o (F.keep b o q n hb),fun b o q n hb _=>F.slot b o q n hb,fun b o q n _=>F.free b o q n,fun b o q _=>?_,F.tups,F.frzs,F.tbls⟩
 by_cases hb:b∈frs l
 ·obtain ⟨sl,z⟩:=F.slot b o q (hf b hb) hb
  exact ⟨_,z⟩
 ·obtain ⟨o',z⟩:=F.al b o q hb
  exact ⟨o',fl.1 b o' z⟩
end
section
variable {X:Cx} {pins:List (Addr×Obj)} {σ:St} {H H':Hp} {s s':Shared} {h' B:Heap} {e:Addr} {cls:Value} {M:Model} {A:Around} {Q:Unit→Shared→Prop} {EE:Value→Shared→Prop}
end
section
variable {g:Gx} {N:List Str} {qual:Str} {st:Stmt} {f:Addr} {cdv:Value} {A:Around} {outer:List Env} {s:Shared} {H:Hp} {E:XK}
end
section
variable {g:Gx} {k:Nat} {x qual m:Str} {st:Stmt} {N ps:List Str} {sp:Sp} {C:Addr}
end
section
variable {g:Gx} {X:Cx} {k j:Nat} {x:Str} {ps:List Str} {sp:Sp} {E:XK} {e:Expr} {es:List Expr} {t:TA} {p pos cpos np:Pos}
theorem PS.nox {st:Stmt} {t:TS} (h:PS X.nox st t):PS X st t:=fun pins s σ H D I hw =>
 wpAny_mono (h pins s σ H D (I.wish _) hw) (fun _ _ q=>q.unwish) fun _ _ z=>False.elim z
abbrev YbC:List Value:=[.type "ValueError",.type "Exception",.type "BaseException",.type "object"]
def Yd5 (C:Addr) (E:XK) (t:TA):TS:=fun _ σ H=>t σ H fun vs H1=>vs.length≤sizeLine∧E (.ref C) none H1
end
abbrev Cx.caught (X:Cx) (e:Addr):Cx:={ X with A:=X.A.mark (some (.ref e)),calm:=false,xe:=fun _ _=>False }
section
variable {X:Cx} {pins:List (Addr×Obj)} {σ:St} {H H' H1:Hp} {s s1 s':Shared} {e:Value} {D:Ends} {ts:TS} {b₀:Stmt} {suite:List Stmt} {c:Str} {cv:Value} {cp hpos:Pos}
theorem Inv.caught (I:Inv X pins σ H s) (a:Addr):Inv (X.caught a) pins σ H s :=
 ⟨⟨I.ok.mod,I.ok.kind,I.ok.glob,I.ok.blt,I.ok.above,I.ok.inj,I.ok.has,I.ok.cab,fun z=>(by cases z),I.ok.frames,I.ok.stk,I.ok.exf,I.ok.bs,I.ok.bsz,I.ok.noex,I.ok.exfs,I.ok.funs,I.ok.frf⟩,I.os,I.bare,I.base,I.loc,I.cell,I.free,I.freeC,I.pin,I.hok,I.len⟩
end
def tTry (K:PySem.W.Frag) (cv:Value) (sp:Sp) (t:TA) (i:Nat) (ts:TS):TS:=fun D σ H=>t σ H fun vs H1=>sp (vs++[]) H1 (fun v H2=>D.nx (σ.set i (some v)) H2) (fun cls _ H2=>PySem.W.exmOne K cls cv=some true∧ts D σ H2)
section
variable {g:Gx} {X:Cx} {k j i:Nat} {x f c:Str} {ps:List Str} {sp:Sp} {e:Expr} {es:List Expr} {t:TA} {ts:TS} {b₀:Stmt} {suite:List Stmt} {cv:Value} {fp px cp hpos apos cpos pos:Pos}
end
end L2
namespace L2
open PySem PySem.Spec PyProof.Rows
def VV (k:Nat) (G:Hp→List V→Prop):It :=
 ⟨fun i H=>∃ xs x,G H xs∧xs[i]?=some x,fun i H v H'=>∃ T,v = .ref T∧H T=none∧∀ xs x,G H xs→xs[i]?=some x→H'=upd H T (.tup [.int ((i+k:Nat):Int),x]),fun i H=>∃ xs,G H xs∧xs.length=i⟩
theorem Vk {P:Program} {w:World} {A:Around} {it:Addr} {fp:List Addr} {n:Nat} {R:Nat→Value→Prop} {St:Nat→Heap→Prop} (D:Draws P w A it fp n R St) (k:Nat) :
  Draws P w A it fp (n+k) (fun i v=>∃ j,i=j+k∧R j v) (fun i h=>∃ j,i=j+k∧St j h) where
 live:=fun i h ⟨j,_,st⟩=>D.live j h st
 frame:=fun i h h' ⟨j,e,st⟩ q=>⟨j,e,D.frame j h h' st q⟩
 item:=fun i s Q E hi ⟨j,e,st⟩ hQ=>by
  subst e
  exact D.item j s Q E (by omega) st fun x h' tk p st' sb=>hQ x h' tk ⟨j,rfl,p⟩ ⟨j+1,by omega,st'⟩ sb
 done:=fun s Q E ⟨j,e,st⟩ hE=>by
  have:j=n:=by omega
  subst this
  exact D.done s Q E st hE
theorem YbD {P:Program} {w:World} {K:PySem.W.Frag} {elts:List Expr} {kk:Nat} {pos:Pos} {a e it:Addr} {k:Nat} {G:Hp→List V→Prop} {inner:Nat→Heap→Prop} (ne:e≠it) (na:e≠a)
  (obj:∀ i h,inner i h→∃ o,h.get? it=some o∧∀ v,o.data ≠ .cell v) (keep:∀ i h h',inner i h→(∀ o,h.get? it=some o→h'.get? it=some o)→inner i h')
  (inj:∀ (X:Cx) pins σ H s xs ys,X.prog=P→X.w=w→X.K=K→Inv X pins σ H s→G H xs→G H ys→xs=ys)
  (dr:∀ (X:Cx) pins σ H s xs i,X.prog=P→X.w=w→X.K=K→X.calm=true→Inv X pins σ H s→G H xs→inner i s.heap→∃ its:List Value,Yn xs its∧∃ St:Nat→Heap→Prop,Draws P w X.A.in1 it [it,a] its.length (fun i v=>its[i]?=some v) St∧St i s.heap∧∀ i h,St i h→inner i h) :
  Turn P w K (.Tuple elts kk pos) (VV k G) [e,it] e (fun i h=>(∃ old,IsEnum h e it ((i+k:Nat):Int) old)∧inner i h) where
 mem:=by simp
 obj:=fun i h ⟨⟨old,he⟩,hi⟩ c hc=>by
  simp only [List.mem_cons,List.not_mem_nil,or_false] at hc
  rcases hc with rfl | rfl
  ·exact ⟨_,he,fun v z=>by cases z⟩
  ·exact obj i h hi
 keep:=fun i h h' ⟨⟨old,he⟩,hi⟩ q=>⟨⟨old,q e (by simp) _ he⟩,keep i h h' hi fun o z=>q it (by simp) o z⟩
 item:=by
  intro X hP hw hK hc i pins s σ H E I hf ⟨⟨old,he⟩,hi⟩ hg
  obtain ⟨xs,x,g1,hx⟩:=hg
  obtain ⟨its,rv,St,D,hst,hin⟩:=dr X pins σ H s xs i hP hw hK hc I g1 hi
  subst hP hw hK
  have hlen:=rv.length
  have hil:i<xs.length:=(List.getElem?_eq_some_iff.mp hx).1
  refine wpAny_pyNext_enum_itemD (Vk D k) he ⟨i,rfl,hst⟩ (by omega) ne (fun z=>?_) fun u h1 tk hu ho hi1 hT hsz kp=>?_
  ·simp only [List.mem_cons,List.not_mem_nil,or_false] at z
   rcases z with z | z
   ·exact ne z
   ·exact na z
  refine ⟨_,rfl,?_⟩
  refine wpAny_letOwnedTupleGo_enum (s:={ s with heap:=h1,toks:=tk+1 }) ho fun h2 he2 sb=>?_
  have elt:e<s.heap.objs.size:=Heap.lt_size he
  have ilt:it<s.heap.objs.size:=by obtain ⟨o,q,_⟩:=obj i _ hi;exact Heap.lt_size q
  have kp2:∀ c o,c∉[e,it]→s.heap.get? c=some o→h2.get? c=some o:=fun c o hm z=>by
   have c1:c≠e:=fun q=>hm (by simp [q])
   have c2:c≠it:=fun q=>hm (by simp [q])
   exact sb.extBut c o c1 (kp c o c1 c2 z)
  obtain ⟨j,ej,hu⟩:=hu
  have ej:j=i:=by omega
  subst ej
  obtain ⟨u',hu',ru⟩:=rv.get hx
  rw [hu] at hu'
  cases hu'
  have hT2:h2.get? s.heap.objs.size=some { cls := .type "tuple",data := .seq #[.int ((j+k:Nat):Int) tk,u] }:=sb.extBut _ _ (Nat.ne_of_gt elt) hT
  have I':=I.turnedT (t':=tk+1) (h':=h2) (T:=s.heap.objs.size) (vs:=[.int ((j+k:Nat):Int),x]) kp2 hf (Nat.le_refl _) (show YJ X.prog X.w _ h2 _ (.tup [.int ((j+k:Nat):Int),x]) from ⟨by show 2≤sizeLine;decide,[.int ((j+k:Nat):Int) tk,u],.cons ⟨_,rfl⟩ (.cons ru .nil),_,hT2,rfl,_,rfl⟩)
  have fresh:H s.heap.objs.size=none:=I.hok.fresh (Nat.le_refl _)
  obtain ⟨j',ej',st'⟩:=hi1
  have ej':j'=j+1:=by omega
  subst ej'
  refine ⟨.ref s.heap.objs.size,_,I',rfl,⟨_,rfl,fresh,fun xs' x' g1' hx'=>?_⟩,⟨⟨u,?_⟩,keep _ _ _ (hin _ _ st') fun o z=>sb.extBut _ _ (Ne.symm ne) z⟩,fun c hm=>?_⟩
  ·rw [inj X pins σ H s _ _ rfl rfl rfl I g1' g1,hx] at hx'
   cases hx'
   rfl
  ·have e2:(((j+1+k:Nat)):Int)=((j+k:Nat):Int)+1:=by omega
   rw [e2]
   simpa using he2
  ·have h0:=(hf c hm).1
   have clt:c<s.heap.objs.size:=by
    simp only [List.mem_cons,List.not_mem_nil,or_false] at hm
    rcases hm with rfl | rfl
    ·exact elt
    ·exact ilt
   rw [Yh (Nat.ne_of_lt clt)]
   exact h0
 done:=by
  intro X hP hw hK hc i pins s σ H E I hf ⟨⟨old,he⟩,hi⟩ hg
  obtain ⟨xs,g1,hx⟩:=hg
  obtain ⟨its,rv,St,D,hst,hin⟩:=dr X pins σ H s xs i hP hw hK hc I g1 hi
  subst hP hw hK
  have hlen:=rv.length
  obtain ⟨f0,f1,f2,f3,f4,f5⟩:=hf it (by simp)
  exact wpAny_pyNext_enum_endD (Vk D k) he ⟨i,by omega,hst⟩ fun h' eb=>⟨rfl,I.turned (t':=s.toks) (fun b o hb z=>eb b o hb z) f0 f1 f3 f4 f5⟩
 self:=fun _ _ _ _ _ ⟨⟨_,he⟩,_⟩ h=>wpAny_pyIter_enum he h
section
variable {prog:Program} {w:World} {A:Around} {E:Value→Shared→Prop} {s:Shared}
theorem YaR {it t:Addr} {i:Nat} {its:Array Value} {x:Value} {Q:Value→Shared→Prop} (hit:IsTupIter s.heap it t i) (ht:IsTup s.heap t its) (hx:its[i]?=some x)
  (hQ:∀ h',IsTupIter h' it t (i+1)→Heap.SameBut it s.heap h'→Q x { s with heap:=h' }):wpAny (model prog w) A (Builtin.SmallTypes.nextOf (.ref it)) Q E s:=by
 have hT:=hit.typeIs
 obtain ⟨o,ho,hc,hd⟩:=hit
 obtain ⟨ot,hot,_,nt,hdt⟩:=ht
 unfold Builtin.SmallTypes.nextOf
 refine wpAny_bind (wpAny_callSpecial?_slot (name:=Str.ofString "__next__") hT slot_tupleiter_next (wpAny_call_entry slot_tupleiter_next hT entry_tupleiter_next ?_ (args_tupleiter_next _)))
 change wpAny _ _ (field (.ref it) 0 >>= _) _ _ s
 refine wpAny_bind (wpAny_field (x := .ref t) ho hd rfl ?_)
 change wpAny _ _ (if (Value.ref t==Value.none)=true then _ else _) _ _ s
 rw [if_neg (show ¬ (Value.ref t==Value.none)=true from Bool.false_ne_true)]
 change wpAny _ _ (field (.ref it) 1 >>= _) _ _ s
 refine wpAny_bind (wpAny_field (x := .int i 0) ho hd rfl ?_)
 change wpAny _ _ (seqItems? (.ref t) >>= _) _ _ s
 refine wpAny_bind (wpAny_seqItems hot hdt ?_)
 simp only [hx,Int.toNat_natCast]
 refine wpAny_bind (wpAny_setField ho hd (by simp) (wpAny_pure ⟨x,rfl,wpAny_pure (hQ _ ⟨_,Heap.get?_update_self _ ho (Obj.isFreed_of_fields (Obj.data_mapFields hd _)),(Obj.cls_mapFields ..).trans hc,?_⟩ (Heap.SameBut.update ..))⟩))
 rw [Obj.data_mapFields hd]
 simp [rawInt]
theorem YbE {it t:Addr} {i:Nat} {its:Array Value} {Q:Value→Shared→Prop} (hh:A.handled=none) (hit:IsTupIter s.heap it t i) (ht:IsTup s.heap t its) (hx:its[i]?=none)
  (hE:∀ h' e,Heap.ExtBut it s.heap h'→(∃ o,h'.get? e=some o∧o.cls = .type "StopIteration")→E (.ref e) { s with heap:=h' }):wpAny (model prog w) A (Builtin.SmallTypes.nextOf (.ref it)) Q E s:=by
 have hT:=hit.typeIs
 obtain ⟨o,ho,hc,hd⟩:=hit
 obtain ⟨ot,hot,_,nt,hdt⟩:=ht
 unfold Builtin.SmallTypes.nextOf
 refine wpAny_bind (wpAny_callSpecial?_slot (name:=Str.ofString "__next__") hT slot_tupleiter_next (wpAny_call_entry slot_tupleiter_next hT entry_tupleiter_next ?_ (args_tupleiter_next _)))
 change wpAny _ _ (field (.ref it) 0 >>= _) _ _ s
 refine wpAny_bind (wpAny_field (x := .ref t) ho hd rfl ?_)
 change wpAny _ _ (if (Value.ref t==Value.none)=true then _ else _) _ _ s
 rw [if_neg (show ¬ (Value.ref t==Value.none)=true from Bool.false_ne_true)]
 change wpAny _ _ (field (.ref it) 1 >>= _) _ _ s
 refine wpAny_bind (wpAny_field (x := .int i 0) ho hd rfl ?_)
 change wpAny _ _ (seqItems? (.ref t) >>= _) _ _ s
 refine wpAny_bind (wpAny_seqItems hot hdt ?_)
 simp only [hx,Int.toNat_natCast]
 refine wpAny_bind (wpAny_rule (wpAny_bind (wpAny_setField ho hd (by simp) ?_)))
 change wpAny _ _ (newExc (.type "StopIteration") [] >>= _) _ _ _
 refine wpAny_bind ?_
 simp only [newTuple,newExc]
 refine wpAny_bind (wpAny_newObj_type ?_ (by size_fits))
 refine wpAny_bind (m:=firstArgMember _ _) (wpAny_of_eq (a:=Value.none) (by first | (simp only [firstArgMember];rfl) | rfl) ?_)
 refine wpAny_newObj_type ?_ (by size_fits)
 simp only [raiseNew]
 refine wpAny_bind (wpAny_handled ?_)
 first | rw [hh] | rw [show A.in1.handled=none from hh]
 exact wpAny_bind (wpAny_pure (wpAny_throw (hE _ _ (((Heap.SameBut.update ..).extBut.push _).push _) ⟨_,Heap.get?_push_size _ rfl,rfl⟩)))
theorem YbF (hh:A.handled=none) (it t:Addr) (ne:t≠it) (its:Array Value):Draws prog w A it [it,t] its.size (fun i v=>its[i]?=some v) (fun i h=>IsTupIter h it t i∧IsTup h t its) where
 live:=fun _ _ st=>let ⟨o,ho,_⟩:=st.1;⟨o,ho⟩
 frame:=fun _ _ _ st hk=>⟨let ⟨o,ho,r⟩:=st.1;⟨o,hk it (by simp) o ho,r⟩,let ⟨o,ho,r⟩:=st.2;⟨o,hk t (by simp) o ho,r⟩⟩
 item:=fun i s Q E hi st hQ=>by
  refine YaR st.1 st.2 (x:=its[i]) (by simp [hi]) fun h' hit' hs'=>?_
  exact hQ _ h' s.toks (by simp [hi]) ⟨hit',let ⟨o,ho,r⟩:=st.2;⟨o,hs'.extBut t o ne ho,r⟩⟩ hs'
 done:=fun s Q E st hE=>YbE hh st.1 st.2 (by simp) hE
open AutoSeq1 (wpAny_loadPart') in
theorem QZ (l:Addr) (o:Obj) (its:Array Value) (n:Nat) (hc:o.cls = .type "tuple") (hd:o.data = .seq its n) :
  Meets (Builtin.«enumerate.__new__» ⟨[.type "enumerate",.ref l],[]⟩) (fun _ R s=>s.heap.get? l=some o ∧
   R (.ok (.ret (.ref (s.heap.push { cls := .type "tuple_iterator",data := .fields #[.ref l,.int 0 0] }).objs.size)))
    { s with heap:=(s.heap.push { cls := .type "tuple_iterator",data := .fields #[.ref l,.int 0 0] }).push { cls := .type "enumerate",data := .fields #[.none,.bool false,.ref s.heap.objs.size,rawInt 0,.none,.none] } }) :=
 .of_wp fun prog w A R s h=>by
  obtain ⟨hp,g,d,tk,os⟩:=s
  obtain ⟨hl,h⟩:=h
  have hsub:=sub_enumerate
  have hL:IsTup (Shared.heap ⟨hp,g,d,tk,os⟩) l its:=⟨o,hl,hc,n,hd⟩
  wp_walk using wpAny_loadPart' hl
  refine wpAny_stack_any fun st=>wpAny_pure ?_
  split
  ·rename_i c _ _ _ _ _
   cases (c==Value.type "enumerate")
   ·wp_walk using wpAny_loadPart' hl,iter_tuple hL
    exact ⟨_,rfl,h⟩
   ·wp_walk using wpAny_loadPart' hl,iter_tuple hL
    exact ⟨_,rfl,h⟩
  ·wp_walk using wpAny_loadPart' hl,iter_tuple hL
   exact ⟨_,rfl,h⟩
theorem YaS {l:Addr} {its:Array Value} {Q:Value→Shared→Prop} (hL:IsTup s.heap l its)
  (h:∀ h',IsEnum h' (s.heap.objs.size+1) s.heap.objs.size 0 .none→IsTupIter h' s.heap.objs.size l 0→(∀ b o,s.heap.get? b=some o→h'.get? b=some o)→Q (.ref (s.heap.objs.size+1)) { s with heap:=h' }) :
  wpAny (model prog w) A (call (.type "enumerate") [.ref l]) Q E s:=by
 obtain ⟨o,hl,hc,n,hd⟩:=hL
 refine callType_new F.called_enumerate (by decide) (F.typeCall_enumerate_1 _) (F.newCall_enumerate_1 _) (fun obj=>F.args_object_init_2 obj _) F.entry_enumerate_new (QZ l o its n hc hd) ⟨hl,?_⟩
 have hz:(s.heap.push { cls := .type "tuple_iterator",data := .fields #[.ref l,.int 0 0] }).objs.size=s.heap.objs.size+1:=Heap.size_push ..
 change _∧_
 rw [hz]
 have he:IsEnum ((s.heap.push { cls := .type "tuple_iterator",data := .fields #[.ref l,.int 0 0] }).push { cls := .type "enumerate",data := .fields #[.none,.bool false,.ref s.heap.objs.size,rawInt 0,.none,.none] }) (s.heap.objs.size+1) s.heap.objs.size 0 .none:=by
  have z:=Heap.get?_push_size (s.heap.push { cls := .type "tuple_iterator",data := .fields #[.ref l,.int 0 0] }) (o:={ cls := .type "enumerate",data := .fields #[.none,.bool false,.ref s.heap.objs.size,rawInt 0,.none,.none] }) rfl
  rw [hz] at z
  exact z
 exact ⟨⟨_,he,rfl⟩,h _ he ⟨_,Heap.get?_push_of_some _ (Heap.get?_push_size _ rfl),rfl,rfl⟩ fun b o x=>Heap.get?_push_of_some _ (Heap.get?_push_of_some _ x)⟩
end
section
variable {X:Cx} {elts:List Expr} {kk:Nat} {tpos:Pos}
theorem YaT {P:Program} {w:World} {K:PySem.W.Frag} {pos:Pos} {a e it:Addr} (ne:e≠it) (na:e≠a) (nt:a≠it) :
  Turn P w K (.Tuple elts kk pos) (VV 0 fun H xs=>SqT K H a xs) [e,it] e (fun i h=>(∃ old,IsEnum h e it ((i+0:Nat):Int) old)∧IsTupIter h it a i):=by
 refine YbD ne na (fun i h ⟨o,q,_,d⟩=>⟨o,q,fun v z=>by rw [d] at z;cases z⟩) (fun i h h' ⟨o,q,r⟩ k=>⟨o,k o q,r⟩) (fun X pins σ H s xs ys hP hw hK I g1 g2=>?_) (fun X pins σ H s xs i hP hw hK hc I g1 hi=>?_)
 ·subst hP hw hK
  exact I.tuple_inj g1 g2
 ·subst hP hw hK
  obtain ⟨its,rv,pl,hz⟩:=I.tuple g1
  refine ⟨its,rv,fun i h=>IsTupIter h it a i∧IsTup h a its.toArray,by simpa using YbF (prog:=X.prog) (w:=X.w) (A:=X.A.in1) (I.ok.hd hc) it a nt its.toArray,⟨hi,pl⟩,fun i h st=>st.1⟩
def YbG (K:PySem.W.Frag) (ta:TA):TI:=fun σ H R=>ta σ H fun vs H1=>∃ a xs,vs=[.ref a]∧SqT K H1 a xs∧R (VV 0 fun H xs=>SqT K H a xs) H1
theorem Ycm {a:Expr} {ta:TA} {p pos:Pos} (hg:Gl X "enumerate") (hm:X.mg "enumerate"=none) (ha:PA X [a] ta) (hs:starEach [a] X.env=[(false,eval a X.env)]) :
  PI X (.Tuple elts kk tpos) (.Call (.Name "enumerate" p) [a] [] pos) (YbG X.K ta):=by
 intro pins s σ H R I h
 refine Call_ (XA I hg hm boot_enumerate (PyProof.Rows.callWith_type1 (thn (ha pos pins s σ H _ I h) fun us s1 hz=>?_) hs rfl))
 obtain ⟨vs,H1,I1,r1,x,xs,e,hx,q⟩:=hz
 subst e
 obtain ⟨u,rfl,ru⟩:=XF r1
 cases ru
 obtain ⟨i1,_,pl,_⟩:=I1.tuple hx
 have l1:x<s1.heap.objs.size:=by obtain ⟨_,e,_⟩:=pl;exact Heap.lt_size e
 refine YaS pl fun h' he hi keep=>?_
 refine wpAny_pyIter_enum he ?_
 have I2:Inv X pins σ H1 { s1 with heap:=h' }:=I1.kept (t':=s1.toks) keep
 have l1':@LT.lt Nat _ x s1.heap.objs.size:=l1
 refine ⟨_,[s1.heap.objs.size+1,s1.heap.objs.size],_,_,H1,rfl,I2,YaT (by intro z;have z':@Eq Nat _ _:=z;omega) (by intro z;have z':@Eq Nat _ _:=z;omega) (by intro z;have z':@Eq Nat _ _:=z;omega),⟨⟨_,he⟩,hi⟩,fun c hc=>?_,q⟩
 have hle:s1.heap.objs.size≤c:=by
  simp only [List.mem_cons,List.not_mem_nil,or_false] at hc
  rcases hc with e | e<;>(have e':@Eq Nat _ _:=e;show @LE.le Nat _ s1.heap.objs.size c;omega)
 exact I1.fpOk hle (I1.hok.fresh hle)
end
section
variable {g:TG} {tb:TS} {D:Ends} {σ:St} {H:Hp}
theorem Ycn {k:Nat} {G:Hp→List V→Prop} {xs:List V} (Pv:Nat→St→Hp→Prop) (h0:Pv 0 σ H) (hl:∀ i σ H,i≤xs.length→Pv i σ H→G H xs)
  (hs:∀ i x σ H T,xs[i]?=some x→Pv i σ H→H T=none→g (.ref T) σ (upd H T (.tup [.int ((i+k:Nat):Int),x])) fun σ2 H2=>tb { D with nx:=Pv (i+1),ct:=Pv (i+1),bk:=D.nx } σ2 H2) (hd:∀ σ H,Pv xs.length σ H→D.nx σ H) :
  ∃ W:Nat→Nat→St→Hp→Prop,(∃ m,W 0 m σ H)∧∀ i m σ H,W i m σ H →
   ((VV k G).stop i H∧D.nx σ H)∨((VV k G).go i H∧∃ N:St→Hp→Prop,(∀ σ' H',N σ' H'→∃ m',m'<m∧W (i+1) m' σ' H')∧∀ x H',(VV k G).yld i H x H'→g x σ H' fun σ2 H2=>tb { D with nx:=N,ct:=N,bk:=D.nx } σ2 H2):=by
 refine ⟨fun i m σ H=>m=xs.length - i∧i≤xs.length∧Pv i σ H,⟨xs.length,by simp,Nat.zero_le _,h0⟩,?_⟩
 rintro i m σ H ⟨rfl,hi,p⟩
 have q:=hl i σ H hi p
 by_cases hlt:i<xs.length
 ·have hx:xs[i]?=some xs[i]:=List.getElem?_eq_getElem hlt
  refine .inr ⟨⟨xs,_,q,hx⟩,Pv (i+1),fun σ' H' p'=>⟨xs.length - (i+1),by omega,rfl,hlt,p'⟩,?_⟩
  rintro v H' ⟨T,rfl,hT,heq⟩
  have e:=heq xs _ q hx
  subst e
  exact hs i _ σ H T hx p hT
 ·have e:i=xs.length:=by omega
  subst e
  exact .inl ⟨⟨xs,q,rfl⟩,hd σ H p⟩
theorem YaU {K:PySem.W.Frag} {ta:TA} {a:Addr} {xs:List V} (Pv:Nat→St→Hp→Prop) (ha:∀ R:List V→Hp→Prop,R [.ref a] H→ta σ H R) (h0:Pv 0 σ H) (hl:∀ i σ H,i≤xs.length→Pv i σ H→SqT K H a xs)
  (hs:∀ i x σ H T,xs[i]?=some x→Pv i σ H→H T=none→g (.ref T) σ (upd H T (.tup [.int (i:Int),x])) fun σ2 H2=>tb { D with nx:=Pv (i+1),ct:=Pv (i+1),bk:=D.nx } σ2 H2) (hd:∀ σ H,Pv xs.length σ H→D.nx σ H):U3 (YbG K ta) g tb D σ H:=by
 refine ha _ ⟨a,xs,rfl,hl 0 σ H (Nat.zero_le _) h0,?_⟩
 exact Ycn Pv h0 hl (fun i x σ H T hx p hT=>hs i x σ H T hx p hT) hd
end
end L2
namespace L2
open PySem PySem.Spec PyProof.Rows
section
variable {prog:Program} {w:World} {A:Around} {E:Value→Shared→Prop} {s:Shared}
open AutoSeq1 (wpAny_loadPart') in
end
end L2
namespace L2
open PySem PySem.Spec PyProof.Rows
section
variable {X:Cx} {elts:List Expr} {kk:Nat} {tpos:Pos}
end
section
variable {g:TG} {tb:TS} {D:Ends} {σ:St} {H:Hp}
end
section
variable {X:Cx} {tg:Expr}
end
end L2
namespace L2
open PySem PySem.Spec PyProof.Rows
def ExcD (a:Addr) (cls:Value) (dc:Option Addr):HO := .ext fun h=>∃ o vs,h.get? a=some o∧o.cls=cls∧o.data = .fields vs∧o.dict=dc
section
variable {P:Program} {w:World} {l:List Env} {H H':Hp} {h h' h'' B:Heap} {a e:Addr} {cls:Value} {o:HO}
theorem YJ.alive (x:YJ P w H h a o):∃ u,h.get? a=some u:=by
 cases o with
 | lst xs=>obtain ⟨_,_,_,_,e⟩:=x;exact ⟨_,e⟩
 | tup xs=>obtain ⟨_,_,_,u,e,_⟩:=x;exact ⟨_,e⟩
 | dK kvs=>obtain ⟨_,_,_,_,o,_,_,e,_⟩:=x;exact ⟨_,e⟩
 | dT kvs=>obtain ⟨_,_,_,_,o,_,_,e,_⟩:=x;exact ⟨_,e⟩
 | set S n=>obtain ⟨o,_,_,_,e,_⟩:=x;exact ⟨_,e⟩
 | ins C dx fs=>obtain ⟨_,_,_,e,_⟩:=x;exact ⟨_,e⟩
 | own y=>exact x
 | xd fs=>obtain ⟨_,⟨_,_,_,e,_⟩,_⟩:=x;exact ⟨_,e⟩
 | rng lo hi=>obtain ⟨_,_,_,e⟩:=x;exact ⟨_,e⟩
 | frz ob u=>obtain ⟨e,_⟩:=x;exact ⟨_,e⟩
 | tbl ps=>exact ⟨_,(show h.get? a=some _ from x)⟩
 | met f y=>exact ⟨_,(show h.get? a=some _ from x)⟩
 | ext φ=>exact x.2.1
theorem Fly.new (F:Fly P w l H h e cls H' h' B) (hf:∀ b∈frs l,H b=none) (nf:∀ b∈frs l,∀ o,h.get? b=some o→∀ vs,o.data ≠ .fields vs):h.get? e=none:=by
 obtain ⟨a0,fl⟩:=F.fl
 cases q:h.get? e with
 | none=>rfl
 | some o =>
  by_cases hb:e∈frs l
  ·obtain ⟨sl,z⟩:=F.slot e o q (hf e hb) hb
   obtain ⟨oe,vs,z',_,d,_⟩:=fl.first
   rw [z] at z'
   cases z'
   exact absurd d (nf e hb o q vs)
  ·obtain ⟨o',z⟩:=F.al e o q hb
   rw [fl.2.1] at z
   cases z
theorem Fly.out (F:Fly P w l H h e cls H' h' B):H' e=none:=by
 obtain ⟨a0,fl⟩:=F.fl
 cases q:H' e with
 | none=>rfl
 | some u =>
  obtain ⟨o,z⟩:=(F.hok e u q).alive
  rw [fl.2.1] at z
  cases z
end
section
variable {X:Cx} {pins:List (Addr×Obj)} {σ:St} {H H' H1:Hp} {s s1 s':Shared}
end
def Ends.gone (D:Ends) (j:Nat):Ends:={ nx:=fun σ H=>D.nx (σ.set j none) H,rt:=D.rt,bk:=fun σ H=>D.bk (σ.set j none) H,ct:=fun σ H=>D.ct (σ.set j none) H }
section
variable {X:Cx} {pins:List (Addr×Obj)} {σ:St} {H H' H1:Hp} {s s1 s':Shared} {e:Value} {D:Ends} {ts:TS} {b₀:Stmt} {suite:List Stmt} {c n:Str} {cv:Value} {cp hpos:Pos} {j:Nat}
end
end L2
namespace L2
open PySem PySem.Spec PyProof.Rows
def Yd6 (K:PySem.W.Frag) (cv:Value) (sp:Sp) (t:TA) (i j:Nat) (ts:TS):TS:=fun D σ H=>t σ H fun vs H1=>sp (vs++[]) H1 (fun v H2=>D.nx (σ.set i (some v)) H2) (fun cls dc H2=>PySem.W.exmOne K cls cv=some true∧∀ a,H2 a=none→ts (D.gone j) (σ.set j (some (.ref a))) (upd H2 a (ExcD a cls dc)))
section
variable {g:Gx} {X:Cx} {k jj i j:Nat} {x f c n:Str} {ps:List Str} {sp:Sp} {e:Expr} {es:List Expr} {t:TA} {ts:TS} {b₀:Stmt} {suite:List Stmt} {cv:Value} {fp px cp hpos apos cpos pos:Pos}
end
structure RoomM (k:Nat) (A:Around):Prop where
 dp:A.depth+3*k+5<recursionLimit
 un:A.units+16*k+200<cLine
theorem Room.m {k:Nat} {A:Around} (r:Room k A) (h:Option Value):RoomM k (A.mark h):=⟨r.dp,r.un⟩
section
variable {g:Gx} {k:Nat} {x qual:Str} {st:Stmt} {N ps:List Str} {sp:Sp}
end
section
variable {g:Gx} {X:Cx} {k j:Nat} {x:Str} {ps:List Str} {sp:Sp} {e:Expr} {es:List Expr} {t:TA} {p pos:Pos}
end
end L2
namespace PySem.W
open PySem PySem.Calls PyProof.Rows Builtin Builtin.ObjectAttr Builtin.Getset_descriptor
section
variable {prog:Program} {w:World} {A:Around} {E:Value→Shared→Prop} {K:Frag} {x C:Addr} {ox:Obj} {hh:Heap} {g:Array GenState} {d:Drawn} {t:Nat} {os:OsState}
end
end PySem.W
namespace L2
open PySem PySem.Spec PyProof.Rows
section
variable {X:Cx}
end
theorem Yco {X:Cx} {a:Addr}:(X.caught a).K=X.K:=rfl
end L2
namespace L2
open PySem PySem.Spec PyProof.Rows
end L2
namespace L2
open PySem PySem.Spec PyProof.Rows
section
variable {src:List (Option Nat)} {te:TE} {σ:St} {H:Hp} {Q:VK}
end
end L2
namespace L2
open PySem PySem.Spec PyProof.Rows
section
variable {X:Cx}
end
end L2
namespace L2
open PySem PySem.Spec PyProof.Rows
section
variable {src:List (Option Nat)} {te:TE} {σ:St} {H:Hp} {Q:VK}
end
end L2
namespace L2
open PySem PySem.Spec PyProof.Rows
def SqX (K:PySem.W.Frag) (H:Hp) (a:Addr) (xs:List V):Prop:=Rd H a (.lst xs)∨∃ (its:Array Value) (n:Nat),K.lookup a=some { cls := .type "list",data := .seq its n }∧its.size≤sizeLine∧Yn xs its.toList
theorem SqX.sq {K:PySem.W.Frag} {H:Hp} {a:Addr} {xs:List V} (h:SqX K H a xs):SqL K H a xs:=by
 rcases h with h | ⟨its,n,h1,h2,h3⟩
 ·exact .inl h
 ·exact .inr ⟨_,its,n,h1,rfl,rfl,rfl,h2,h3⟩
theorem SqX.of {K:PySem.W.Frag} {H:Hp} {a:Addr} {xs:List V} (h:H a=some (.lst xs)):SqX K H a xs := .inl (.of h)
theorem SqX.keep {K:PySem.W.Frag} {H H':Hp} {a:Addr} {xs:List V} (h:SqX K H a xs) (s:Yb H H'):SqX K H' a xs:=by
 rcases h with h | h
 ·rcases h with h | ⟨o,h⟩
  ·exact .inl (.inl (s _ _ h))
  ·exact .inl (.inr ⟨o,s _ _ h⟩)
 ·exact .inr h
section
variable {X:Cx}
end
end L2
namespace L2
open PySem PySem.Spec PyProof.Rows
section
variable {X:Cx} {g:Gx} {k j i:Nat} {x:Str} {ps:List Str} {sp:Sp} {p pos:Pos} {e:Expr} {es:List Expr} {t:TA}
end
theorem Y0 (es:List Expr) (x:Nat) (p:Pos) (es':List Expr) (env:Env):starEach (.Tuple es x p::es') env=(false,eval (.Tuple es x p) env)::starEach es' env:=rfl
theorem WL (es:List Expr) (p:Pos) (es':List Expr) (env:Env):starEach (.List es p::es') env=(false,eval (.List es p) env)::starEach es' env:=rfl
end L2
namespace L2
open PySem PySem.Spec PyProof.Rows
section
variable {X:Cx} {pins:List (Addr×Obj)} {σ:St} {H:Hp} {s:Shared} {A:Around} {E Q:Value→Shared→Prop}
end
section
variable {X:Cx}
end
section
variable {src:List (Option Nat)} {te:TE} {σ:St} {Q:VK}
variable {X:Cx} {H:Hp}
end
end L2
namespace L2
open PySem PySem.Spec PyProof.Rows
mutual
inductive LtR:PyData→PyData→Bool→Prop
 | int (i j:Int):LtR (.int i) (.int j) (decide (i<j))
 | tup {ds es:List PyData} {b:Bool}:LtA ds es b→LtR (.tuple ds) (.tuple es) b
inductive LtA:List PyData→List PyData→Bool→Prop
 | nn:LtA [] [] false
 | nc {e:PyData} {es:List PyData}:LtA [] (e::es) true
 | cn {d:PyData} {ds:List PyData}:LtA (d::ds) [] false
 | eq {d e:PyData} {ds es:List PyData} {b:Bool}:PyData.eqv d e=true→LtA ds es b→LtA (d::ds) (e::es) b
 | ne {d e:PyData} {ds es:List PyData} {b:Bool}:PyData.eqv d e=false→LtR d e b→LtA (d::ds) (e::es) b
end
def LtAt (A:Around) (s:Shared) (u v:Value) (b:Bool):Prop:=∀ (prog:Program) (w:World) (E:Value→Shared→Prop) (Q:Value→Shared→Prop),Q (.bool b) s→wpAny (model prog w) A (richCompare .Lt u v) Q E s
section
open PySem.SeqAt
open PySem.AutoSeq1 (wpAny_loadPart')
open PySem.MeetsSeq PySem.MeetsSeq2 PySem.MeetsSeq3
inductive Two (A:Around) (s:Shared):List Value→List Value→Bool→Prop
 | nn:Two A s [] [] false
 | nc {v:Value} {vs:List Value}:Two A s [] (v::vs) true
 | cn {v:Value} {vs:List Value}:Two A s (v::vs) [] false
 | eq {u v:Value} {us vs:List Value} {b:Bool}:EqAt A s u v true→Two A s us vs b→Two A s (u::us) (v::vs) b
 | ne {u v:Value} {us vs:List Value} {b:Bool}:EqAt A s u v false→LtAt A s u v b→Two A s (u::us) (v::vs) b
theorem Qj (l b:Addr) (items items2:Array Value) (n n2:Nat) (dd dd2:Option Addr) (sl sl2:Array (Option Value)) (r:Bool) :
  Meets (Builtin.«tuple.__lt__» ⟨[.ref l,.ref b],[]⟩)
   (fun A R s=>s.heap.get? l=some { cls := .type "tuple",dict:=dd,data := .seq items n,slots:=sl }∧s.heap.get? b=some { cls := .type "tuple",dict:=dd2,data := .seq items2 n2,slots:=sl2 } ∧
    Two A.in1 s items.toList items2.toList r∧R (.ok (.ret (.bool r))) s) :=
 .of_wp fun prog w A R s h=>by
  obtain ⟨hp,g,d,tk,os⟩:=s;obtain ⟨hl,hb,h2,h⟩:=h
  have f2:=AutoSeq1.sub_tuple_tuple
  wp_walk using wpAny_loadPart' hl,wpAny_loadPart' hb,wpAny_forIn_list _ (fun YV b s'=>b.1=none∧s'=⟨hp,g,d,tk,os⟩∧∃ (vs ws:List Value),YV=vs.zip ws ∧
   vs.length+items2.size=ws.length+items.size∧Two A.in1 ⟨hp,g,d,tk,os⟩ vs ws r) _
  case turn =>
   rintro ⟨y,x⟩ YV b s' ⟨hb',rfl,vs,ws,hz,hlen,ht⟩
   cases ht with
   | nn=>cases hz
   | nc=>cases hz
   | cn=>cases hz
   | eq he ht' =>
    rw [List.zip_cons_cons] at hz
    injection hz with hyx hrest
    injection hyx with hy hx
    subst hy hx
    simp only [List.length_cons] at hlen
    refine wpAny_bind (he prog w _ _ ?_)
    wp_walk
    exact ⟨rfl,rfl,_,_,hrest,by omega,ht'⟩
   | ne he hlt =>
    rw [List.zip_cons_cons] at hz
    injection hz with hyx hrest
    injection hyx with hy hx
    subst hy hx
    refine wpAny_bind (he prog w _ _ ?_)
    have hri:=hlt prog w
    wp_walk using hri
    exact ⟨_,rfl,by simpa using h⟩
  case fin =>
   rintro ⟨b1,b2⟩ s' ⟨hb',rfl,vs,ws,hz,hlen,ht⟩
   simp only at hb'
   subst hb'
   have hv:r=decide (items.size<items2.size):=by
    cases ht with
    | nn=>simp only [List.length_nil] at hlen;exact (decide_eq_false (by omega)).symm
    | nc=>simp only [List.length_nil,List.length_cons] at hlen;exact (decide_eq_true (by omega)).symm
    | cn=>simp only [List.length_nil,List.length_cons] at hlen;exact (decide_eq_false (by omega)).symm
    | eq _ _=>rw [List.zip_cons_cons] at hz;cases hz
    | ne _ _=>rw [List.zip_cons_cons] at hz;cases hz
   rw [hv] at h
   wp_walk
   exact ⟨_,rfl,by simpa [Builtin.Tuple.tupleCompareSizes] using h⟩
  case h =>
   exact ⟨rfl,rfl,items.toList,items2.toList,rfl,by simp;omega,h2⟩
mutual
theorem VC:∀ {d e:PyData} {b:Bool},LtR d e b→∀ (A:Around) (s:Shared) (u v:Value) (as bs:List Addr),Reads s.heap u d as→Reads s.heap v e bs→d.canLay0=true→e.canLay0=true→A.units+d.depth+1<cLine→LtAt A s u v b
 | _,_,_,.int i j,A,s,u,v,as,bs,r1,r2,_,_,_=>by
  cases r1
  cases r2
  exact fun prog w E Q h=>HT.rcLt_int A s i _ j _ prog w E Q h
 | _,_,b,.tup (ds:=ds) (es:=es) hA,A,s,u,v,as,bs,r1,r2,l1,l2,hu=>by
  rw [PyData.canLay0] at l1 l2
  rw [PyData.depth] at hu
  cases r1 with
  | @tuple a1 o1 vs1 n1 _ _ h1 c1 d1 q1 =>
  cases r2 with
  | @tuple a2 o2 vs2 n2 _ _ h2 c2 d2 q2 =>
  have ht:=Ut hA A.in1 s _ _ _ _ q1 q2 l1 l2 (show A.units+1+_+1<cLine by omega)
  obtain ⟨cls,dd,data,sl⟩:=o1
  obtain ⟨cls2,dd2,data2,sl2⟩:=o2
  have c1':cls=Value.type "tuple":=c1
  have c2':cls2=Value.type "tuple":=c2
  have d1':data=Data.seq vs1 n1:=d1
  have d2':data2=Data.seq vs2 n2:=d2
  subst c1' c2' d1' d2'
  exact fun prog w E Q h=>richCompare_meets_room (op := .Lt) ⟨_,h1,rfl⟩ ⟨_,h2,rfl⟩ PySem.F.slot_tuple_lt PySem.F.entry_tuple_lt (PySem.F.args_tuple_lt_2 _ _) (Qj _ _ _ _ n1 n2 dd dd2 sl sl2 b)
   ⟨h1,h2,ht,show Value.bool b≠Value.notImplemented∧Q (.bool b) s from ⟨(fun x=>nomatch x),h⟩⟩ (by omega)
theorem Ut:∀ {ds es:List PyData} {b:Bool},LtA ds es b→∀ (A:Around) (s:Shared) (us vs:List Value) (as bs:List Addr),ReadsAll s.heap us ds as→ReadsAll s.heap vs es bs→PyData.canLayAll0 ds=true→PyData.canLayAll0 es=true→A.units+PyData.depthAll ds+1<cLine→Two A s us vs b
 | _,_,_,.nn,A,s,us,vs,as,bs,r1,r2,_,_,_=>by cases r1;cases r2;exact .nn
 | _,_,_,.nc,A,s,us,vs,as,bs,r1,r2,_,_,_=>by cases r1;cases r2;exact .nc
 | _,_,_,.cn,A,s,us,vs,as,bs,r1,r2,_,_,_=>by cases r1;cases r2;exact .cn
 | _,_,b,.eq (d:=d) (e:=e) he hA,A,s,us,vs,as,bs,r1,r2,l1,l2,hu=>by
  rw [PyData.canLayAll0,Bool.and_eq_true] at l1 l2
  rw [PyData.depthAll] at hu
  cases r1 with
  | cons q1 qs1 =>
  cases r2 with
  | cons q2 qs2 =>
  have h:=SeqAt.eqAt_reads d e A s _ _ _ _ q1 q2 l1.1 l2.1 (by omega)
  rw [he] at h
  exact .eq h (Ut hA A s _ _ _ _ qs1 qs2 l1.2 l2.2 (by omega))
 | _,_,b,.ne (d:=d) (e:=e) he hR,A,s,us,vs,as,bs,r1,r2,l1,l2,hu=>by
  rw [PyData.canLayAll0,Bool.and_eq_true] at l1 l2
  rw [PyData.depthAll] at hu
  cases r1 with
  | cons q1 qs1 =>
  cases r2 with
  | cons q2 qs2 =>
  have h:=SeqAt.eqAt_reads d e A s _ _ _ _ q1 q2 l1.1 l2.1 (by omega)
  rw [he] at h
  exact .ne h (VC hR A s _ _ _ _ q1 q2 l1.1 l2.1 (by omega))
end
variable {X:Cx}
theorem Yd7 (hu:X.A.units+66<cLine):OpR X (compareOp .Lt) (fun x y H Q=>∃ d e b,Den X.K H x d∧Den X.K H y e∧LtR d e b∧d.depth≤64∧Q (.bl b) H):=by
 intro pins s σ H x y v u Q I rx ry h
 obtain ⟨d,e,b,hd,he,hc,dp,q⟩:=h
 obtain ⟨as,ra⟩:=hd.reads I rx
 obtain ⟨bs,rb⟩:=he.reads I ry
 exact VC hc _ _ _ _ _ _ ra rb hd.lay he.lay (by omega) _ _ _ _ ⟨.bl _,H,I,rfl,q⟩
end
end L2
namespace L2
open PySem PySem.Spec PyProof.Rows
mutual
inductive LeR:PyData→PyData→Bool→Prop
 | int (i j:Int):LeR (.int i) (.int j) (decide (i≤j))
 | tup {ds es:List PyData} {b:Bool}:LeA ds es b→LeR (.tuple ds) (.tuple es) b
inductive LeA:List PyData→List PyData→Bool→Prop
 | nn:LeA [] [] true
 | nc {e:PyData} {es:List PyData}:LeA [] (e::es) true
 | cn {d:PyData} {ds:List PyData}:LeA (d::ds) [] false
 | eq {d e:PyData} {ds es:List PyData} {b:Bool}:PyData.eqv d e=true→LeA ds es b→LeA (d::ds) (e::es) b
 | ne {d e:PyData} {ds es:List PyData} {b:Bool}:PyData.eqv d e=false→LeR d e b→LeA (d::ds) (e::es) b
end
theorem Ycp (A:Around) (s:Shared) (a:Int) (t:Tok) (c:Int) (u:Tok) (prog:Program) (w:World) (E:Value→Shared→Prop) (Q:Value→Shared→Prop) (h:Q (.bool (decide (a≤c))) s) :
  wpAny (model prog w) A (richCompare .LtE (.int a t) (.int c u)) Q E s :=
 (PyProof.Rows.le_int h:wpAny (model prog w) A (compareOp .LtE (.int a t) (.int c u)) Q E s)
def LeAt (A:Around) (s:Shared) (u v:Value) (b:Bool):Prop:=∀ (prog:Program) (w:World) (E:Value→Shared→Prop) (Q:Value→Shared→Prop),Q (.bool b) s→wpAny (model prog w) A (richCompare .LtE u v) Q E s
section
open PySem.SeqAt
open PySem.AutoSeq1 (wpAny_loadPart')
open PySem.MeetsSeq PySem.MeetsSeq2 PySem.MeetsSeq3
inductive TwoE (A:Around) (s:Shared):List Value→List Value→Bool→Prop
 | nn:TwoE A s [] [] true
 | nc {v:Value} {vs:List Value}:TwoE A s [] (v::vs) true
 | cn {v:Value} {vs:List Value}:TwoE A s (v::vs) [] false
 | eq {u v:Value} {us vs:List Value} {b:Bool}:EqAt A s u v true→TwoE A s us vs b→TwoE A s (u::us) (v::vs) b
 | ne {u v:Value} {us vs:List Value} {b:Bool}:EqAt A s u v false→LeAt A s u v b→TwoE A s (u::us) (v::vs) b
theorem Qk (l b:Addr) (items items2:Array Value) (n n2:Nat) (dd dd2:Option Addr) (sl sl2:Array (Option Value)) (r:Bool) :
  Meets (Builtin.«tuple.__le__» ⟨[.ref l,.ref b],[]⟩)
   (fun A R s=>s.heap.get? l=some { cls := .type "tuple",dict:=dd,data := .seq items n,slots:=sl }∧s.heap.get? b=some { cls := .type "tuple",dict:=dd2,data := .seq items2 n2,slots:=sl2 } ∧
    TwoE A.in1 s items.toList items2.toList r∧R (.ok (.ret (.bool r))) s) :=
 .of_wp fun prog w A R s h=>by
  obtain ⟨hp,g,d,tk,os⟩:=s;obtain ⟨hl,hb,h2,h⟩:=h
  have f2:=AutoSeq1.sub_tuple_tuple
  wp_walk using wpAny_loadPart' hl,wpAny_loadPart' hb,wpAny_forIn_list _ (fun YV b s'=>b.1=none∧s'=⟨hp,g,d,tk,os⟩∧∃ (vs ws:List Value),YV=vs.zip ws ∧
   vs.length+items2.size=ws.length+items.size∧TwoE A.in1 ⟨hp,g,d,tk,os⟩ vs ws r) _
  case turn =>
   rintro ⟨y,x⟩ YV b s' ⟨hb',rfl,vs,ws,hz,hlen,ht⟩
   cases ht with
   | nn=>cases hz
   | nc=>cases hz
   | cn=>cases hz
   | eq he ht' =>
    rw [List.zip_cons_cons] at hz
    injection hz with hyx hrest
    injection hyx with hy hx
    subst hy hx
    simp only [List.length_cons] at hlen
    refine wpAny_bind (he prog w _ _ ?_)
    wp_walk
    exact ⟨rfl,rfl,_,_,hrest,by omega,ht'⟩
   | ne he hlt =>
    rw [List.zip_cons_cons] at hz
    injection hz with hyx hrest
    injection hyx with hy hx
    subst hy hx
    refine wpAny_bind (he prog w _ _ ?_)
    have hri:=hlt prog w
    wp_walk using hri
    exact ⟨_,rfl,by simpa using h⟩
  case fin =>
   rintro ⟨b1,b2⟩ s' ⟨hb',rfl,vs,ws,hz,hlen,ht⟩
   simp only at hb'
   subst hb'
   have hv:r=decide (items.size≤items2.size):=by
    cases ht with
    | nn=>simp only [List.length_nil] at hlen;exact (decide_eq_true (by omega)).symm
    | nc=>simp only [List.length_nil,List.length_cons] at hlen;exact (decide_eq_true (by omega)).symm
    | cn=>simp only [List.length_nil,List.length_cons] at hlen;exact (decide_eq_false (by omega)).symm
    | eq _ _=>rw [List.zip_cons_cons] at hz;cases hz
    | ne _ _=>rw [List.zip_cons_cons] at hz;cases hz
   rw [hv] at h
   wp_walk
   exact ⟨_,rfl,by simpa [Builtin.Tuple.tupleCompareSizes] using h⟩
  case h =>
   exact ⟨rfl,rfl,items.toList,items2.toList,rfl,by simp;omega,h2⟩
mutual
theorem VD:∀ {d e:PyData} {b:Bool},LeR d e b→∀ (A:Around) (s:Shared) (u v:Value) (as bs:List Addr),Reads s.heap u d as→Reads s.heap v e bs→d.canLay0=true→e.canLay0=true→A.units+d.depth+1<cLine→LeAt A s u v b
 | _,_,_,.int i j,A,s,u,v,as,bs,r1,r2,_,_,_=>by
  cases r1
  cases r2
  exact fun prog w E Q h=>Ycp A s i _ j _ prog w E Q h
 | _,_,b,.tup (ds:=ds) (es:=es) hA,A,s,u,v,as,bs,r1,r2,l1,l2,hu=>by
  rw [PyData.canLay0] at l1 l2
  rw [PyData.depth] at hu
  cases r1 with
  | @tuple a1 o1 vs1 n1 _ _ h1 c1 d1 q1 =>
  cases r2 with
  | @tuple a2 o2 vs2 n2 _ _ h2 c2 d2 q2 =>
  have ht:=VE hA A.in1 s _ _ _ _ q1 q2 l1 l2 (show A.units+1+_+1<cLine by omega)
  obtain ⟨cls,dd,data,sl⟩:=o1
  obtain ⟨cls2,dd2,data2,sl2⟩:=o2
  have c1':cls=Value.type "tuple":=c1
  have c2':cls2=Value.type "tuple":=c2
  have d1':data=Data.seq vs1 n1:=d1
  have d2':data2=Data.seq vs2 n2:=d2
  subst c1' c2' d1' d2'
  exact fun prog w E Q h=>richCompare_meets_room (op := .LtE) ⟨_,h1,rfl⟩ ⟨_,h2,rfl⟩ PySem.F.slot_tuple_le PySem.F.entry_tuple_le (PySem.F.args_tuple_le_2 _ _) (Qk _ _ _ _ n1 n2 dd dd2 sl sl2 b)
   ⟨h1,h2,ht,show Value.bool b≠Value.notImplemented∧Q (.bool b) s from ⟨(fun x=>nomatch x),h⟩⟩ (by omega)
theorem VE:∀ {ds es:List PyData} {b:Bool},LeA ds es b→∀ (A:Around) (s:Shared) (us vs:List Value) (as bs:List Addr),ReadsAll s.heap us ds as→ReadsAll s.heap vs es bs→PyData.canLayAll0 ds=true→PyData.canLayAll0 es=true→A.units+PyData.depthAll ds+1<cLine→TwoE A s us vs b
 | _,_,_,.nn,A,s,us,vs,as,bs,r1,r2,_,_,_=>by cases r1;cases r2;exact .nn
 | _,_,_,.nc,A,s,us,vs,as,bs,r1,r2,_,_,_=>by cases r1;cases r2;exact .nc
 | _,_,_,.cn,A,s,us,vs,as,bs,r1,r2,_,_,_=>by cases r1;cases r2;exact .cn
 | _,_,b,.eq (d:=d) (e:=e) he hA,A,s,us,vs,as,bs,r1,r2,l1,l2,hu=>by
  rw [PyData.canLayAll0,Bool.and_eq_true] at l1 l2
  rw [PyData.depthAll] at hu
  cases r1 with
  | cons q1 qs1 =>
  cases r2 with
  | cons q2 qs2 =>
  have h:=SeqAt.eqAt_reads d e A s _ _ _ _ q1 q2 l1.1 l2.1 (by omega)
  rw [he] at h
  exact .eq h (VE hA A s _ _ _ _ qs1 qs2 l1.2 l2.2 (by omega))
 | _,_,b,.ne (d:=d) (e:=e) he hR,A,s,us,vs,as,bs,r1,r2,l1,l2,hu=>by
  rw [PyData.canLayAll0,Bool.and_eq_true] at l1 l2
  rw [PyData.depthAll] at hu
  cases r1 with
  | cons q1 qs1 =>
  cases r2 with
  | cons q2 qs2 =>
  have h:=SeqAt.eqAt_reads d e A s _ _ _ _ q1 q2 l1.1 l2.1 (by omega)
  rw [he] at h
  exact .ne h (VD hR A s _ _ _ _ q1 q2 l1.1 l2.1 (by omega))
end
variable {X:Cx}
theorem Yd8 (hu:X.A.units+66<cLine):OpR X (compareOp .LtE) (fun x y H Q=>∃ d e b,Den X.K H x d∧Den X.K H y e∧LeR d e b∧d.depth≤64∧Q (.bl b) H):=by
 intro pins s σ H x y v u Q I rx ry h
 obtain ⟨d,e,b,hd,he,hc,dp,q⟩:=h
 obtain ⟨as,ra⟩:=hd.reads I rx
 obtain ⟨bs,rb⟩:=he.reads I ry
 exact VD hc _ _ _ _ _ _ ra rb hd.lay he.lay (by omega) _ _ _ _ ⟨.bl _,H,I,rfl,q⟩
variable {K:PySem.W.Frag}
theorem Ydu (hu:X.A.units+66<cLine) (h:X.K=K:=by rfl):OpR X (compareOp .Lt) (fun x y H Q=>∃ d e b,Den K H x d∧Den K H y e∧LtR d e b∧d.depth≤64∧Q (.bl b) H):=by subst h;exact Yd7 hu
theorem Ydv (hu:X.A.units+66<cLine) (h:X.K=K:=by rfl):OpR X (compareOp .LtE) (fun x y H Q=>∃ d e b,Den K H x d∧Den K H y e∧LeR d e b∧d.depth≤64∧Q (.bl b) H):=by subst h;exact Yd8 hu
theorem Room.units66 {k:Nat} {A:Around} (r:Room k A):A.units+66<cLine:=by have:=r.un;omega
end
end L2
namespace L2
open PySem
mutual
inductive KD:PyData→Prop
 | int (i:Int):KD (.int i)
 | tup {ds:List PyData}:KDs ds→KD (.tuple ds)
inductive KDs:List PyData→Prop
 | nil:KDs []
 | cons {d:PyData} {ds:List PyData}:KD d→KDs ds→KDs (d::ds)
end
mutual
theorem KD.eqv:∀ {d e:PyData},KD d→KD e→(PyData.eqv d e=true↔d=e)
 | _,_,.int i,.int j=>by rw [PyData.eqv];simp
 | _,_,.int i,.tup _=>by rw [PyData.eqv];simp
 | _,_,.tup _,.int i=>by rw [PyData.eqv];simp
 | _,_,.tup h,.tup k=>by
  rw [PyData.eqv,h.eqv k]
  simp
theorem KDs.eqv:∀ {ds es:List PyData},KDs ds→KDs es→(PyData.eqvAll ds es=true↔ds=es)
 | _,_,.nil,.nil=>by simp [PyData.eqvAll]
 | _,_,.nil,.cons _ _=>by simp [PyData.eqvAll]
 | _,_,.cons _ _,.nil=>by simp [PyData.eqvAll]
 | _,_,.cons (d:=d) (ds:=ds) h hs,.cons (d:=e) (ds:=es) k ks=>by
  rw [PyData.eqvAll,Bool.and_eq_true,h.eqv k,hs.eqv ks]
  simp
end
mutual
inductive KLt:PyData→PyData→Prop
 | int {i j:Int}:i<j→KLt (.int i) (.int j)
 | mix {i:Int} {ds:List PyData}:KLt (.int i) (.tuple ds)
 | tup {ds es:List PyData}:KLs ds es→KLt (.tuple ds) (.tuple es)
inductive KLs:List PyData→List PyData→Prop
 | nil {e:PyData} {es:List PyData}:KLs [] (e::es)
 | here {d e:PyData} {ds es:List PyData}:KLt d e→KLs (d::ds) (e::es)
 | there {d:PyData} {ds es:List PyData}:KLs ds es→KLs (d::ds) (d::es)
end
mutual
theorem KLt.irr:∀ {d e:PyData},KLt d e→d=e→False
 | _,_,.int h,e=>by cases e;omega
 | _,_,.tup h,e=>by cases e;exact h.irr rfl
theorem KLs.irr:∀ {ds es:List PyData},KLs ds es→ds=es→False
 | _,_,.here h,e=>by injection e with e1 e2;exact h.irr e1
 | _,_,.there h,e=>by injection e with e1 e2;exact h.irr e2
end
mutual
theorem KLt.trans:∀ {a b c:PyData},KLt a b→KLt b c→KLt a c
 | _,_,_,.int h,.int k => .int (by omega)
 | _,_,_,.int h,.mix => .mix
 | _,_,_,.mix,.tup _ => .mix
 | _,_,_,.tup h,.tup k => .tup (h.trans k)
theorem KLs.trans:∀ {a b c:List PyData},KLs a b→KLs b c→KLs a c
 | _,_,_,.nil,.here _ => .nil
 | _,_,_,.nil,.there _ => .nil
 | _,_,_,.here h,.here k => .here (h.trans k)
 | _,_,_,.here h,.there _ => .here h
 | _,_,_,.there _,.here k => .here k
 | _,_,_,.there h,.there k => .there (h.trans k)
end
mutual
theorem LtR.order:∀ {d e:PyData} {b:Bool},LtR d e b→KD d→KD e→(b=true↔KLt d e)
 | _,_,_,.int i j,_,_=>by
  rw [decide_eq_true_eq]
  exact ⟨.int,fun h=>by cases h;assumption⟩
 | _,_,_,.tup h,.tup k,.tup l=>by
  rw [h.order k l]
  exact ⟨.tup,fun h=>by cases h;assumption⟩
theorem LtA.order:∀ {ds es:List PyData} {b:Bool},LtA ds es b→KDs ds→KDs es→(b=true↔KLs ds es)
 | _,_,_,.nn,_,_=>⟨(fun h=>by cases h),(fun h=>by cases h)⟩
 | _,_,_,.nc,_,_=>⟨fun _ => .nil,fun _=>rfl⟩
 | _,_,_,.cn,_,_=>⟨(fun h=>by cases h),(fun h=>by cases h)⟩
 | _,_,_,.eq he h,.cons k ks,.cons l ls=>by
  have e:=(k.eqv l).mp he
  subst e
  rw [h.order ks ls]
  refine ⟨.there,fun h=>?_⟩
  cases h with
  | here h=>exact (h.irr rfl).elim
  | there h=>exact h
 | _,_,_,.ne he h,.cons k ks,.cons l ls=>by
  have e:_≠_:=fun z=>Bool.eq_false_iff.mp he ((k.eqv l).mpr z)
  rw [h.order k l]
  refine ⟨.here,fun h=>?_⟩
  cases h with
  | here h=>exact h
  | there h=>exact (e rfl).elim
end
mutual
inductive Sim:PyData→PyData→Prop
 | int (i j:Int):Sim (.int i) (.int j)
 | tup {ds es:List PyData}:Sims ds es→Sim (.tuple ds) (.tuple es)
inductive Sims:List PyData→List PyData→Prop
 | nil {es:List PyData}:Sims [] es
 | end_ {ds:List PyData}:Sims ds []
 | cons {d e:PyData} {ds es:List PyData}:Sim d e→(d=e→Sims ds es)→Sims (d::ds) (e::es)
end
theorem Uu {d e:PyData} (hd:KD d) (he:KD e):(PyData.eqv d e=true∧d=e)∨(PyData.eqv d e=false∧d≠e):=by
 cases h:PyData.eqv d e with
 | true=>exact .inl ⟨rfl,(hd.eqv he).mp h⟩
 | false=>exact .inr ⟨rfl,fun z=>by rw [(hd.eqv he).mpr z] at h;cases h⟩
mutual
theorem Sim.lt:∀ {d e:PyData},Sim d e→KD d→KD e→∃ b,LtR d e b
 | _,_,.int i j,_,_=>⟨_,.int i j⟩
 | _,_,.tup h,.tup k,.tup l=>by
  obtain ⟨b,hb⟩:=h.lt k l
  exact ⟨b,.tup hb⟩
theorem Sims.lt:∀ {ds es:List PyData},Sims ds es→KDs ds→KDs es→∃ b,LtA ds es b
 | _,[],.nil,_,_=>⟨_,.nn⟩
 | _,_::_,.nil,_,_=>⟨_,.nc⟩
 | [],_,.end_,_,_=>⟨_,.nn⟩
 | _::_,_,.end_,_,_=>⟨_,.cn⟩
 | _,_,.cons h hs,.cons k ks,.cons l ls=>by
  rcases Uu k l with ⟨a,c⟩ | ⟨a,c⟩
  ·obtain ⟨b,hb⟩:=(hs c).lt ks ls
   exact ⟨b,.eq a hb⟩
  ·obtain ⟨b,hb⟩:=h.lt k l
   exact ⟨b,.ne a hb⟩
end
theorem Sim.answer {d e:PyData} (h:Sim d e) (hd:KD d) (he:KD e):∃ b,LtR d e b∧(b=true↔KLt d e):=by
 obtain ⟨b,hb⟩:=h.lt hd he
 exact ⟨b,hb,hb.order hd he⟩
end L2
namespace L2
open PySem
section
variable {src:List (Option Nat)} {te:TE} {σ:St} {H:Hp} {Q:VK}
theorem Ydw {J:It} {P:Hp→Prop} {xs:List V} (hJ:XJ J P xs) {H1:Hp} {D:Addr} (Rl:Nat→V→Hp→Prop) (st:∀ i y H H',Rl i y H→Yb H H'→Rl i y H') (su:∀ i y H zs zs',Rl i y H→H D=some (.lst zs)→Rl i y (upd H D (.lst zs')))
  (hP:∀ H',Yb H1 H'→P H') (hD:H1 D=none) (hlen:xs.length≤100000)
  (step:∀ (i:Nat) x H' zs,xs[i]?=some x→Yb H1 H'→H' D=some (.lst zs)→∀ R:VK,(∀ y H'',Yb H' H''→Rl i y H''→R y H'')→te (some x::Yw src σ) H' R)
  (fin:∀ (ys:List V) H',Yb H1 H'→H' D=some (.lst ys)→ys.length=xs.length→(∀ (j:Nat) y,ys[j]?=some y→Rl j y H')→Q (.ref D) H'):LC (none::src) J (Ys 0) Xs te σ H1 Q D:=by
 have h6:100000<sizeLine:=by decide
 refine UR hJ (fun i zs σ' H'=>zs.length=i∧(∃ o,σ'=o::Yw src σ)∧Yb H1 H'∧H' D=some (.lst zs)∧∀ (j:Nat) y,zs[j]?=some y→Rl j y H')
  ⟨rfl,⟨none,rfl⟩,.upd_new hD _,Yc,fun j y h=>by simp at h⟩ (fun i zs σ' H' ⟨_,_,p1,p2,_⟩=>⟨hP _ p1,p2⟩) (WI 0) ?_ ?_
 ·rintro i zs σ' H' x hx ⟨hi',⟨o,rfl⟩,sm,hd,hts⟩
  have hi:=(List.getElem?_eq_some_iff.mp hx).1
  show te (some x::Yw src σ) H' _
  refine step i x H' zs hx sm hd _ fun y H'' s2 hy=>⟨s2 _ _ hd,by omega,by simp [hi'],⟨_,rfl⟩,.upd_over hD (sm.trans s2) _,Yc,fun j z hj=>su _ _ _ _ _ ?_ (s2 _ _ hd)⟩
  rcases Nat.lt_trichotomy j zs.length with h1 | h1 | h1
  ·rw [List.getElem?_append_left h1] at hj
   exact st _ _ _ _ (hts j z hj) s2
  ·have hb:y=z:=by subst h1;simpa using hj
   subst hb
   rw [h1,hi']
   exact hy
  ·rw [List.getElem?_eq_none (by rw [List.length_append,List.length_singleton];omega)] at hj;cases hj
 ·rintro zs σ' H' ⟨hn,_,sm,hd,hts⟩
  exact fin zs H' sm hd hn hts
end
end L2
namespace L2
open PySem
mutual
inductive VL (H:Hp):V→PyData→List Addr→Prop
 | int (i:Int):VL H (.int i) (.int i) []
 | str (x:Str) (h:PyData.strOk x=true):VL H (.str x) (.str x) []
 | lst {a:Addr} {vs:List V} {ds:List PyData} {L:List Addr}:H a=some (.lst vs)→vs.length≤10000→VLs H vs ds L→VL H (.ref a) (.list ds) (a::L)
 | tup {a:Addr} {vs:List V} {ds:List PyData} {L:List Addr}:H a=some (.tup vs)→vs.length≤10000→VLs H vs ds L→VL H (.ref a) (.tuple ds) L
inductive VLs (H:Hp):List V→List PyData→List Addr→Prop
 | nil:VLs H [] [] []
 | cons {v:V} {d:PyData} {L:List Addr} {vs:List V} {ds:List PyData} {L':List Addr}:VL H v d L→VLs H vs ds L'→VLs H (v::vs) (d::ds) (L++L')
end
def Tps (H H':Hp):Prop:=∀ a vs,H a=some (.tup vs)→H' a=some (.tup vs)
theorem Yb.tps {H H':Hp} (s:Yb H H'):Tps H H':=fun a vs h=>s a _ h
theorem Tps.trans {H H' H'':Hp} (s:Tps H H') (t:Tps H' H''):Tps H H'':=fun a vs h=>t a vs (s a vs h)
theorem Tps.upd_lst {H:Hp} {p:Addr} {xs ys:List V} (h:H p=some (.lst xs)):Tps H (upd H p (.lst ys)):=fun a vs ha=>by
 rw [Yh (X4 ha h (by intro z;cases z))];exact ha
mutual
theorem VL.keepL {H H':Hp} (t:Tps H H'):∀ {v:V} {d:PyData} {L:List Addr},VL H v d L→(∀ a∈L,∀ vs,H a=some (.lst vs)→H' a=some (.lst vs))→VL H' v d L
 | _,_,_,.int i,_ => .int i
 | _,_,_,.str x h,_ => .str x h
 | _,_,_,.lst h hn hs,e => .lst (e _ (.head _) _ h) hn (hs.keepL t fun a ha=>e a (.tail _ ha))
 | _,_,_,.tup h hn hs,e => .tup (t _ _ h) hn (hs.keepL t e)
theorem VLs.keepL {H H':Hp} (t:Tps H H'):∀ {vs:List V} {ds:List PyData} {L:List Addr},VLs H vs ds L→(∀ a∈L,∀ vs,H a=some (.lst vs)→H' a=some (.lst vs))→VLs H' vs ds L
 | _,_,_,.nil,_ => .nil
 | _,_,_,.cons h hs,e => .cons (h.keepL t fun a ha=>e a (List.mem_append_left _ ha)) (hs.keepL t fun a ha=>e a (List.mem_append_right _ ha))
end
theorem VL.keep {H H':Hp} {v:V} {d:PyData} {L:List Addr} (h:VL H v d L) (s:Yb H H'):VL H' v d L:=h.keepL s.tps fun a _ vs e=>s _ _ e
theorem VLs.keep {H H':Hp} {vs:List V} {ds:List PyData} {L:List Addr} (h:VLs H vs ds L) (s:Yb H H'):VLs H' vs ds L:=h.keepL s.tps fun a _ vs e=>s _ _ e
mutual
theorem VL.mem {H:Hp}:∀ {v:V} {d:PyData} {L:List Addr},VL H v d L→∀ a∈L,∃ vs,H a=some (.lst vs)∧vs.length≤10000
 | _,_,_,.lst (a:=b) h hn hs,a,ha=>by
  rcases List.mem_cons.mp ha with e | ha
  ·subst e;exact ⟨_,h,hn⟩
  ·exact hs.mem a ha
 | _,_,_,.tup h hn hs,a,ha=>hs.mem a ha
theorem VLs.mem {H:Hp}:∀ {vs:List V} {ds:List PyData} {L:List Addr},VLs H vs ds L→∀ a∈L,∃ vs,H a=some (.lst vs)∧vs.length≤10000
 | _,_,_,.cons h hs,a,ha=>by
  rcases List.mem_append.mp ha with ha | ha
  ·exact h.mem a ha
  ·exact hs.mem a ha
end
mutual
theorem VL.den {K:PySem.W.Frag} {H:Hp}:∀ {v:V} {d:PyData} {L:List Addr},VL H v d L→Den K H v d
 | _,_,_,.int i => .int i
 | _,_,_,.str x h => .str x h
 | _,_,_,.lst h _ hs => .lst (SqL.of h) hs.den
 | _,_,_,.tup h _ hs => .tup (SqT.of h) hs.den
theorem VLs.den {K:PySem.W.Frag} {H:Hp}:∀ {vs:List V} {ds:List PyData} {L:List Addr},VLs H vs ds L→Dens K H vs ds
 | _,_,_,.nil => .nil
 | _,_,_,.cons h hs => .cons h.den hs.den
end
theorem VLs.length {H:Hp}:∀ {vs:List V} {ds:List PyData} {L:List Addr},VLs H vs ds L→vs.length=ds.length
 | _,_,_,.nil=>rfl
 | _,_,_,.cons _ hs=>congrArg (·+1) hs.length
theorem VLs.append {H:Hp} {vs':List V} {ds':List PyData} {L':List Addr}:∀ {vs:List V} {ds:List PyData} {L:List Addr},VLs H vs ds L→VLs H vs' ds' L'→VLs H (vs++vs') (ds++ds') (L++L')
 | _,_,_,.nil,h=>h
 | _,_,_,.cons a b,h=>by rw [List.append_assoc];exact .cons a (b.append h)
theorem VL.one {H:Hp} {v:V} {d:PyData} {L:List Addr} (h:VL H v d L):VLs H [v] [d] L:=by
 have:=VLs.cons h .nil
 rwa [List.append_nil] at this
theorem VLs.take {H:Hp}:∀ {vs:List V} {ds:List PyData} {L:List Addr} (n:Nat),VLs H vs ds L→∃ L',VLs H (vs.take n) (ds.take n) L'∧∀ a∈L',a∈L
 | _,_,_,0,_=>by simp;exact ⟨[],.nil,fun a h=>by cases h⟩
 | _,_,_,n+1,.nil=>by simp;exact ⟨[],.nil,fun a h=>by cases h⟩
 | _,_,_,n+1,.cons a b=>by
  obtain ⟨L',h1,h2⟩:=b.take n
  exact ⟨_,.cons a h1,fun x hx=>by
   rcases List.mem_append.mp hx with h | h
   ·exact List.mem_append_left _ h
   ·exact List.mem_append_right _ (h2 x h)⟩
structure Own (H0 H:Hp) (v:V) (d:PyData) (L:List Addr):Prop where
 vl:VL H v d L
 nd:L.Nodup
 new:∀ a∈L,H0 a=none
structure Owns (H0 H:Hp) (vs:List V) (ds:List PyData) (L:List Addr):Prop where
 vl:VLs H vs ds L
 nd:L.Nodup
 new:∀ a∈L,H0 a=none
theorem Owns.ext {H0 H1 H2:Hp} {vs:List V} {ds:List PyData} {L L':List Addr} {ys:List V} {es:List PyData} {D:Addr} {zs zs':List V} (h:Owns H0 H1 vs ds L) (hD:∀ a∈L,a≠D) (s0:Yb H0 H1) (s:Yb H1 H2) (o:Owns H1 H2 ys es L') (h1:H1 D=some (.lst zs)):Owns H0 (upd H2 D (.lst zs')) (vs++ys) (ds++es) (L++L')∧∀ a∈L++L',a≠D:=by
 have hD':∀ a∈L',a≠D:=fun a ha e=>by have:=o.new a ha;rw [e,h1] at this;cases this
 have t:Tps H2 (upd H2 D (.lst zs')) := .upd_lst (s _ _ h1)
 refine ⟨⟨((h.vl.keep s).keepL t fun a ha vs e=>by rw [Yh (hD a ha)];exact e).append (o.vl.keepL t fun a ha vs e=>by rw [Yh (hD' a ha)];exact e),?_,fun a ha=>?_⟩,fun a ha=>?_⟩
 ·refine List.nodup_append.mpr ⟨h.nd,o.nd,fun a ha b hb e=>?_⟩
  subst e
  obtain ⟨vs,e1,_⟩:=h.vl.mem a ha
  rw [o.new a hb] at e1
  cases e1
 ·rcases List.mem_append.mp ha with ha | ha
  ·exact h.new a ha
  ·exact s0.free (o.new a ha)
 ·rcases List.mem_append.mp ha with ha | ha
  ·exact hD a ha
  ·exact hD' a ha
theorem Own.inv {H0 H:Hp} {D:Addr} {ds:List PyData} {L:List Addr} (h:Own H0 H (.ref D) (.list ds) L):∃ ys L1,L=D::L1∧H D=some (.lst ys)∧ys.length≤10000∧Owns H0 H ys ds L1∧D∉L1∧H0 D=none:=by
 obtain ⟨vl,nd,new⟩:=h
 cases vl with
 | lst h1 h2 h3 =>
  have:=List.nodup_cons.mp nd
  exact ⟨_,_,rfl,h1,h2,⟨h3,this.2,fun a ha=>new a (.tail _ ha)⟩,this.1,new _ (.head _)⟩
section
variable {src:List (Option Nat)} {te:TE} {σ:St} {H:Hp} {Q:VK}
end
end L2
namespace L2
open PySem PySem.Spec PyProof.Rows
section
variable {X:Cx} {pos:Pos}
end
end L2
namespace L2
open PySem
section
variable {src:List (Option Nat)} {te:TE} {σ:St} {H:Hp} {Q:VK}
end
end L2
namespace L2
open PySem PySem.Spec PyProof.Rows
section
variable {g:Gx} {k:Nat} {x qual m:Str} {st:Stmt} {N ps:List Str} {sp:Sp} {C:Addr}
end
section
variable {g:Gx} {X:Cx} {k j:Nat} {x m:Str} {ps:List Str} {sp:Sp} {E:XK} {C:Addr} {e o:Expr} {es:List Expr} {t:TA} {ta:TE} {p pos apos:Pos}
end
section
variable {g:Gx} {X:Cx} {k jj j:Nat} {f c n:Str} {ps:List Str} {sp:Sp} {e:Expr} {es:List Expr} {t:TA} {ts:TS} {b₀:Stmt} {suite:List Stmt} {cv:Value} {fp cp hpos apos cpos pos:Pos}
end
end L2
namespace L2
open PySem PySem.Spec PyProof.Rows
def Ydx (l:List Str) (v:Str):List Str:=if l.any (·==v) then l else l++[v]
def met (val:Nat→Str) (i:Nat):List Str:=((List.range i).map val).foldl Ydx []
section
variable {prog:Program} {w:World} {A:Around} {R:Result→Shared→Prop} {I:Addr} {fp wr:List Addr} {G:Array GenState→Array GenState→Prop} {n:Nat} {P:Nat→Value→Prop} {St:Nat→Shared→Prop}
end
end L2
namespace L2
open PySem PySem.Spec PyProof.Rows
def sg (x:Str) (i:Nat):Str:=⟨#[x.cps.getD i 0]⟩
section
variable {prog:Program} {w:World} {A:Around} {E:Value→Shared→Prop} {s:Shared}
end
def SetO (a:Addr) (n:Nat):HO := .ext fun h=>∃ (o:Obj) (es:Array (Int×Value)) (ep:Nat) (t:SetTable),h.get? a=some o∧o.ExactSet∧o.data = .set es ep t∧t.fits es.size=true∧es.size=n∧n<scanBound
section
variable {X:Cx}
end
end L2
namespace L2
open PySem PySem.Spec PyProof.Rows
section
variable {X:Cx}
end
end L2
namespace L2
open PySem PySem.Spec PyProof.Rows
section
variable {X:Cx}
end
end L2
namespace L2
open PySem PySem.Spec PyProof.Rows
section
variable {X:Cx}
end
end L2
namespace L2
open PySem PySem.Spec PyProof.Rows
section
variable {X:Cx} {e lo st:Expr} {te tl ts:TE} {pos p2:Pos}
end
section
variable {g:Gx} {X:Cx} {k j:Nat} {x m:Str} {ps:List Str} {sp:Sp} {e:Expr} {es:List Expr} {t:TA} {p pos apos:Pos}
end
end L2
namespace L2
open PySem PySem.Spec PyProof.Rows
section
variable {X:Cx}
end
section
variable {K:PySem.W.Frag} {h:Heap} {mg:Str→Option Value} {P:Program} {w:World} {base:Heap} {f B:Addr} {x qual m:Str} {st:Stmt} {ps N:List Str} {oc kV dc pm cd ct:Value} {od an:Option Addr} {sl:Array (Option Value)} {g:Gx} {k:Nat} {sp:Sp}
end
end L2
namespace L2
end L2
namespace L2
open PySem PySem.Spec PyProof.Rows
section
variable {g:TG} {tb:TS} {D:Ends} {σ:St} {H:Hp}
end
def V0s (H:Hp) (us:List V) (ds:List PyData):Prop:=us.length=ds.length∧∀ (i:Nat) u d,us[i]?=some u→ds[i]?=some d→VL H u d []
theorem V0s.keep {H H':Hp} {us:List V} {ds:List PyData} (h:V0s H us ds) (t:Tps H H'):V0s H' us ds:=⟨h.1,fun i u d h1 h2=>(h.2 i u d h1 h2).keepL t fun a ha=>absurd ha (by simp)⟩
theorem V0s.nil {H:Hp}:V0s H [] []:=⟨rfl,fun i u d h=>by simp at h⟩
theorem V0s.one {H:Hp} {u:V} {d:PyData} (h:VL H u d []):V0s H [u] [d]:=⟨rfl,fun i x y h1 h2=>by
 cases i with
 | zero =>
  have e1:u=x:=by simpa using h1
  have e2:d=y:=by simpa using h2
  subst e1 e2
  exact h
 | succ i=>simp at h1⟩
theorem V0s.append {H:Hp} {us us':List V} {ds ds':List PyData} (h:V0s H us ds) (h':V0s H us' ds'):V0s H (us++us') (ds++ds'):=by
 refine ⟨by rw [List.length_append,List.length_append,h.1,h'.1],fun i u d h1 h2=>?_⟩
 by_cases hi:i<us.length
 ·rw [List.getElem?_append_left hi] at h1
  rw [List.getElem?_append_left (by rw [← h.1];exact hi)] at h2
  exact h.2 i u d h1 h2
 ·rw [List.getElem?_append_right (by omega)] at h1
  rw [List.getElem?_append_right (by rw [← h.1];omega),← h.1] at h2
  exact h'.2 _ u d h1 h2
theorem V0s.take {H:Hp} {us:List V} {ds:List PyData} (h:V0s H us ds) (n:Nat):V0s H (us.take n) (ds.take n):=by
 refine ⟨by rw [List.length_take,List.length_take,h.1],fun i u d h1 h2=>?_⟩
 rw [List.getElem?_take] at h1 h2
 split at h1
 ·rw [if_pos (by assumption)] at h2;exact h.2 i u d h1 h2
 ·cases h1
theorem V0s.of {H:Hp}:∀ {us:List V} {ds:List PyData} {L:List Addr},VLs H us ds L→L=[]→V0s H us ds
 | _,_,_,.nil,_ => .nil
 | _,_,_,.cons h hs,e=>by
  obtain ⟨e1,e2⟩:=List.append_eq_nil_iff.mp e
  subst e1
  have:=(V0s.of hs e2)
  exact V0s.append (.one h) this
end L2
namespace L2
open PySem
end L2
namespace L2
open PySem
theorem Ycq {K:PySem.W.Frag} {src:List (Option Nat)} {te tl:TE} {σ:St} {H:Hp} {Q:VK} (G:Addr→List V→Hp→Prop) (ha:∀ R:V→Hp→Prop,(∀ b xs H1,SqL K H1 b xs→G b xs H1→R (.ref b) H1)→tl σ H R)
  (hb:∀ b xs H1,SqL K H1 b xs→G b xs H1→xs.length≤100000∧∃ Rl:Addr→Nat→V→Hp→Prop,(∀ D i y H H',Rl D i y H→Yb H H'→Rl D i y H')∧(∀ D i y H zs zs',Rl D i y H→H D=some (.lst zs)→Rl D i y (upd H D (.lst zs'))) ∧
   (∀ D (i:Nat) x H' zs,xs[i]?=some x→Yb H1 H'→H' D=some (.lst zs)→∀ R:VK,(∀ y H'',Yb H' H''→Rl D i y H''→R y H'')→te (some x::Yw src σ) H' R) ∧
   (∀ D (ys:List V) H',H1 D=none→Yb H1 H'→H' D=some (.lst ys)→ys.length=xs.length→(∀ (j:Nat) y,ys[j]?=some y→Rl D j y H')→Q (.ref D) H')):tLC (none::src) (Ws K tl) (Ys 0) Xs te σ H Q :=
 ha _ fun b xs H1 hS hG=>by
  obtain ⟨hlen,Rl,st,su,step,fin⟩:=hb b xs H1 hS hG
  exact ⟨b,rfl,⟨xs,hS⟩,fun D hD=>Ydw (XL.imp fun H' (e:Yb H1 H')=>e.seq hS) (Rl D) (st D) (su D) (fun _ e=>e) hD hlen (fun i x H' zs hx sm hd R r=>step D i x H' zs hx sm hd R r) fun ys H' sm=>fin D ys H' hD sm⟩
end L2
namespace L2
open PySem PySem.Spec PyProof.Rows
section
variable {X:Cx} {elts:List Expr} {kk:Nat} {tpos:Pos}
end
section
variable {tb:TS} {D:Ends} {σ:St} {H:Hp}
end
end L2
namespace L2
open PySem
end L2
namespace L2
open PySem PySem.Spec PyProof.Rows
abbrev FnO (f:Addr) (fd:FuncData):HO := .ext fun h=>h.get? f=some { cls := .type "function",data := .func fd }
abbrev CdO (c:Addr) (q:Str):HO := .ext fun h=>h.CodeRec (.ref c) q
abbrev UU (c:Addr) (v:V):HO := .ext fun h=>∃ u,Yr v u∧h.IsCell c (some u)
section
variable {P:Program} {w:World} {H H':Hp} {h h':Heap}
theorem YbH {f:Addr} {fd:FuncData} (e:h.get? f=some { cls := .type "function",data := .func fd }):YJ P w H h f (FnO f fd):=⟨e,⟨_,e⟩,fun _ _ p k=>k _ p⟩
theorem Yd9 {c:Addr} {q:Str} (e:h.CodeRec (.ref c) q):YJ P w H h c (CdO c q):=by
 obtain ⟨c',o,vs,t,e1,e2,e3⟩:=id e
 cases e1
 refine ⟨e,⟨_,e2⟩,fun h1 h2 p k=>?_⟩
 obtain ⟨c',o,vs,t,e1,e2,e3⟩:=p
 cases e1
 exact ⟨c,o,vs,t,rfl,k _ e2,e3⟩
theorem Ql {c:Addr} {v:V} {u:Value} (r:Yr v u) (e:h.IsCell c (some u)):YJ P w H h c (UU c v):=by
 obtain ⟨o,e1,e2⟩:=id e
 refine ⟨⟨u,r,e⟩,⟨_,e1⟩,fun h1 h2 p k=>?_⟩
 obtain ⟨u,r,o,e1,e2⟩:=p
 exact ⟨u,r,o,k _ e1,e2⟩
theorem HOk.track {c:Addr} {o:HO} (x:HOk P w H h) (hn:H c=none) (new:YJ P w (upd H c o) h c o):HOk P w (upd H c o) h:=fun b u e=>by
 by_cases hb:b=c
 ·subst hb;rw [Yc] at e;cases e;exact new
 ·rw [Yh hb] at e
  exact (x b u e).stay (fun _ _ _ q=>q) (fun d q=>by rw [Yh (Yv q hn)];exact q) fun d xs q=>by rw [Yh (Yv q hn)];exact q
end
def off (H:Hp) (cs:List Addr):Hp:=fun b=>if b∈cs then none else H b
def on (H' H:Hp) (cs:List Addr):Hp:=fun b=>if b∈cs then H b else H' b
section
variable {H H':Hp} {cs:List Addr} {b:Addr} {o:HO}
theorem VF (h:b∈cs):off H cs b=none:=if_pos h
theorem XU (h:b∉cs):off H cs b=H b:=if_neg h
theorem on_in (h:b∈cs):on H' H cs b=H b:=if_pos h
theorem Wp (h:b∉cs):on H' H cs b=H' b:=if_neg h
theorem XV (h:H b=none):off H cs b=none:=by unfold off;split<;>first | rfl | exact h
theorem VG (h:off H cs b=some o):H b=some o∧b∉cs:=by
 by_cases hb:b∈cs
 ·rw [VF hb] at h;cases h
 ·rw [XU hb] at h;exact ⟨h,hb⟩
end
abbrev YG:=List (Str×Addr×V)
def YG.cl (l:YG):List (Str×Addr):=l.map fun p=>(p.1,p.2.1)
def YG.as (l:YG):List Addr:=l.map fun p=>p.2.1
def YG.vs (l:YG):List V:=l.map fun p=>p.2.2
def YG.In (l:YG) (H:Hp):Prop:=∀ p∈l,H p.2.1=some (UU p.2.1 p.2.2)
theorem YG.In.keep {l:YG} {H H':Hp} (h:l.In H) (s:Yb H H'):l.In H':=fun p hp=>s _ _ (h p hp)
section
variable {l:YG} {H:Hp}
theorem XW {c:Addr} (h:c∈l.as):∃ p∈l,p.2.1=c:=by
 obtain ⟨p,hp,e⟩:=List.mem_map.mp h
 exact ⟨p,hp,e⟩
theorem XN:∀ {l:YG} {x:Str} {c:Addr},l.cl.lookup x=some c→∃ p∈l,p.1=x∧p.2.1=c
 | p::l,x,c,h=>by
  rw [YG.cl,List.map_cons,List.lookup_cons] at h
  cases hb:x==p.1 with
  | true=>rw [hb] at h;exact ⟨p,.head _,(eq_of_beq hb).symm,Option.some.inj h⟩
  | false =>
   rw [hb] at h
   obtain ⟨q,h1,h2⟩:=XN (l:=l) h
   exact ⟨q,.tail _ h1,h2⟩
theorem Qm:∀ {l:YG},(l.map (·.1)).Nodup→∀ p∈l,l.cl.lookup p.1=some p.2.1
 | a::q,nd,p,hp=>by
  rw [List.map_cons,List.nodup_cons] at nd
  rw [YG.cl,List.map_cons,List.lookup_cons]
  rcases List.mem_cons.mp hp with rfl | hp
  ·simp
  ·have:(p.1==a.1)=false:=by
    rw [beq_eq_false_iff_ne]
    intro z
    exact nd.1 (z▸List.mem_map_of_mem hp)
   rw [this]
   exact Qm nd.2 p hp
theorem Yaq {b:Addr} {xs:List V} (hl:l.In H) (h:H b=some (.tup xs)):off H l.as b=some (.tup xs):=by
 rw [XU fun hb=>?_]
 ·exact h
 ·obtain ⟨p,hp,rfl⟩:=XW hb
  rw [hl p hp] at h;cases h
theorem VW {b:Addr} {o:HO} (hl:l.In H) (h:H b=some o) (ho:∀ φ,o ≠ .ext φ):off H l.as b=some o:=by
 rw [XU fun hb=>?_]
 ·exact h
 ·obtain ⟨p,hp,rfl⟩:=XW hb
  rw [hl p hp] at h
  exact ho _ (Option.some.inj h).symm
theorem Ydy {P:Program} {w:World} {h:Heap} (hl:l.In H) (x:HOk P w H h):HOk P w (off H l.as) h:=fun b o e=>by
 obtain ⟨e1,e2⟩:=VG e
 refine (x b o e1).stay (fun _ _ _ q=>q) (fun c q=>VW hl q fun φ z=>by cases z) fun c xs q=>Yaq hl q
end
def Qn (P:Program) (w:World) (K:PySem.W.Frag) (mg:Str→Option Value) (base:Heap) (N:List Str) (qual:Str) (scope:Scope) (f:Addr) (cd:Value) (cl:List (Str×Addr)) (A:Around) (outer:List Env) (s:Shared) (H:Hp):Cx where
 prog:=P
 w:=w
 K:=K
 mg:=mg
 base:=base
 A:=A.deeper (PySem.W.envX qual scope s.heap.objs.size f cd cl)
 N:=N
 s₀:=s
 H₀:=H
 env:=PySem.W.envX qual scope s.heap.objs.size f cd cl
 outer:=outer
 stack:=PySem.W.envX qual scope s.heap.objs.size f cd cl::outer
 ex:=[]
 calm:=true
 fn:=fun _=>false
 pn:=[]
 xe:=fun _ _=>False
structure ClScope (N ps:List Str) (l:List Str) (sc:Scope):Prop where
 kind:sc.kind = .function
 co:sc.isCoroutine=false
 gen:sc.isGenerator=false
 nd:N.Nodup
 pre:N.take ps.length=ps
 suf:N.drop (N.length - l.length)=l
 len:ps.length+l.length≤N.length
 par:∀ x∈ps,sc.names.lookup x=some .local
 fre:∀ x∈l,sc.names.lookup x=some .free
 nocell:∀ y∈sc.names,y.2 ≠ .cell
 all:∀ y∈sc.names,y.2 = .free→y.1∈l
def W3 (N:List Str) (vs fv:List V):St:=vs.map some++List.replicate (N.length - vs.length - fv.length) none++fv.map some
section
variable {P:Program} {w:World} {K:PySem.W.Frag} {mg:Str→Option Value} {base:Heap} {N ps:List Str} {qual name:Str} {scope:Scope} {f c:Addr} {A:Around} {outer:List Env} {s:Shared} {H:Hp} {us:List Value} {vs:List V} {l:YG} {cd:Value}
theorem VX:∀ {ps:List Str} {us:List Value} {i:Nat} {x:Str} {u:Value},ps.Nodup→ps[i]?=some x→us[i]?=some u→(ps.zip us).reverse.lookup x=some u:=by
 intro ps us i x u nd h1 h2
 have hm:(x,u)∈ps.zip us:=List.mem_of_getElem? (show (ps.zip us)[i]?=some (x,u) from List.getElem?_zip_eq_some.mpr ⟨h1,h2⟩)
 have key:∀ (q:List (Str×Value)),(q.map (·.1)).Nodup→(x,u)∈q→q.lookup x=some u:=by
  intro q
  induction q with
  | nil=>intro _ h;cases h
  | cons a q ih =>
   intro nd h
   rw [List.lookup_cons]
   rw [List.map_cons,List.nodup_cons] at nd
   rcases List.mem_cons.mp h with rfl | h
   ·simp
   ·have:(x==a.1)=false:=by
     rw [beq_eq_false_iff_ne]
     intro z
     exact nd.1 (z▸List.mem_map_of_mem h)
    rw [this]
    exact ih nd.2 h
 refine key _ ?_ (List.mem_reverse.mpr hm)
 rw [List.map_reverse]
 have hz:∀ (ps:List Str) (us:List Value),ps.Nodup→((ps.zip us).map (·.1)).Nodup∧∀ z∈(ps.zip us).map (·.1),z∈ps:=by
  intro ps
  induction ps with
  | nil=>intro us _;simp
  | cons a ps ih =>
   intro us nd
   cases us with
   | nil=>simp
   | cons u us =>
    have nd':=List.nodup_cons.mp nd
    obtain ⟨i1,i2⟩:=ih us nd'.2
    rw [List.zip_cons_cons,List.map_cons]
    refine ⟨List.nodup_cons.mpr ⟨fun hm=>nd'.1 (i2 _ hm),i1⟩,fun z hz=>?_⟩
    rcases List.mem_cons.mp hz with rfl | hz
    ·exact .head _
    ·exact .tail _ (i2 z hz)
 exact List.pairwise_reverse.mpr ((hz ps us nd).1.imp fun h=>Ne.symm h)
theorem YaV {h1:Heap} {tk:Nat} (S:ClScope N ps (l.map (·.1)) scope) (hnd:l.as.Nodup) (hd:A.handled=none) (e0:Env0 P w K mg base A outer s H) (hl:vs.length=ps.length) (r:Yn vs us) (cellAt:∀ p∈l,∃ u,Yr p.2.2 u∧s.heap.IsCell p.2.1 (some u)) (hoff:HOk P w (off H l.as) s.heap)
  (hns:h1.Ns s.heap.objs.size (fun x=>(ps.zip us).reverse.lookup x)) (hk:∀ b o,s.heap.get? b=some o→h1.get? b=some o) :
  Inv (Qn P w K mg base N qual scope f cd l.cl A outer s (off H l.as)) [] (W3 N vs l.vs) (off H l.as) { s with heap:=h1,toks:=tk }:=by
 have lfst:l.cl.map (·.1)=l.map (·.1):=by rw [YG.cl,List.map_map];rfl
 have ndN:(l.map (·.1)).Nodup:=by rw [← S.suf];exact S.nd.sublist (List.drop_sublist _ _)
 have noA:∀ b:Addr,b∉(Qn P w K mg base N qual scope f cd l.cl A outer s (off H l.as)).ex:=fun b z=>absurd (show b∈([]:List Addr) from z) (by simp)
 have lk:=Qm ndN
 have cinj:∀ p∈l,∀ q∈l,p.2.1=q.2.1→p=q:=fun p hp q hq e=>by
  obtain ⟨i,hi,e1⟩:=List.getElem_of_mem hp
  obtain ⟨j,hj,e2⟩:=List.getElem_of_mem hq
  have h1:l.as[i]?=some p.2.1:=by rw [YG.as,List.getElem?_map,List.getElem?_eq_getElem hi,e1];rfl
  have h2:l.as[j]?=some p.2.1:=by rw [YG.as,List.getElem?_map,List.getElem?_eq_getElem hj,e2,e];rfl
  have hij:i=j:=by
   obtain ⟨g1,g2⟩:=List.getElem?_eq_some_iff.mp h1
   obtain ⟨g3,g4⟩:=List.getElem?_eq_some_iff.mp h2
   exact (List.getElem_inj hnd).mp (g2.trans g4.symm)
  subst hij
  rw [← e1,← e2]
 refine ⟨⟨e0.mod,S.kind,rfl,rfl,Nat.le_refl _,fun y z c h1 h2=>?_,fun y hy=>?_,fun y c h _=>absurd h (by show ¬ (false=true);decide),fun _=>hd,Around.frames_deeper e0.frames,.inr ⟨rfl,rfl⟩,fun b z=>absurd z (noA b),fun b o e=>⟨(e0.bs b o e).1,XV (e0.bs b o e).2⟩,e0.bsz,fun b _ _=>noA b,fun b z=>absurd z (noA b),e0.funs,fun b hb=>XV (e0.frf b hb)⟩,
  rfl,e0.bare,Un.kept hk,⟨_,hns,fun i y v h1 h2 h3=>?_⟩,fun y c h=>?_,XV (e0.hok.fresh (Nat.le_refl _)),fun y c h=>?_,fun p hp=>absurd (show p∈([]:List (Addr×Obj)) from hp) (by simp),hoff.kept hk,?_⟩
 ·obtain ⟨p,hp,e1,e2⟩:=XN h1
  obtain ⟨q,hq,e3,e4⟩:=XN h2
  have:=cinj p hp q hq (e2.trans e4.symm)
  rw [← e1,← e3,this]
 ·have hy:scope.names.lookup y=some .cell∨scope.names.lookup y=some .free:=hy
  rcases hy with hy | hy
  ·exact absurd rfl (S.nocell _ (PySem.mem_of_lookup hy))
  ·obtain ⟨p,hp,e⟩:=List.mem_map.mp (S.all _ (PySem.mem_of_lookup hy) rfl)
   exact ⟨p.2.1,by show l.cl.lookup y=_;rw [← show p.1=y from e];exact lk p hp⟩
 ·have hvl:l.vs.length=(l.map (·.1)).length:=by rw [YG.vs,List.length_map,List.length_map]
  have hsl:=S.len
  unfold W3 at h2
  by_cases hi:i<vs.length
  ·have ha:vs[i]?=some v:=by
    rw [List.append_assoc,List.getElem?_append_left (by simpa using hi),List.getElem?_map] at h2
    cases e:vs[i]? with
    | none=>rw [e] at h2;cases h2
    | some a=>rw [e] at h2;cases h2;rfl
   obtain ⟨u,hu,rv⟩:=r.get ha
   have hp:ps[i]?=some y:=by
    rw [← S.pre,List.getElem?_take_of_lt (by omega)];exact h1
   have ndP:ps.Nodup:=by rw [← S.pre];exact S.nd.sublist (List.take_sublist _ _)
   exact ⟨u,rv,.inl ⟨S.par y (List.mem_of_getElem? hp),VX ndP hp hu⟩⟩
  ·by_cases hi2:i<vs.length+(N.length - vs.length - l.vs.length)
   ·rw [List.getElem?_append_left (by rw [List.length_append,List.length_map,List.length_replicate];exact hi2),List.getElem?_append_right (by rw [List.length_map];omega),List.getElem?_replicate] at h2
    split at h2<;>cases h2
   ·rw [List.getElem?_append_right (by rw [List.length_append,List.length_map,List.length_replicate];omega),List.length_append,List.length_map,List.length_replicate,List.getElem?_map] at h2
    obtain ⟨v',hv',e⟩:=Option.map_eq_some_iff.mp h2
    cases e
    have hv2:(l.map fun p=>p.2.2)[i - (vs.length+(N.length - vs.length - l.vs.length))]?=some _:=hv'
    rw [List.getElem?_map] at hv2
    obtain ⟨p,hp,rfl⟩:=Option.map_eq_some_iff.mp hv2
    have hpm:=List.mem_of_getElem? hp
    have hy:(l.map (·.1))[i - (vs.length+(N.length - vs.length - l.vs.length))]?=some y:=by
     rw [← S.suf,List.getElem?_drop]
     rw [show N.length - (l.map (·.1)).length+(i - (vs.length+(N.length - vs.length - l.vs.length)))=i by omega]
     exact h1
    rw [List.getElem?_map,hp] at hy
    have ey:p.1=y:=Option.some.inj hy
    obtain ⟨u,ru,hc⟩:=cellAt p hpm
    obtain ⟨o,ho,hd'⟩:=hc
    refine ⟨u,ru,.inr ⟨.inr ?_,p.2.1,by show l.cl.lookup y=_;rw [← ey];exact lk p hpm,o,hk _ _ ho,hd'⟩⟩
    exact S.fre y (by rw [← ey];exact List.mem_map_of_mem hpm)
 ·obtain ⟨p,hp,e1,e2⟩:=XN (show l.cl.lookup y=some c from h)
  obtain ⟨u,ru,o,ho,hd'⟩:=cellAt p hp
  exact ⟨some u,o,by rw [← e2];exact hk _ _ ho,hd'⟩
 ·obtain ⟨p,hp,e1,e2⟩:=XN (show l.cl.lookup y=some c from h)
  exact VF (by rw [← e2];exact List.mem_map_of_mem hp)
 ·unfold W3
  show _=N.length
  have hvl:l.vs.length=(l.map (·.1)).length:=by rw [YG.vs,List.length_map,List.length_map]
  have hsl:=S.len
  rw [List.length_append,List.length_append,List.length_map,List.length_map,List.length_replicate]
  omega
theorem YaW {h1:Heap} {tk:Nat} (S:ClScope N ps (l.map (·.1)) scope) (hnd:l.as.Nodup) (hd:A.handled=none) (e0:Env0 P w K mg base A outer s H) (hl:vs.length=ps.length) (r:Yn vs us) (hin:l.In H)
  (hns:h1.Ns s.heap.objs.size (fun x=>(ps.zip us).reverse.lookup x)) (hk:∀ b o,s.heap.get? b=some o→h1.get? b=some o) :
  Inv (Qn P w K mg base N qual scope f cd l.cl A outer s (off H l.as)) [] (W3 N vs l.vs) (off H l.as) { s with heap:=h1,toks:=tk } :=
 YaV S hnd hd e0 hl r (fun p hp=>(e0.hok _ _ (hin p hp)).1) (Ydy hin e0.hok) hns hk
theorem ce_of {Q:VK} {v:V} {u:Value} {σ':St} {H':Hp} {s':Shared} (e0:Env0 P w K mg base A outer s H) (hin:l.In H) (J:Inv (Qn P w K mg base N qual scope f cd l.cl A outer s (off H l.as)) [] σ' H' s') (hlk:∀ p∈l,l.cl.lookup p.1=some p.2.1) (rv:Yr v u) (q:(∀ c∈l.as,H' c=none)→Q v (on H' H l.as)) :
  CE outer P w H s Q u s':=by
 have un:=J.base
 have nin:∀ {b:Addr},H b=none→b∉l.as:=fun hb hm=>by
  obtain ⟨p,hp,rfl⟩:=XW hm
  rw [hin p hp] at hb;cases hb
 have freeC:∀ c∈l.as,H' c=none:=fun c hc=>by
  obtain ⟨p,hp,rfl⟩:=XW hc
  exact J.freeC p.1 p.2.1 (hlk p hp)
 refine ⟨v,on H' H l.as,J.os,J.bare,⟨fun b o e n hb hx=>un.keep b o e (XV n) hb hx,fun b o e n hb hx=>un.slot b o e (XV n) hb hx,fun b o e n hx=>?_,fun b o e hx=>un.there b o e hx,fun b xs e=>?_,fun b o u e=>?_,fun b ps e=>?_⟩,fun b o e=>?_,rv,q freeC⟩
 ·rw [Wp (nin n)]
  exact un.free b o e (XV n) hx
 ·have h1:=Yaq hin e
  rw [Wp (VG h1).2]
  exact un.tups b xs h1
 ·have h1:=VW hin e fun φ z=>by cases z
  rw [Wp (VG h1).2]
  exact un.frzs b o u h1
 ·have h1:=VW hin e fun φ z=>by cases z
  rw [Wp (VG h1).2]
  exact un.tbls b ps h1
 ·by_cases hb:b∈l.as
  ·rw [on_in hb] at e
   obtain ⟨p,hp,rfl⟩:=XW hb
   rw [hin p hp] at e
   cases e
   obtain ⟨⟨u,r,oc,ho,hd'⟩,_⟩:=e0.hok _ _ (hin p hp)
   refine Ql r ⟨oc,un.keep _ _ ho (VF hb) (fun hf=>?_) (by intro z;exact absurd (show p.2.1∈([]:List Addr) from z) (by simp)),hd'⟩
   have:=e0.frf _ hf
   rw [hin p hp] at this;cases this
  ·rw [Wp hb] at e
   refine (J.hok b o e).stay (fun _ _ _ q=>q) (fun c q=>?_) fun c xs q=>?_
   ·rw [Wp fun hc=>?_]
    ·exact q
    ·rw [freeC c hc] at q;cases q
   ·rw [Wp fun hc=>?_]
    ·exact q
    ·rw [freeC c hc] at q;cases q
end
def Qo (H:Hp) (f c:Addr) (fd:FuncData) (qual:Str) (l:YG):Prop:=H f=some (FnO f fd)∧H c=some (CdO c qual)∧l.In H
theorem Qo.keep {H H':Hp} {f c:Addr} {fd:FuncData} {qual:Str} {l:YG} (h:Qo H f c fd qual l) (s:Yb H H'):Qo H' f c fd qual l:=⟨s _ _ h.1,s _ _ h.2.1,h.2.2.keep s⟩
end L2
namespace L2
open PySem PySem.Spec PyProof.Rows
def Bm (mg:Str→Option Value) (base:Heap):Prop:=∃ bm ob,mg "__builtins__"=some (.ref bm)∧bm≠builtinsNs∧bm≠mainGlobals∧base.get? bm=some ob∧ob.cls = .type "module"∧ob.dict=some builtinsNs∧ob.data = .plain
section
variable {X:Cx} {pins:List (Addr×Obj)} {σ:St} {H:Hp} {s:Shared}
theorem Inv.madeF {P c':Addr} {ps more:Array Value} {h':Heap} {tk:Nat} {fd:FuncData} {qual:Str} (I:Inv X pins σ H s) (hP:H P=some (.tbl ps)) (hx:Heap.ExtBut P s.heap h') (hge:s.heap.objs.size≤c') (hlt:c'<h'.objs.size) (hrec:h'.CodeRec (.ref c') qual) (htb:h'.get? P=some (PySem.W.tabObj (ps++more))) :
  Inv X pins σ (upd (upd (upd H P (.tbl (ps++more))) c' (CdO c' qual)) h'.objs.size (FnO h'.objs.size fd)) { s with heap:=h'.push { cls := .type "function",data := .func fd },toks:=tk }:=by
 have hPl:P<s.heap.objs.size:=I.hok.lt hP
 have hcf:s.heap.objs.size≤h'.objs.size:=Nat.le_trans hge (Nat.le_of_lt hlt)
 have hlc:∀ {b:Addr},b<s.heap.objs.size→b≠c'∧b≠h'.objs.size:=fun e=>⟨Nat.ne_of_lt (Nat.lt_of_lt_of_le e hge),Nat.ne_of_lt (Nat.lt_of_lt_of_le e hcf)⟩
 have hHc:∀ {b:Addr} {o:HO},H b=some o→b≠c'∧b≠h'.objs.size:=fun e=>hlc (I.hok.lt e)
 have push:∀ b o,h'.get? b=some o→(h'.push { cls := .type "function",data := .func fd }).get? b=some o:=fun b o e=>Heap.get?_push_of_some _ e
 have hget:∀ {b:Addr},b≠P→b≠c'→b≠h'.objs.size→(upd (upd (upd H P (.tbl (ps++more))) c' (CdO c' qual)) h'.objs.size (FnO h'.objs.size fd)) b=H b:=fun h1 h2 h3=>by rw [Yh h3,Yh h2,Yh h1]
 have atP:(upd (upd (upd H P (.tbl (ps++more))) c' (CdO c' qual)) h'.objs.size (FnO h'.objs.size fd)) P=some (.tbl (ps++more)):=by rw [Yh (hlc hPl).2,Yh (hlc hPl).1,Yc]
 refine I.un ⟨fun b o e n _ _=>push b o (hx b o (fun z=>by rw [z,hP] at n;cases n) e),fun b o e n _ _=>⟨o.slots,push b o (hx b o (fun z=>by rw [z,hP] at n;cases n) e)⟩,fun b o e n _=>?_,fun b o e _=>?_,fun b xs e=>?_,fun b o u e=>?_,fun b qs e=>?_⟩ fun b o e=>?_
 ·have:=Heap.lt_size e
  rw [hget (fun z=>by rw [z,hP] at n;cases n) (hlc this).1 (hlc this).2];exact n
 ·by_cases hb:b=P
  ·subst hb;exact ⟨_,push _ _ htb⟩
  ·exact ⟨o,push b o (hx b o hb e)⟩
 ·rw [hget (X4 e hP (by intro z;cases z)) (hHc e).1 (hHc e).2];exact e
 ·rw [hget (X4 e hP (by intro z;cases z)) (hHc e).1 (hHc e).2];exact e
 ·by_cases hb:b=P
  ·subst hb
   rw [hP] at e;cases e
   exact ⟨more,atP⟩
  ·exact ⟨#[],by rw [hget hb (hHc e).1 (hHc e).2,e];simp⟩
 ·by_cases h3:b=h'.objs.size
  ·subst h3
   rw [Yc] at e;cases e
   exact YbH (Heap.get?_push_size _ rfl)
  ·by_cases h2:b=c'
   ·subst h2
    rw [Yh h3,Yc] at e;cases e
    exact Yd9 (hrec.push _)
   ·by_cases h1:b=P
    ·subst h1
     rw [atP] at e;cases e
     exact push _ _ htb
    ·rw [hget h1 h2 h3] at e
     refine (I.hok b o e).stay (fun c u hc q=>push c u (hx c u ?_ q)) (fun c q=>?_) fun c xs q=>?_
     ·rcases hc with rfl | hc
      ·exact h1
      ·exact X4 hc hP (by intro z;cases z)
     ·rw [hget (X4 q hP (by intro z;cases z)) (hHc q).1 (hHc q).2];exact q
     ·rw [hget (X4 q hP (by intro z;cases z)) (hHc q).1 (hHc q).2];exact q
end
def Made (P:Addr) (pos:Pos) (q:Str) (mk:Addr→FuncData→Prop) (H:Hp) (Q:VK):Prop:=∃ ps,H P=some (.tbl ps)∧TriplesOk ps.toList ∧
 ((codeAmong pos ps.toList=none∧∀ f c fd,H f=none→H c=none→f≠c→mk c fd→Q (.ref f) (upd (upd (upd H P (.tbl (ps++#[rawInt pos.line,rawInt pos.col,.ref c]))) c (CdO c q)) f (FnO f fd))) ∨
  ∃ c,codeAmong pos ps.toList=some (.ref c)∧∀ f fd,H f=none→mk c fd→Q (.ref f) (upd H f (FnO f fd)))
section
variable {X:Cx} {c P:Addr} {name qual:Str} {params:Arguments} {body:List Stmt} {eb:Expr} {scope:Scope} {clos:List (Str×Addr)} {pos:Pos} {ln:Nat}
abbrev Yc6 (qual:Str) (params:Arguments) (body:Expr) (scope:Scope) (clos:List (Str×Addr)) (c:Addr) (fd:FuncData):Prop:=∃ pm ctv,fd=PySem.W.kla_fn "<lambda>" qual params body scope clos pm (.ref c) ctv
theorem YbI {pins:List (Addr×Obj)} {σ:St} {H:Hp} {s:Shared} {ps:Array Value} (I:Inv X pins σ H s) (bm:Bm X.mg X.base) (hP:H P=some (.tbl ps)):mainGlobals≠P∧s.heap.BuiltinsAt X.mg P:=by
 refine ⟨fun z=>?_,?_⟩
 ·obtain ⟨o,es,ep,e,_⟩:=I.mod.glob
  have:=(I.bs _ _ e).2
  rw [z,hP] at this;cases this
 ·obtain ⟨b,ob,h1,h2,h3,h4,h5⟩:=bm
  refine ⟨b,ob,h1,h2,h3,fun z=>?_,(I.bs _ _ h4).1,h5⟩
  have:=(I.bs _ _ h4).2
  rw [z,hP] at this;cases this
theorem Yea {pins:List (Addr×Obj)} {σ:St} {H:Hp} {s:Shared} {Q:VK} (bm:Bm X.mg X.base) (C:PySem.W.CodeHd X.base c P) (hcode:X.env.code = .ref c) (hcl:closureFor scope X.env=pure clos) (I:Inv X pins σ H s) (h:Made P pos qual (Yc6 qual params eb scope clos) H Q) :
  wpAny (model X.prog X.w) X.A (makeFunction "<lambda>" qual params (.expr eb) scope X.env [] [] [] pos ln) (EP X pins σ Q) X.xe s:=by
 obtain ⟨ps,hP,ht,h⟩:=h
 obtain ⟨hgP,hb⟩:=YbI I bm hP
 have hPo:s.heap.get? P=some (PySem.W.tabObj ps):=I.hok P _ hP
 rcases h with ⟨hnf,h⟩ | ⟨c',hf,h⟩
 ·refine PySem.W.kla_makeFunction (mg:=X.mg) hcl I.ok.glob (I.mod.glob.keeps I.bk) hcode (C.keeps I.bk) hPo ht hnf hgP hb fun c' ctv h' tk hx hge hlt hrec htb=>?_
  refine ⟨.ref h'.objs.size,_,I.madeF hP hx hge hlt hrec htb,rfl,h _ _ _ (I.hok.fresh (Nat.le_trans hge (Nat.le_of_lt hlt))) (I.hok.fresh hge) (Nat.ne_of_gt hlt) ⟨_,_,rfl⟩⟩
 ·refine PySem.W.kla_makeFunctionHit (mg:=X.mg) hcl I.ok.glob (I.mod.glob.keeps I.bk) hcode (C.keeps I.bk) hPo ht hf hb fun ctv h' tk hk hsz=>?_
  exact ⟨.ref h'.objs.size,_,I.laid (fun b o e=>Heap.get?_push_of_some _ (hk b o e)) hsz (YbH (Heap.get?_push_size _ rfl)),rfl,h _ _ (I.hok.fresh hsz) ⟨_,_,rfl⟩⟩
def tLam (P:Addr) (pos:Pos) (q:Str) (mk:Addr→FuncData→Prop):TE:=fun _ H Q=>Made P pos q mk H Q
theorem Yeb (bm:Bm X.mg X.base) (C:PySem.W.CodeHd X.base c P) (hcode:X.env.code = .ref c) (hcl:closureFor scope X.env=pure clos) (hq:X.env.qual++"<lambda>"=qual) (hdef:defaultsOf params X.env=([],[])) :
  PE X (.Lambda params eb scope pos) (tLam P pos qual (Yc6 qual params eb scope clos)):=by
 intro pins s σ H Q I h
 refine PySem.W.kla_eval hdef ?_
 rw [hq]
 exact Yea bm C hcode hcl I h
end
def lay (H:Hp):YG→Hp
 | []=>H
 | p::l=>upd (lay H l) p.2.1 (UU p.2.1 p.2.2)
theorem Va {H:Hp} {b:Addr}:∀ {l:YG},b∉l.as→lay H l b=H b
 | [],_=>rfl
 | p::l,h=>by
  have h1:b≠p.2.1:=fun z=>h (by rw [z];exact .head _)
  rw [lay,Yh h1]
  exact Va fun z=>h (.tail _ z)
def VY (X:Cx) (σ:St) (l:YG):Prop:=l.as.Nodup∧∀ p∈l,∃ i:Nat,X.N[i]?=some p.1∧σ[i]?=some (some p.2.2)∧X.env.kindOf p.1=some .cell∧X.env.cells.lookup p.1=some p.2.1
theorem Uv {X:Cx} {pins:List (Addr×Obj)} {σ:St} {H:Hp} {s:Shared} (I:Inv X pins σ H s):∀ {l:YG},VY X σ l→HOk X.prog X.w (lay H l) s.heap
 | [],_=>I.hok
 | p::l,h=>by
  have nd':=List.nodup_cons.mp h.1
  have ih:=Uv I (l:=l) ⟨nd'.2,fun q hq=>h.2 q (.tail _ hq)⟩
  obtain ⟨i,h1,h2,h3,h4⟩:=h.2 p (.head _)
  obtain ⟨m,hn,hl⟩:=I.loc
  obtain ⟨u,r,lk⟩:=hl i p.1 p.2.2 h1 h2 (.inr (.inl h3))
  rcases lk with ⟨k,_⟩ | ⟨_,c,hc,hcell⟩
  ·rw [h3] at k;cases k
  ·rw [h4] at hc
   cases hc
   refine ih.track ?_ (Ql r hcell)
   rw [Va nd'.1]
   exact I.freeC p.1 p.2.1 h4
def PR (X:Cx) (b:List Stmt) (t:(St→V→Hp→Prop)→St→Hp→Prop):Prop:=∀ (pins:List (Addr×Obj)) (s:Shared) (σ:St) (H:Hp) (R:St→V→Hp→Prop),Inv X pins σ H s→t R σ H →
 wpAny (model X.prog X.w) X.A (execs b X.env) (fun fl s'=>∃ u,fl = .ret u∧∃ v σ' H',Inv X pins σ' H' s'∧Yr v u∧R σ' v H') X.xe s
section
variable {X:Cx} {st:Stmt} {YV:List Stmt} {t:TS} {u:(St→V→Hp→Prop)→St→Hp→Prop} {e:Expr} {te:TE} {pos:Pos}
def rRet (te:TE):(St→V→Hp→Prop)→St→Hp→Prop:=fun R σ H=>te σ H fun v H'=>R σ v H'
theorem Yec (he:PE X e te):PR X [.Return (some e) pos] (rRet te):=by
 intro pins s σ H R I h
 refine wpAny_execs_cons (wpAny_Return_some (thn (he pins s σ H _ I h) fun v s1 ⟨x,H1,I1,r1,q1⟩=>⟨v,rfl,x,σ,H1,I1,r1,q1⟩))
def rSeq (t:TS) (u:(St→V→Hp→Prop)→St→Hp→Prop):(St→V→Hp→Prop)→St→Hp→Prop:=fun R σ H=>t { nx:=u R,rt:=fun _ _=>False } σ H
theorem XX (h1:PS X st t) (h2:PR X YV u):PR X (st::YV) (rSeq t u):=by
 intro pins s σ H R I h
 refine wpAny_execs_cons (thn (h1 pins s σ H _ I h) fun f s1 q=>?_)
 cases f with
 | next =>
  obtain ⟨σ',H',I',q⟩:=q
  exact h2 pins s1 σ' H' R I' q
 | ret v=>obtain ⟨_,_,_,_,_,q⟩:=q;exact q.elim
 | brk=>obtain ⟨_,_,_,q⟩:=q;exact q.elim
 | cont=>obtain ⟨_,_,_,q⟩:=q;exact q.elim
end
theorem Fun.okC {P:Program} {w:World} {K:PySem.W.Frag} {mg:Str→Option Value} {base:Heap} {x qual:Str} {st:Stmt} {f:Addr} {fd:FuncData} {N ps:List Str} {k:Nat} {sp:Sp} (F:Fun K x qual st f fd) (S:FnScope N ps (Yi st)) (len:∀ vs H Q E,sp vs H Q E→vs.length=ps.length)
  (hbody:∀ (cdv:Value) (A:Around) (outer:List Env) (s:Shared) (H:Hp) (vs:List V) (Q:VK) (E:XK),fd.code=cdv→Room k (A.deeper (envOfC qual (Yi st) s.heap.objs.size f cdv))→sp vs H Q E →
   ∃ t,PR (Wm CX0 P w K mg base N qual (Yi st) f cdv A outer s H E).nox (YZ st) t ∧
    t (fun σ v H'=>∃ l,VY (Wm CX0 P w K mg base N qual (Yi st) f cdv A outer s H E).nox σ l∧((∀ c∈l.as,H' c=none)→Q v (lay H' l))) (Xi N vs) H):FnOk P w K mg base CX0 (k+1) f fd ps sp:=by
 obtain ⟨oc,od,kV,doc,pm,an,cdv,ct,osl,rfl,lk,hcd⟩:=F.ex
 refine ⟨len,fun A outer s H args us vs Q E hr e0 hb r hsp=>?_⟩
 have hl:=len _ _ _ _ hsp
 have KX:K.In s.heap:=e0.mod.kin.keeps fun b o e=>(e0.bs b o e).1
 have lim:s.heap.NoLimit:=e0.mod.nolimit.keeps fun b o e=>(e0.bs b o e).1
 have hkind:∀ y∈ps.zip us,(Yi st).names.lookup y.1=some .local∨((Yi st).names.lookup y.1=some .cell∧((cellsFrom (s.heap.objs.size+1) (Yi st).names []).lookup y.1).isSome=true):=fun ⟨n,v⟩ hy=>by
  rcases S.par n (List.of_mem_zip hy).1 with q | q
  ·exact .inl q
  ·exact .inr ⟨q,PySem.W.cellsFrom_some _ _ _ (.inl q)⟩
 refine codeAny_call_function hr.depth (KX _ _ lk) rfl S.co S.gen rfl (PySem.W.codeRec_of KX hcd) (hb _ _ _ _ ?_)
 refine wpAny_newFunctionEnv_cells S.kind hkind fun env he s1 xx=>?_
 subst he
 refine ⟨lim.keeps xx.toInCall.keep,codeAny_func ?_⟩
 obtain ⟨t,ht,hq⟩:=hbody cdv A outer s H vs Q E rfl (hr.deeper _) hsp
 have I:Inv (Wm CX0 P w K mg base N qual (Yi st) f cdv A outer s H E).nox [] (Xi N vs) H s1:=(Uk (CX:=CX0) (E:=E) S hr.hd e0 hl r xx).wish _
 refine wpAny_mono (ht [] s1 (Xi N vs) H _ I hq) (fun fl s' hs=>?_) fun e s' hs=>hs.elim
 obtain ⟨u,rfl,v,σ',H',J,rv,l,hc,q⟩:=hs
 have un:=J.base
 have hab:∀ b∈l.as,s.heap.objs.size≤b:=fun b hb=>by
  obtain ⟨p,hp,rfl⟩:=XW hb
  obtain ⟨i,h1,h2,h3,h4⟩:=hc.2 p hp
  exact J.ok.cab p.1 p.2.1 rfl h4
 have hno:∀ b∈l.as,H' b=none:=fun b hb=>by
  obtain ⟨p,hp,rfl⟩:=XW hb
  obtain ⟨i,h1,h2,h3,h4⟩:=hc.2 p hp
  exact J.freeC p.1 p.2.1 h4
 have keep:∀ {b:Addr} {o:HO},H' b=some o→lay H' l b=some o:=fun {b o} e=>by
  rw [Va fun hb=>?_]
  ·exact e
  ·rw [hno b hb] at e;cases e
 refine ⟨v,lay H' l,J.os,J.bare,⟨un.keep,un.slot,fun b o e n hx=>?_,un.there,fun b xs e=>keep (un.tups b xs e),fun b o u e=>keep (un.frzs b o u e),fun b qs e=>?_⟩,Uv J hc,rv,q hno⟩
 ·rw [Va fun hb=>?_]
  ·exact un.free b o e n hx
  ·have h1:=hab b hb
   have h2:=Heap.lt_size (show s.heap.get? b=some o from e)
   exact absurd (Nat.lt_of_lt_of_le h2 h1) (Nat.lt_irrefl _)
 ·obtain ⟨more,e'⟩:=un.tbls b qs e
  exact ⟨more,keep e'⟩
end L2
namespace L2
open PySem PySem.Spec PyProof.Rows
section
variable {X:Cx} {g:Gx} {k j i:Nat} {x:Str} {p pos:Pos} {e:Expr} {es:List Expr} {t:TA}
end
abbrev Tbs:=List (Str×Addr×Addr)
theorem YbJ {P:Program} {w:World} {K:PySem.W.Frag} {mg mb:Str→Option Value} {CX:CXT} {k:Nat} {fa a:Addr} {fd:FuncData} {x:Str} {sp:Sp} {s₁:Shared} {vs:List Value} {ns:List Int} (tabs:Tbs)
  (KX:K.In s₁.heap) (hns:s₁.heap.Ns mainGlobals mg) (hb:s₁.heap.Ns builtinsNs mb) (hbb:∀ x:Str,x≠"__name__"→mb x=bootBuiltins x) (hlim:s₁.heap.NoLimit) (hg:s₁.gens=#[])
  (ha:s₁.heap.get? a=some { cls := .type "list",data := .seq vs.toArray }) (hi:IntsAre vs ns) (hl:ns.length≤sizeLine) (hr:Room k callerA)
  (hT:∀ q∈tabs,PySem.W.CodeHd s₁.heap q.2.1 q.2.2∧s₁.heap.get? q.2.2=some (PySem.W.tabObj #[])) (hK:∀ q∈tabs,K.lookup q.2.2=none)
  (bmn:∃ bm ob,mg "__builtins__"=some (.ref bm)∧bm≠builtinsNs∧s₁.heap.get? bm=some ob∧ob.cls = .type "module"∧ob.dict=some builtinsNs∧ob.data = .plain)
  (F:∀ base:Heap,K.In base→base.Ns mainGlobals mg→Bm mg base→(∀ q∈tabs,PySem.W.CodeHd base q.2.1 q.2.2)→FnOk P w K mg base CX k fa fd [x] sp) (hbind:∀ (s:Shared) (u:Value),BindsTo s fd ⟨[u],[]⟩ [(x,u)])
  (hsp:∀ H:Hp,(∀ q∈tabs,H q.2.2=some (.tbl #[]))→SqL K H a (ns.map V.int)→sp [.ref a] H (fun v _=>v = .bl true) fun _ _ _=>False)
  (hCX:∀ H e s',CX [] H s₁ (fun _ _ _=>False) e s'→False) :
  codeAny (model P w) callerA (.call (.ref fa) ⟨[.ref a],[]⟩) (fun r s'=>r = .ok (.ret (.bool true))∧OldK s₁.heap s'.heap∧s'.os=s₁.os∧AllBare s'.gens) s₁:=by
 have rv:=Uo hi
 have lenV:=hi.length
 have tobj:∀ b∈tabs.map (·.2.2),s₁.heap.get? b=some (PySem.W.tabObj #[]):=fun b hb=>by
  obtain ⟨q,hq,rfl⟩:=List.mem_map.mp hb
  exact (hT q hq).2
 have aT:a∉tabs.map (·.2.2):=fun hb=>by
  have:=tobj a hb
  rw [ha] at this
  cases this
 have core:∀ H:Hp,(∀ b,H b=none∨(∃ o xs,H b=some (.frz o (.lst xs)))∨(b∈tabs.map (·.2.2)∧H b=some (.tbl #[])))→SqL K H a (ns.map V.int)→HOk P w H s₁.heap→(∀ b,H b≠none→b=a∨b∈tabs.map (·.2.2))→(H a≠none→K.lookup a=none)→(∀ q∈tabs,H q.2.2=some (.tbl #[])) →
   codeAny (model P w) callerA (.call (.ref fa) ⟨[.ref a],[]⟩) (fun r s'=>r = .ok (.ret (.bool true))∧OldK s₁.heap s'.heap∧s'.os=s₁.os∧AllBare s'.gens) s₁:=by
  intro H hO hS hok hA hKa hTb
  have base_of:∀ {b:Addr} {o:Obj},s₁.heap.get? b=some o→H b=none→(Wk s₁.heap H).get? b=some o:=fun e n=>Yb9 e n
  have noC:∀ {b:Addr} {o:Obj},s₁.heap.get? b=some o→o.cls ≠ .type "list"→o≠PySem.W.tabObj #[]→H b=none:=fun {b o} e d1 d2=>by
   cases q:H b with
   | none=>rfl
   | some u =>
    rcases hA b (by rw [q];simp) with e' | e'
    ·subst e'
     rw [ha] at e;cases e
     exact absurd rfl d1
    ·rw [tobj b e'] at e
     exact absurd (Option.some.inj e).symm d2
  have noA:∀ {b:Addr} {o:Obj} {es:Array DictEntry} {ep:Nat},s₁.heap.get? b=some o→o.data = .dict es ep→H b=none:=fun {b o es ep} e d=>by
   cases q:H b with
   | none=>rfl
   | some u =>
    rcases hA b (by rw [q];simp) with e' | e'
    ·subst e'
     rw [ha] at e;cases e
     have d':Data.seq vs.toArray _=Data.dict es ep:=d
     cases d'
    ·rw [tobj b e'] at e
     cases e
     have d':Data.fields #[]=Data.dict es ep:=d
     cases d'
  have nsK:∀ {b:Addr} {m:Str→Option Value},s₁.heap.Ns b m→(Wk s₁.heap H).Ns b m:=fun {b m} ⟨o,es,ep,e,d,r⟩=>⟨o,es,ep,base_of e (noA e d),d,r⟩
  have hKb:K.In (Wk s₁.heap H):=fun b o e=>base_of (KX b o e) (by
   cases q:H b with
   | none=>rfl
   | some u =>
    rcases hA b (by rw [q];simp) with e' | e'
    ·subst e'
     rw [hKa (by rw [q];simp)] at e;cases e
    ·obtain ⟨z,hz,rfl⟩:=List.mem_map.mp e'
     rw [hK z hz] at e;cases e)
  have hM:Mod K mg (Wk s₁.heap H):=⟨hKb,nsK hns,⟨mb,nsK hb,hbb⟩,let ⟨mc,h1,h2⟩:=hlim;⟨mc,nsK h1,h2⟩⟩
  have e0:Env0 P w K mg (Wk s₁.heap H) callerA [] s₁ H:=⟨rfl,hM,fun b o e=>Yda e,Nat.le_of_eq (Ya8 _ _),trivial,fun b hb=>absurd (show b∈([]:List Addr) from hb) (by simp),hok,.of_eq hg⟩
  have hBm:Bm mg (Wk s₁.heap H):=by
   obtain ⟨bm,ob,b1,b2,b3,b4,b5,b6⟩:=bmn
   refine ⟨bm,ob,b1,b2,fun z=>?_,base_of b3 (noC b3 (by rw [b4];decide) fun z=>by rw [z] at b4;cases b4),b4,b5,b6⟩
   obtain ⟨o,es,ep,e,d,_⟩:=hns
   rw [z,e] at b3;cases b3
   rw [d] at b6;cases b6
  have hCd:∀ q∈tabs,PySem.W.CodeHd (Wk s₁.heap H) q.2.1 q.2.2:=fun q hq=>by
   obtain ⟨o,vs',file,tf,flags,tg,inF,text,tt,e1,e2,r⟩:=(hT q hq).1
   exact ⟨o,vs',file,tf,flags,tg,inF,text,tt,base_of e1 (noC e1 (by rw [e2];decide) fun z=>by rw [z] at e2;cases e2),e2,r⟩
  refine codeAny_mono ((F _ hKb (nsK hns) hBm hCd).run callerA [] s₁ H ⟨[.ref a],[]⟩ [.ref a] [.ref a] _ _ hr e0 (hbind s₁ (.ref a)) (.cons rfl .nil) (hsp H hTb hS)) fun r s' h=>?_
  cases r with
  | error e=>exact (hCX H e s' h).elim
  | ok fl =>
   cases fl with
   | next=>exact False.elim h
   | brk=>exact False.elim h
   | cont=>exact False.elim h
   | ret u =>
    obtain ⟨v,H',os,bare,un,hok',r',q⟩:=h
    have q':v = .bl true:=q
    subst q'
    obtain rfl:u=Value.bool true:=r'
    have each:∀ b o,s₁.heap.get? b=some o→s'.heap.get? b=some o∨((∃ z∈tabs,z.2.2=b)∧o=PySem.W.tabObj #[]∧∃ ps,s'.heap.get? b=some (PySem.W.tabObj ps)):=fun b o e=>by
     rcases hO b with q | ⟨ob,xs,z⟩ | ⟨z1,z2⟩
     ·exact .inl (un.keep b o e q (by intro z;exact absurd (show b∈([]:List Addr) from z) (by simp)) (by simp))
     ·have z2:=un.frzs b ob _ z
      obtain ⟨e1,_⟩:=hok b _ z
      obtain ⟨e2,_⟩:=hok' b _ z2
      rw [e] at e1;cases e1
      exact .inl e2
     ·obtain ⟨q,hq,e3⟩:=List.mem_map.mp z1
      obtain ⟨more,e4⟩:=un.tbls b _ z2
      have e5:s'.heap.get? b=some (PySem.W.tabObj (#[]++more)):=hok' b _ e4
      rw [tobj b z1] at e
      exact .inr ⟨⟨q,hq,e3⟩,(Option.some.inj e).symm,_,e5⟩
    refine ⟨rfl,⟨fun b o e=>?_,fun b o e=>?_⟩,os,bare⟩
    ·rcases each b o e with h | ⟨⟨z,hz,rfl⟩,rfl,ps,h⟩
     ·exact .inl h
     ·exact .inr (.inl ⟨((hT z hz).1.tab (hT z hz).2).isCodeTable,rfl,#[],ps,rfl,by rw [Array.empty_append];exact h⟩)
    ·rcases each b o e with h | ⟨_,_,ps,h⟩
     ·exact ⟨o,h⟩
     ·exact ⟨_,h⟩
 have tbIn:∀ q∈tabs,q.2.2∈tabs.map (·.2.2):=fun q hq=>List.mem_map_of_mem hq
 have tbOk:∀ {H:Hp} {b:Addr},b∈tabs.map (·.2.2)→YJ P w H s₁.heap b (.tbl #[]):=fun hb=>tobj _ hb
 cases hk:K.lookup a with
 | some o =>
  have e:=KX a o hk
  rw [ha] at e
  cases e
  refine core (fun b=>if b∈tabs.map (·.2.2) then some (.tbl #[]) else none) (fun b=>?_) (.inr ⟨_,vs.toArray,_,hk,rfl,rfl,rfl,by rw [List.size_toArray,lenV];exact hl,by simpa using rv⟩) (fun b u z=>?_) (fun b z=>?_) (fun z=>absurd (if_neg aT) z) fun q hq=>if_pos (tbIn q hq)
  ·by_cases hb:b∈tabs.map (·.2.2)
   ·exact .inr (.inr ⟨hb,if_pos hb⟩)
   ·exact .inl (if_neg hb)
  ·by_cases hb:b∈tabs.map (·.2.2)
   ·have z':=(if_pos hb).symm.trans z
    cases z'
    exact tbOk hb
   ·have z':=(if_neg hb).symm.trans z
    cases z'
  ·by_cases hb:b∈tabs.map (·.2.2)
   ·exact .inr hb
   ·exact absurd (if_neg hb) z
 | none =>
  refine core (fun b=>if b∈tabs.map (·.2.2) then some (.tbl #[]) else if b=a then some (.frz { cls := .type "list",data := .seq vs.toArray } (.lst (ns.map V.int))) else none) (fun b=>?_) (.inl (.inr ⟨{ cls := .type "list",data := .seq vs.toArray },(if_neg aT).trans (if_pos rfl)⟩)) (fun b u z=>?_) (fun b z=>?_) (fun _=>hk) fun q hq=>if_pos (tbIn q hq)
  ·by_cases hb:b∈tabs.map (·.2.2)
   ·exact .inr (.inr ⟨hb,if_pos hb⟩)
   ·by_cases hb2:b=a
    ·exact .inr (.inl ⟨_,_,(if_neg hb).trans (if_pos hb2)⟩)
    ·exact .inl ((if_neg hb).trans (if_neg hb2))
  ·by_cases hb:b∈tabs.map (·.2.2)
   ·have z':=(if_pos hb).symm.trans z
    cases z'
    exact tbOk hb
   ·have z1:=(if_neg hb).symm.trans z
    by_cases hb2:b=a
    ·have z':=(if_pos hb2).symm.trans z1
     cases z'
     subst hb2
     exact ⟨ha,by rw [List.length_map];exact hl,vs,_,rv,ha⟩
    ·have z':=(if_neg hb2).symm.trans z1
     cases z'
  ·by_cases hb:b∈tabs.map (·.2.2)
   ·exact .inr hb
   ·by_cases hb2:b=a
    ·exact .inl hb2
    ·exact absurd ((if_neg hb).trans (if_neg hb2)) z
def Vb (K:PySem.W.Frag) (tabs:Tbs):Sp:=fun vs H Q _=>∃ (a:Addr) (ns:List Int),vs=[.ref a]∧SqL K H a (ns.map V.int)∧ns.length≤63∧(∀ q∈tabs,H q.2.2=some (.tbl #[]))∧∀ H',Q (.bl true) H'
theorem Ycr {l:PySem.W.OpenLaw} {q:Program} {loose:List Str} {XP:(Str→Option Value)→Heap→Prop} {YP:World→Heap→Prop} {d:DefRec} {K:Params→PySem.W.Frag} (tabs:Tbs) (k:Nat) (x:Str) (st:Stmt) (N:List Str) (hn:l.most=some 63) (hdf:d.params.defaults=[]) (hk:Room (k+1) callerA) (S:FnScope N [x] (Yi st))
  (hY:∀ (w:World) (h:Heap),YP w h→(K w.params).In h)
  (hrec:∀ p∈tabs,∃ d',(recsOf q).find? (fun e=>e.name==p.1)=some d')
  (htab:∀ (w:World),∀ p∈tabs,PySem.W.tabIn (K w.params) p.1=some p.2)
  (hno:∀ (w:World),∀ p∈tabs,(K w.params).lookup p.2.2=none)
  (F:∀ (w:World) (mg:Str→Option Value) (h:Heap),(K w.params).In h→h.Ns mainGlobals mg→Ybx (K w.params) mg st x d.name∧∀ base,Bm mg base→(∀ p∈tabs,PySem.W.CodeHd base p.2.1 p.2.2)→YaN (Gx.mk l.prog w (K w.params) mg base) k N d.name st (Vb (K w.params) tabs)) :
  PySem.W.WalkO q loose XP YP l.row.toRowW d [] (fun f vs=>PySem.call f vs):=by
 refine Att.attach_call hn hdf fun w s₀ s₁ mg mb fa o pm cd doc a vs ns G Y ho hd hcd hmg hobj hints hlen hg=>?_
 have KX:=hY w _ Y
 obtain ⟨⟨f,fd,Fu,hb,hm⟩,B⟩:=F w mg _ KX G.T.g
 have e:=hmg.symm.trans hm
 cases e
 refine YbJ (CX:=CX0) (sp:=Vb (K w.params) tabs) tabs KX G.T.g G.T.b G.T.builtins G.T.nolimit hg hobj hints (Nat.le_trans hlen (by decide)) hk (fun p hp=>?_) (hno w) G.T.bmain
  (fun base _ _ hB hC=>Fu.ok S (fun vs H Q E h=>by obtain ⟨a,ns,rfl,_⟩:=h;rfl) fun cdv A outer s H vs Q E hr h=>B base hB hC fa cdv A outer s H vs Q E hr h) hb (fun H hT hS=>⟨a,ns,rfl,hS,hlen,hT,fun _=>rfl⟩) fun H e s' z=>z
 obtain ⟨d',hd'⟩:=hrec p hp
 exact PySem.W.tab_of G.T KX hd' (htab w p hp)
def inDef (s:Stmt) (j:Nat):Stmt:=(YZ s).getD j (.Pass ⟨0,0,0,0⟩)
def Gx.RawT (g:Gx) (x qual:Str) (st:Stmt) (ps:List Str) (c:Addr):Prop:=∃ f fd,Fun g.K x qual st f fd∧XG g.K fd ps []∧g.mg x=some (.ref f)∧fd.code = .ref c
theorem Gx.RawT.fnC {g:Gx} {k:Nat} {x qual:Str} {st:Stmt} {N ps:List Str} {c:Addr} {sp:Sp} (R:g.RawT x qual st ps c) (S:FnScope N ps (Yi st)) (len:∀ vs H Q E,sp vs H Q E→vs.length=ps.length)
  (b:∀ (f:Addr) (A:Around) (outer:List Env) (s:Shared) (H:Hp) (vs:List V) (Q:VK) (E:XK),Room k (g.cx N qual st f (.ref c) A outer s H E).A→sp vs H Q E →
   ∃ t,PR (g.cx N qual st f (.ref c) A outer s H E) (YZ st) t∧t (fun σ v H'=>∃ l,VY (g.cx N qual st f (.ref c) A outer s H E) σ l∧((∀ c∈l.as,H' c=none)→Q v (lay H' l))) (Xi N vs) H):g.Fn (k+1) x ps sp:=by
 obtain ⟨f,fd,F,bd,hm,hc⟩:=R
 refine ⟨f,fd,F.okC S len fun cdv A outer s H vs Q E e hr h=>?_,bd,F.kp,hm⟩
 have e':cdv = .ref c:=e.symm.trans hc
 subst e'
 exact b f A outer s H vs Q E hr h
theorem Ydz {K:PySem.W.Frag} {h:Heap} {mg:Str→Option Value} {f:Addr} {x:Str} {st:Stmt} {c:Addr} {oc kV dc pm cd ct:Value} {od an:Option Addr} {sl:Array (Option Value)} (X:K.In h) (G:h.Ns mainGlobals mg) (ps:List Str)
  (a:PySem.W.nsIn K mainGlobals x=some (some (.ref f))) (l:K.lookup f=some ⟨oc,od,.func (PySem.W.fnOf x x (Xf st) (YZ st) (Yi st) .none kV dc pm an cd ct),sl⟩) (cc:PySem.W.codeIn K cd x=true) (k:PySem.W.keepIn K (.ref f)=true) (e:cd = .ref c)
  (b:∀ (kV doc pm:Value) (an:Option Addr) (cdv ct:Value) (us:List Value),us.length=ps.length→bindArgs (PySem.W.fnOf x x (Xf st) (YZ st) (Yi st) .none kV doc pm an cdv ct) ⟨us,[]⟩=pure (ps.zip us)) :
  ∀ P w base,(Gx.mk P w K mg base).RawT x x st ps c:=fun P w base =>
 have F:=U8 (st:=st) l cc k
 ⟨f,_,F,F.binds b,PySem.W.mg_of X G a,e⟩
end L2
namespace HT
open PySem PySem.Spec PyProof.Rows
variable {prog:Program} {w:World} {A:Around} {E:Value→Shared→Prop} {s:Shared}
end HT
namespace L2
open PySem PySem.Spec PyProof.Rows
end L2
namespace L2
open PySem PySem.Spec PyProof.Rows
section
variable {tb:TS} {D:Ends} {σ:St} {H:Hp}
end
section
variable {src:List (Option Nat)} {te:TE} {tt:TT} {σ:St} {H:Hp} {Q:VK}
end
end L2
namespace L2
open PySem PySem.Spec PyProof.Rows
def YdA (e:Expr):Arguments:=match e with
 | .Lambda a _ _ _=>a
 | _=>{ posonlyargs:=[],args:=[],vararg:=none,kwonlyargs:=[],kw_defaults:=[],kwarg:=none,defaults:=[] }
def YdB (e:Expr):Expr:=match e with
 | .Lambda _ b _ _=>b
 | e=>e
def Qp (e:Expr):Scope:=match e with
 | .Lambda _ _ sc _=>sc
 | _=>{ kind := .function,names:=[],isGenerator:=false,isCoroutine:=false }
theorem Yed {P:Program} {w:World} {K:PySem.W.Frag} {mg:Str→Option Value} {base:Heap} {k:Nat} {f c:Addr} {qual:Str} {params:Arguments} {body:Expr} {scope:Scope} {pm ctv:Value} {N ps:List Str} {l:YG} {sp:List V→Hp→VK→Prop}
  (S:ClScope N ps (l.map (·.1)) scope) (hnd:l.as.Nodup) (len:∀ vs H Q,sp vs H Q→vs.length=ps.length)
  (hbody:∀ (A:Around) (outer:List Env) (s:Shared) (H:Hp) (vs:List V) (Q:VK),Room k (A.deeper (PySem.W.envX qual scope s.heap.objs.size f (.ref c) l.cl))→sp vs H Q →
   ∃ t,PE (Qn P w K mg base N qual scope f (.ref c) l.cl A outer s H) body t∧t (W3 N vs l.vs) H Q) :
  FnOk P w K mg base CX0 (k+1) f (PySem.W.kla_fn "<lambda>" qual params body scope l.cl pm (.ref c) ctv) ps
   (fun vs H Q _=>Qo H f c (PySem.W.kla_fn "<lambda>" qual params body scope l.cl pm (.ref c) ctv) qual l∧sp vs (off H l.as) fun v H'=>(∀ c∈l.as,H' c=none)→Q v (on H' H l.as)):=by
 refine ⟨fun vs H Q E h=>len _ _ _ h.2,fun A outer s H args us vs Q E hr e0 hb r hsp=>?_⟩
 obtain ⟨⟨hf,hc,hin⟩,hsp⟩:=hsp
 have hl:=len _ _ _ hsp
 have lim:s.heap.NoLimit:=e0.mod.nolimit.keeps fun b o e=>(e0.bs b o e).1
 have hfo:=(e0.hok _ _ hf).1
 have hco:s.heap.CodeRec (.ref c) qual:=(e0.hok _ _ hc).1
 refine PySem.W.kla_callFunE hr.depth hfo rfl S.co S.gen rfl hco (hb _ _ _ _ ?_)
 refine wpAny_newFunctionEnv S.nocell (fun y hy=>S.par y.1 (List.of_mem_zip hy).1) (fun h₁ hns hsb=>?_) S.kind
 have hk₁:∀ b o,s.heap.get? b=some o→h₁.get? b=some o:=fun b o e=>hsb.extBut b o (Nat.ne_of_lt (Heap.lt_size e)) (Heap.get?_push_of_some _ e)
 refine ⟨lim.keeps hk₁,PySem.W.kla_codeExpr ?_⟩
 obtain ⟨t,ht,hq⟩:=hbody A outer s (off H l.as) vs _ (hr.deeper _) hsp
 have I:=YaW (cd := .ref c) (qual:=qual) (f:=f) (tk:=s.toks+(ps.zip us).length) S hnd hr.hd e0 hl r hin hns hk₁
 have lk:=Qm (l:=l) (by rw [← S.suf];exact S.nd.sublist (List.drop_sublist _ _))
 refine wpAny_mono (ht [] _ _ _ _ I hq) (fun u s' hs=>?_) fun e s' hs=>hs.elim
 obtain ⟨v,H',J,rv,q⟩:=hs
 exact ce_of e0 hin J lk rv q
end L2
namespace L2
open PySem PySem.Spec PyProof.Rows
section
variable {g:Gx} {x qual:Str} {st:Stmt} {N ps:List Str} {dvs:List V} {sp:Sp} {j k:Nat}
variable {X:Cx} {p pos:Pos} {e:Expr} {es:List Expr} {t:TA}
end
section
variable {X:Cx}
end
section
variable {src:List (Option Nat)} {te:TE} {σ:St} {H:Hp} {Q:VK}
end
end L2
namespace L2
open PySem PySem.Spec PyProof.Rows
mutual
inductive RK (h:Heap):Value→PyData→Prop
 | int (i:Int) (t:Tok):RK h (.int i t) (.int i)
 | str (x:Str) (t:Tok) (hx:PyData.strOk x=true):RK h (.str x t) (.str x)
 | tup {a:Addr} {o:Obj} {vs:Array Value} {n:Nat} {ds:List PyData}:h.get? a=some o→o.cls = .type "tuple"→o.data = .seq vs n→RKs h vs.toList ds→RK h (.ref a) (.tuple ds)
inductive RKs (h:Heap):List Value→List PyData→Prop
 | nil:RKs h [] []
 | cons {v:Value} {d:PyData} {vs:List Value} {ds:List PyData}:RK h v d→RKs h vs ds→RKs h (v::vs) (d::ds)
end
mutual
inductive KO:PyData→Prop
 | int (i:Int):KO (.int i)
 | str (x:Str):KO (.str x)
 | tup {ds:List PyData}:KOs ds→KO (.tuple ds)
inductive KOs:List PyData→Prop
 | nil:KOs []
 | cons {d:PyData} {ds:List PyData}:KO d→KOs ds→KOs (d::ds)
end
mutual
theorem RK.ko {h:Heap}:∀ {v:Value} {d:PyData},RK h v d→KO d
 | _,_,.int i t => .int i
 | _,_,.str x t _ => .str x
 | _,_,.tup _ _ _ hs => .tup hs.ko
theorem RKs.ko {h:Heap}:∀ {vs:List Value} {ds:List PyData},RKs h vs ds→KOs ds
 | _,_,.nil => .nil
 | _,_,.cons a b => .cons a.ko b.ko
end
mutual
theorem RK.reads {h:Heap}:∀ {v:Value} {d:PyData},RK h v d→(∃ as,Reads h v d as)∧d.canLay0=true
 | _,_,.int i t=>⟨⟨_,.int i t⟩,rfl⟩
 | _,_,.str x t hx=>⟨⟨_,.str x t⟩,by simpa [PyData.canLay0] using hx⟩
 | _,_,.tup h1 h2 h3 hs=>by
  obtain ⟨⟨as,r⟩,l⟩:=hs.reads
  exact ⟨⟨_,.tuple h1 h2 h3 r⟩,by rw [PyData.canLay0];exact l⟩
theorem RKs.reads {h:Heap}:∀ {vs:List Value} {ds:List PyData},RKs h vs ds→(∃ as,ReadsAll h vs ds as)∧PyData.canLayAll0 ds=true
 | _,_,.nil=>⟨⟨_,.nil⟩,rfl⟩
 | _,_,.cons a b=>by
  obtain ⟨⟨as,r⟩,l⟩:=a.reads
  obtain ⟨⟨bs,r'⟩,l'⟩:=b.reads
  exact ⟨⟨_,.cons r r'⟩,by rw [PyData.canLayAll0,l,l'];rfl⟩
end
theorem RK.of {h:Heap} {d:PyData} {v:Value} {as:List Addr} (k:KO d) (r:Reads h v d as) (l:d.canLay0=true):RK h v d:=by
 induction k using KO.rec (motive_2:=fun ds _=>∀ {vs:List Value} {as:List Addr},ReadsAll h vs ds as→PyData.canLayAll0 ds=true→RKs h vs ds) generalizing v as with
 | int i=>cases r with | int _ t=>exact .int i t
 | str x=>cases r with | str _ t=>exact .str x t (by simpa [PyData.canLay0] using l)
 | tup _ ih=>cases r with | tuple h1 h2 h3 hs=>exact .tup h1 h2 h3 (ih hs (by rw [PyData.canLay0] at l;exact l))
 | nil=>rename_i r l;cases r;exact .nil
 | cons _ _ ih ihs =>
  rename_i r l
  rw [PyData.canLayAll0,Bool.and_eq_true] at l
  cases r with | cons r rs=>exact .cons (ih r l.1) (ihs rs l.2)
theorem RK.inj {h:Heap} {d:PyData} {v:Value} {e:PyData} (a:RK h v d) (b:RK h v e):d=e:=by
 obtain ⟨⟨_,r⟩,l⟩:=a.reads
 obtain ⟨⟨_,r'⟩,_⟩:=b.reads
 exact (r.unique _ _ r').1
mutual
theorem RK.keeps {h h':Heap} {x:Addr} {o:Obj} {es:Array DictEntry} {ep:Nat} (ho:h.get? x=some o) (hd:o.data = .dict es ep) (hs:Heap.SameBut x h h'):∀ {v:Value} {d:PyData},RK h v d→RK h' v d
 | _,_,.int i t => .int i t
 | _,_,.str y t hy => .str y t hy
 | _,_,.tup (a:=a) h1 h2 h3 ks=>by
  have hne:a≠x:=by
   rintro rfl
   rw [ho] at h1
   cases h1
   rw [hd] at h3
   exact nomatch h3
  exact .tup ((hs.2 a hne).trans h1) h2 h3 (RKs.keeps ho hd hs ks)
theorem RKs.keeps {h h':Heap} {x:Addr} {o:Obj} {es:Array DictEntry} {ep:Nat} (ho:h.get? x=some o) (hd:o.data = .dict es ep) (hs:Heap.SameBut x h h'):∀ {vs:List Value} {ds:List PyData},RKs h vs ds→RKs h' vs ds
 | _,_,.nil => .nil
 | _,_,.cons a b => .cons (RK.keeps ho hd hs a) (RKs.keeps ho hd hs b)
end
noncomputable instance decPy:DecidableEq PyData:=fun a b=>Classical.propDecidable (a=b)
mutual
theorem KO.eqv:∀ {d e:PyData},KO d→KO e→d.eqv e=decide (d=e)
 | .int a,.int b,_,_=>by
  by_cases h:a=b
  ·subst h;simp [PyData.eqv]
  ·simp [PyData.eqv,h]
 | .str a,.str b,_,_=>by
  by_cases h:a=b
  ·subst h;simp [PyData.eqv]
  ·simp [PyData.eqv,h]
 | .int a,.str b,_,_=>by simp [PyData.eqv]
 | .str a,.int b,_,_=>by simp [PyData.eqv]
 | .int a,.tuple b,_,_=>by simp [PyData.eqv]
 | .str a,.tuple b,_,_=>by simp [PyData.eqv]
 | .tuple a,.int b,_,_=>by simp [PyData.eqv]
 | .tuple a,.str b,_,_=>by simp [PyData.eqv]
 | .tuple a,.tuple b,.tup x,.tup y=>by
  rw [PyData.eqv,KOs.eqv x y]
  by_cases h:a=b
  ·subst h;simp
  ·simp [h]
theorem KOs.eqv:∀ {ds es:List PyData},KOs ds→KOs es→PyData.eqvAll ds es=decide (ds=es)
 | [],[],_,_=>by simp [PyData.eqvAll]
 | [],_::_,_,_=>by simp [PyData.eqvAll]
 | _::_,[],_,_=>by simp [PyData.eqvAll]
 | d::ds,e::es,.cons x xs,.cons y ys=>by
  rw [PyData.eqvAll,KO.eqv x y,KOs.eqv xs ys]
  by_cases h:d=e
  ·subst h
   by_cases h2:ds=es
   ·subst h2;simp
   ·simp [h2]
  ·simp [h]
end
section
variable {P:Program} {w:World}
mutual
def kh (P:Program) (w:World):PyData→Int
 | .int i=>(Xm P w).hash (.inl i)
 | .str x=>(Xm P w).hash (.inr x)
 | .tuple ds=>reduceHash (Builtin.Tuple.tupleHashOf (khs P w ds))
 | _=>0
def khs (P:Program) (w:World):List PyData→List Int
 | []=>[]
 | d::ds=>kh P w d::khs P w ds
end
mutual
def kdr:PyData→Nat
 | .int _=>1
 | .str _=>1
 | .tuple ds=>XY ds+1
 | _=>0
def XY:List PyData→Nat
 | []=>0
 | d::ds=>kdr d+XY ds
end
theorem YdC (a b:List PyData):khs P w (a++b)=khs P w a++khs P w b:=by
 induction a with
 | nil=>simp [khs]
 | cons x a ih=>simp [khs,ih]
theorem Ycs (a b:List PyData):XY (a++b)=XY a+XY b:=by
 induction a with
 | nil=>simp [XY]
 | cons x a ih=>simp [XY,ih,Nat.add_assoc]
theorem Yct (a b:List PyData):PyData.depthAll (a++b)=max (PyData.depthAll a) (PyData.depthAll b):=by
 induction a with
 | nil=>simp [PyData.depthAll]
 | cons x a ih=>simp [PyData.depthAll,ih,Nat.max_assoc]
theorem VH {s:Shared} {a:Addr} {o:Obj} (h1:s.heap.get? a=some o) (h2:o.cls = .type "tuple"):s.TypeIs (.ref a) "tuple":=⟨o,h1,h2⟩
theorem Yar:∀ (n:Nat) {A:Around} {E:Value→Shared→Prop} {s:Shared} {v:Value} {d:PyData} {Q:Int→Shared→Prop},RK s.heap v d→d.depth≤n→A.units+n<cLine→Q (kh P w d) { s with toks:=s.toks+kdr d }→wpAny (model P w) A (pyHash v) Q E s
 | n,A,E,s,_,_,Q,.int i t,_,_,h=>(Xm P w).pyHash (YcY (k := .inl i) (show Yr (.int i) (.int i t) from ⟨t,rfl⟩)) (by simpa [kh,kdr] using h)
 | n,A,E,s,_,_,Q,.str x t _,_,_,h=>(Xm P w).pyHash (YcY (k := .inr x) (show Yr (.str x) (.str x t) from ⟨t,rfl⟩)) (by simpa [kh,kdr] using h)
 | 0,A,E,s,_,_,Q,.tup _ _ _ _,hd,_,h=>by simp [PyData.depth] at hd
 | n+1,A,E,s,_,_,Q,.tup (a:=a) (ds:=ds) h1 h2 h3 ks,hd,hu,h=>by
  have hT:=VH h1 h2
  unfold pyHash
  first | unfold pyHashByItsType | skip
  first | refine wpAny_bind (wpAny_cRoomFor_or (.inr (by omega)) ?_) | skip
  refine wpAny_bind (wpAny_specialOf hT F.slot_tuple_hash.lookup ?_)
  show wpAny _ _ (if (some (Value.builtin "tuple.__hash__")==some Value.none)=true then _ else _) Q E s
  rw [if_neg (by rw [beq_builtin_none];exact Bool.false_ne_true)]
  refine wpAny_bind (wpAny_specialOf hT F.slot_tuple_hash.lookup ?_)
  refine wpAny_bind (wpAny_callSpecialIfBoundUnlessNone?_slot hT F.slot_tuple_hash (wpAny_call_entry F.slot_tuple_hash hT F.entry_tuple_hash ?_ (F.args_tuple_hash_1 _)))
  show wpAny _ _ (Builtin.Tuple.tupleItemsOf (.ref a) >>= _) _ _ s
  refine wpAny_bind (wpAny_tupleItemsOf h1 h3 ?_)
  refine wpAny_bind ?_
  rw [← Array.forIn_toList]
  have hdd:PyData.depthAll ds≤n:=by simp only [PyData.depth] at hd;omega
  refine wpAny_forIn_list _ (fun YV (b:Array Int) s'=>∃ done left,ds=done++left∧RKs s.heap YV left∧b.toList=khs P w done∧s'={ s with toks:=s.toks+XY done }) _ ?_ ?_ _ _ ⟨[],ds,rfl,ks,by simp [khs],by simp [XY]⟩
  ·rintro x YV b s' ⟨done,left,e,hl,hb,rfl⟩
   cases hl with
   | @cons _ d _ ds' hk hl' =>
    have hdk:d.depth≤n:=by
     rw [e,Yct] at hdd
     simp only [PyData.depthAll] at hdd
     omega
    have hin:A.in1.units+n<cLine:=by
     have:A.in1.units=A.units+1:=rfl
     omega
    refine wpAny_bind (Yar n (s:={ s with toks:=s.toks+XY done }) hk hdk hin ?_)
    have fin:∃ done' left',ds=done'++left'∧RKs s.heap YV left'∧(b.push (kh P w d)).toList=khs P w done'∧({ s with toks:=s.toks+XY done+kdr d }:Shared)={ s with toks:=s.toks+XY done' } :=
     ⟨done++[d],ds',by rw [e];simp,hl',by rw [YdC,Array.toList_push,hb];simp [khs],by rw [Ycs];simp [XY,Nat.add_assoc]⟩
    first
     | exact wpAny_pure fin
     | exact wpAny_bind (wpAny_pure (wpAny_pure fin))
  ·rintro b s' ⟨done,left,e,hl,hb,rfl⟩
   cases hl
   rw [List.append_nil] at e
   subst e
   show wpAny _ _ (retInt (Builtin.Tuple.tupleHashOf b.toList)) _ _ _
   rw [hb]
   refine wpAny_ret_mkInt ?_
   simp only [kh,kdr] at h
   unfold reduceHash at h
   show wpAny _ _ (if (decide (-(2:Int)^63≤Builtin.Tuple.tupleHashOf (khs P w ds))&&decide (Builtin.Tuple.tupleHashOf (khs P w ds)<2^63))=true then _ else _) Q E _
   by_cases hr:(decide (-(2:Int)^63≤Builtin.Tuple.tupleHashOf (khs P w ds))&&decide (Builtin.Tuple.tupleHashOf (khs P w ds)<2^63))=true
   ·rw [if_pos hr]
    rw [if_pos hr] at h
    exact wpAny_pure (by simpa [Nat.add_assoc] using h)
   ·rw [if_neg hr]
    rw [if_neg hr] at h
    exact wpAny_bind (wpAny_rule (wpAny_pure (by simpa [Nat.add_assoc] using h)))
theorem Qq:∀ (n:Nat) {A:Around} {E:Value→Shared→Prop} {s:Shared} {v:Value} {d:PyData} {Q:Bool→Shared→Prop},RK s.heap v d→d.depth≤n→Q true s→wpAny (model P w) A (eqIsQuiet n v) Q E s
 | n,A,E,s,_,_,Q,.int i t,_,h=>by rw [eqIsQuiet_byValue _ (by rfl)];exact wpAny_pure h
 | n,A,E,s,_,_,Q,.str x t _,_,h=>by rw [eqIsQuiet_byValue _ (by rfl)];exact wpAny_pure h
 | 0,A,E,s,_,_,Q,.tup _ _ _ _,hd,h=>by simp [PyData.depth] at hd
 | n+1,A,E,s,_,_,Q,.tup (a:=a) (ds:=ds) h1 h2 h3 ks,hd,h=>by
  have hT:=VH h1 h2
  have hdd:PyData.depthAll ds≤n:=by simp only [PyData.depth] at hd;omega
  unfold eqIsQuiet
  refine wpAny_bind (wpAny_specialOf hT F.slot_tuple_eq.lookup ?_)
  refine wpAny_bind (wpAny_isInstance hT isSubtype_tuple_tuple ?_)
  simp only [Bool.not_true,Bool.false_eq_true,if_false]
  refine wpAny_bind (wpAny_seqItems h1 h3 ?_)
  refine wpAny_bind ?_
  rw [Option.getD_some,← Array.forIn_toList]
  refine wpAny_forIn_list _ (fun YV r s'=>r.1=none∧s'=s∧∃ left,RKs s.heap YV left∧PyData.depthAll left≤n) _ ?_ ?_ _ _ ⟨rfl,rfl,ds,ks,hdd⟩
  ·rintro v YV r s' ⟨hr,rfl,left,hl,hdl⟩
   cases hl with
   | @cons _ d _ ds' hk hl' =>
    simp only [PyData.depthAll] at hdl
    refine wpAny_bind (Qq n hk (by omega) ?_)
    simp only [Bool.not_true,Bool.false_eq_true,if_false]
    exact wpAny_pure ⟨rfl,rfl,ds',hl',by omega⟩
  ·rintro ⟨r1,r2⟩ s' ⟨hr,rfl,_⟩
   simp only at hr
   subst hr
   exact wpAny_pure h
noncomputable def deepKind (P:Program) (w:World):HeapKind P w PyData where
 is:=fun h d a=>RK h (.ref a) d∧d.depth≤8
 hash:=kh P w
 draws:=kdr
 room:=fun A=>A.units+8<cLine
 inj:=fun hx hy=>hx.1.inj hy.1
 keeps:=fun x ho hd hs=>⟨x.1.keeps ho hd hs,x.2⟩
 pyHash:=fun hu hk h=>Yar 8 hk.1 hk.2 hu h
 eqBool:=fun {A E s x y a b Q} hu hx hy h=>by
  obtain ⟨⟨as,r1⟩,l1⟩:=hx.1.reads
  obtain ⟨⟨bs,r2⟩,l2⟩:=hy.1.reads
  have hm:min x.depth y.depth≤8:=Nat.le_trans (Nat.min_le_left _ _) hx.2
  exact SeqAt.eqAt_reads x y A s _ _ _ _ r1 r2 l1 l2 (by omega) P w E Q (by rw [KO.eqv hx.1.ko hy.1.ko];exact h)
 quiet:=fun hk h=>Qq 8 hk.1 hk.2 h
end
abbrev Dx:=List (PyData×Addr×Addr)
def dconv (x:PyData×Addr×Addr):PyData×Addr×Value:=(x.1,x.2.1,.ref x.2.2)
noncomputable def DDi (P:Program) (w:World) (a:Addr) (xs:Dx):HO := .ext fun h=>(a==sysModules)=false∧∃ o es ep,h.get? a=some o∧o.ExactDict∧o.data = .dict es ep∧es.toList=(xs.map dconv).map (entryOfKey (deepKind P w))
structure DK (K:PySem.W.Frag) (H:Hp) (b:Addr) (d:PyData):Prop where
 den:Den K H (.ref b) d
 ko:KO d
 dp:d.depth≤8
theorem DK.keep {K:PySem.W.Frag} {H H':Hp} {b:Addr} {d:PyData} (h:DK K H b d) (s:Yb H H'):DK K H' b d:=⟨h.den.keep s,h.ko,h.dp⟩
noncomputable def lookD (xs:Dx) (d:PyData):Option Addr:=(xs.find? fun x=>decide (x.1=d)).map (·.2.2)
structure DictD (P:Program) (w:World) (K:PySem.W.Frag) (H:Hp) (a:Addr) (xs:Dx):Prop where
 at_:H a=some (DDi P w a xs)
 nd:(xs.map (·.1)).Nodup
 len:xs.length≤1000
 keys:∀ x∈xs,DK K H x.2.1 x.1
section
variable {X:Cx} {pins:List (Addr×Obj)} {σ:St} {H:Hp} {s:Shared} {a b:Addr} {d:PyData} {xs:Dx} {u r:Value} {A:Around} {E:Value→Shared→Prop}
end
section
variable {X:Cx} {o i e value:Expr} {pos pos' tpos:Pos} {td ty tv:TE} {k:Nat}
end
def WM (H H':Hp):Prop:=∀ b xs,Rd H b (.tup xs)→Rd H' b (.tup xs)
theorem WM.sq {K:PySem.W.Frag} {H H':Hp} (t:WM H H') {b:Addr} {xs:List V} (h:SqT K H b xs):SqT K H' b xs:=by
 rcases h with h | h
 ·exact .inl (t _ _ h)
 ·exact .inr h
theorem WM.trans {H H1 H2:Hp} (a:WM H H1) (b:WM H1 H2):WM H H2:=fun c xs e=>b c xs (a c xs e)
theorem Ycu {K:PySem.W.Frag} {H H':Hp} (t:WM H H') {d:PyData} {v:V} (k:KO d) (r:Den K H v d):Den K H' v d:=by
 induction k using KO.rec (motive_2:=fun ds _=>∀ {vs:List V},Dens K H vs ds→Dens K H' vs ds) generalizing v with
 | int i=>cases r with | int _=>exact .int i
 | str x=>cases r with | str _ h=>exact .str x h
 | tup _ ih=>cases r with | tup h hs=>exact .tup (t.sq h) (ih hs)
 | nil=>rename_i r;cases r;exact .nil
 | cons _ _ ih ihs=>rename_i r;cases r with | cons a b=>exact .cons (ih a) (ihs b)
theorem DK.tupk {K:PySem.W.Frag} {H H':Hp} {b:Addr} {d:PyData} (h:DK K H b d) (t:WM H H'):DK K H' b d:=⟨Ycu t h.ko h.den,h.ko,h.dp⟩
theorem DictD.keep {P:Program} {w:World} {K:PySem.W.Frag} {H H':Hp} {a:Addr} {xs:Dx} (h:DictD P w K H a xs) (t:WM H H') (e:H' a=some (DDi P w a xs)):DictD P w K H' a xs:=⟨e,h.nd,h.len,fun x hx=>(h.keys x hx).tupk t⟩
section
variable {X:Cx} {k:Nat}
end
section
variable {X:Cx} {e:Expr} {f:Str} {pos:Pos} {ta:TE}
end
end L2
namespace L2
open PySem PySem.Spec PyProof.Rows
end L2
namespace L2
open PySem PySem.Spec PyProof.Rows
end L2
namespace L2
open PySem PySem.Spec PyProof.Rows
section
variable {M:Model} {A:Around} {E:Value→Shared→Prop} {s:Shared}
end
section
variable {X:Cx}
end
section
variable {X:Cx}
end
end L2
namespace L2
open PySem PySem.Spec PyProof.Rows
section
variable {M:Model} {A:Around} {E:Value→Shared→Prop} {s:Shared} {B:Heap} {env:Env} {outer l:List Env} {e L:Addr} {cls a0:Value} {Q:Unit→Shared→Prop}
end
section
variable {X:Cx} {pins:List (Addr×Obj)} {σ:St} {H H':Hp} {s s1 s':Shared} {B:Heap} {e C:Addr} {cls a0:Value} {M:Model} {A:Around} {Q:Unit→Shared→Prop} {EE:Value→Shared→Prop}
end
section
variable {prog:Program} {w:World} {A:Around} {R:Result→Shared→Prop} {s:Shared}
end
section
variable {X:Cx}
end
end L2
namespace L2
open PySem PySem.Spec PyProof.Rows
section
variable {prog:Program} {w:World} {A:Around} {E:Value→Shared→Prop} {s:Shared}
end
section
variable {X:Cx}
end
end L2
namespace L2
open PySem PySem.Spec PyProof.Rows
open Sem (wp)
section
variable {prog:Program} {w:World} {A:Around} {R:Result→Shared→Prop} {I:Addr} {fp wr:List Addr} {n:Nat} {P:Nat→Value→Prop} {St:Nat→Heap→Prop}
end
section
variable {prog:Program} {w:World} {A:Around} {E:Value→Shared→Prop} {s:Shared} {l:Addr} {xs:Array (Int×Tok)}
end
section
variable {X:Cx}
end
section
variable {X:Cx}
end
end L2
namespace L2
open PySem PySem.Spec PyProof.Rows PySem.Builtin.Str
section
variable {X:Cx}
end
end L2
namespace L2
open PySem PySem.Spec PyProof.Rows
section
variable {X:Cx}
end
end L2
namespace PySem.W
open PySem PyProof.Rows
open Builtin Builtin.ObjectAttr
section
variable {prog:Program} {w:World} {A:Around} {E:Value→Shared→Prop} {hh:Heap} {g:Array GenState} {d:Drawn} {t:Nat} {os:OsState} {K:Frag} {x C D:Addr} {ox:Obj} {mA:Str→Option Value} {f:Str} {v:Value}
end
section
variable {prog:Program} {w:World} {A:Around} {E:Value→Shared→Prop} {s:Shared} {K:Frag} {x C C' D:Addr} {ox:Obj} {od:Option Obj} {mA:Str→Option Value} {name:Str} {v:Value} {R:Result→Shared→Prop}
end
section
variable {prog:Program} {w:World} {A:Around} {E:Value→Shared→Prop} {s:Shared} {K:Frag} {x C C' D:Addr} {ox:Obj} {od:Option Obj} {mA:Str→Option Value} {name:Str} {v:Value} {vs:Array Value} {Q:Unit→Shared→Prop}
end
end PySem.W
namespace PySem.W
open PySem PyProof.Rows
def excOwn (K:Frag) (C:Addr) (tl:List Value) (nw:String) (f:Addr):Bool:=match K.lookup C with
 | some ⟨.type "type",_,.cls cd,sl⟩=>(match cd.mro,sl.toList with
  | .ref c::bm,[_,_,_,_,some (.builtin n),_]=>(c==C&&n==nw)&&((!cd.hasDel&&tailIn K tl bm)&&(nsOkIn K cd.ns&&nsIn K cd.ns "__init__"==some (some (.ref f))))
  | _,_=>false)
 | _=>false
abbrev excFs (a0:Value):Array Value:=#[a0,.none,.none,.none,.bool false,.none]
section
variable {prog:Program} {w:World} {A:Around} {E:Value→Shared→Prop} {h:Heap} {g:Array GenState} {d:Drawn} {t:Nat} {os:OsState}
variable {nm q:Str} {C N:Addr} {bs bm bmB:List Value} {hdct:Bool} {sn:List Str} {sub:List Value} {ab:Bool} {col:Option Bool} {dd:Option Addr} {k0 k1 k2 k3 k5:Option Value} {B newId initId:String}
end
section
variable {M:Model} {A:Around} {E:Value→Shared→Prop} {env:Env}
variable {nm q:Str} {C N:Addr} {bs bm bmB:List Value} {hdct:Bool} {sn:List Str} {sub:List Value} {ab:Bool} {col:Option Bool} {dd:Option Addr} {k0 k1 k2 k3 k5:Option Value} {B newId initId:String}
end
section
variable {prog:Program} {w:World} {A:Around} {E:Value→Shared→Prop} {s:Shared} {env:Env}
variable {nm q:Str} {C N:Addr} {bs bm bmB:List Value} {hdct:Bool} {sn:List Str} {sub:List Value} {ab:Bool} {col:Option Bool} {dd:Option Addr} {k0 k1 k2 k3 k5:Option Value} {B newId initId:String}
end
end PySem.W
namespace L2
open PySem PySem.Spec PyProof.Rows
open PySem.W (excFs)
def del (H:Hp) (a:Addr):Hp:=fun b=>if b=a then none else H b
section
variable {P:Program} {w:World} {H:Hp} {h:Heap} {a t0:Addr} {cls:Value} {dc:Option Addr} {sl:Array (Option Value)}
end
section
variable {X:Cx} {pins:List (Addr×Obj)} {σ:St} {H:Hp} {s:Shared} {e:Addr} {cls:Value} {M:Model} {A:Around} {Q:Unit→Shared→Prop} {EE:Value→Shared→Prop} {dc:Option Addr}
end
section
variable {g:Gx} {N:List Str} {qual:Str} {st:Stmt} {f:Addr} {cdv:Value} {A:Around} {outer:List Env} {s:Shared} {H:Hp} {E:XK}
end
structure MkX (K:PySem.W.Frag) (C f:Addr):Prop where
 own:PySem.W.excOwn K C YbC "ValueError.__new__" f=true
 fn:PySem.W.isFn K (.ref f)=true
section
variable {X:Cx} {pins:List (Addr×Obj)} {σ:St} {H:Hp} {s:Shared} {C f:Addr} {k:Nat} {fd:FuncData} {ps:List Str} {sp:Sp} {ds:List Value} {dvs:List V} {E:XK} {CX:CXT}
end
section
variable {P:Program} {w:World} {H:Hp} {h:Heap} {a:Addr} {fs:List (Str×V)} {mA:Str→Option Value}
end
section
variable {X:Cx} {pins:List (Addr×Obj)} {σ:St} {H:Hp} {s:Shared} {C C' a d:Addr} {f:Str} {y:V} {u:Value} {Q:Unit→Shared→Prop} {A:Around} {E:Value→Shared→Prop} {fs:List (Str×V)}
end
def Gx.RawX (g:Gx) (x:Str) (C:Addr) (qual:Str) (st:Stmt) (ps:List Str):Prop:=∃ f fd,Fun g.K "__init__" qual st f fd∧XG g.K fd ps []∧MkX g.K C f∧g.mg x=some (.ref C)
theorem Gx.RawX.own {g:Gx} {x qual:Str} {C:Addr} {st:Stmt} {ps:List Str} (R:g.RawX x C qual st ps):∃ f,PySem.W.excOwn g.K C YbC "ValueError.__new__" f=true:=by
 obtain ⟨f,_,_,_,M,_⟩:=R
 exact ⟨f,M.own⟩
section
variable {g:Gx} {X:Cx} {k j:Nat} {x m f:Str} {ps:List Str} {sp:Sp} {e o value:Expr} {es:List Expr} {t:TA} {ta tv:TE} {p pos apos pos' np cpos:Pos} {C C' B:Addr} {E:XK} {fs:List Str}
end
end L2
namespace L2
open PySem PySem.Spec PyProof.Rows
section
variable {X:Cx} {k:Nat}
end
end L2
namespace L2
open PySem PySem.Spec PyProof.Rows
structure Lent (H Hz:Hp) (h:Heap) (cs:List Addr):Prop where
 one:∀ b∈cs,∃ o u,Hz b=some (.frz o u)∧h.get? b=some o∧H b=none
 oth:∀ b,b∉cs→Hz b=H b
section
variable {P:Program} {w:World} {H Hz H':Hp} {h h' B:Heap} {cs fs:List Addr}
theorem Lent.out (L:Lent H Hz h cs) {b:Addr} {o:HO} (e:H b=some o):b∉cs:=fun z=>by
 obtain ⟨_,_,_,_,n⟩:=L.one b z
 rw [n] at e
 cases e
theorem Lent.get (L:Lent H Hz h cs) {b:Addr} {o:HO} (e:H b=some o):Hz b=some o:=by rw [L.oth b (L.out e)];exact e
theorem Lent.un (L:Lent H Hz h cs) (u:Un fs [] Hz H' h h') (hok:HOk P w H' h') (nf:∀ b∈cs,b∉fs):Un fs [] H (off H' cs) h h':=by
 have z:∀ {b:Addr} {o:HO},H b=some o→b∉cs:=fun e=>L.out e
 refine ⟨fun b o e n hf hx=>?_,fun b o e n hf hx=>?_,fun b o e n hx=>?_,u.there,fun b xs e=>?_,fun b o x e=>?_,fun b ps e=>?_⟩
 ·by_cases hb:b∈cs
  ·obtain ⟨o1,u1,y1,y2,_⟩:=L.one b hb
   rw [e] at y2
   cases y2
   exact (hok b _ (u.frzs b _ _ y1)).1
  ·exact u.keep b o e ((L.oth b hb).trans n) hf hx
 ·exact u.slot b o e ((L.oth b fun hb=>nf b hb hf).trans n) hf hx
 ·by_cases hb:b∈cs
  ·exact VF hb
  ·rw [XU hb]
   exact u.free b o e ((L.oth b hb).trans n) hx
 ·rw [XU (z e)]
  exact u.tups b xs (L.get e)
 ·rw [XU (z e)]
  exact u.frzs b o x (L.get e)
 ·rw [XU (z e)]
  exact u.tbls b ps (L.get e)
end
section
variable {X:Cx} {pins:List (Addr×Obj)} {σ:St} {H:Hp} {s:Shared}
end
section
variable {X:Cx} {CX:CXT} {k:Nat} {f:Addr} {fd:FuncData} {ps:List Str} {sp:Sp} {E:XK} {pins:List (Addr×Obj)} {σ:St} {H:Hp} {s:Shared} {Q:VK} {us:List Value} {vs:List V} {l:YG}
end
def YG.Z (l:YG) (H:Hp):Prop:=∀ p∈l,∃ o,H p.2.1=some (.frz o (UU p.2.1 p.2.2))
theorem YG.Z.keep {l:YG} {H H':Hp} (h:l.Z H) (s:Yb H H'):l.Z H':=fun p hp=>by
 obtain ⟨o,z⟩:=h p hp
 exact ⟨o,s _ _ z⟩
def ClZ (H:Hp) (f c:Addr) (fd:FuncData) (qual:Str) (l:YG):Prop:=H f=some (FnO f fd)∧H c=some (CdO c qual)∧l.Z H
theorem ClZ.keep {H H':Hp} {f c:Addr} {fd:FuncData} {qual:Str} {l:YG} (h:ClZ H f c fd qual l) (s:Yb H H'):ClZ H' f c fd qual l:=⟨s _ _ h.1,s _ _ h.2.1,h.2.2.keep s⟩
section
variable {P:Program} {w:World} {K:PySem.W.Frag} {mg:Str→Option Value} {base:Heap} {N ps:List Str} {qual:Str} {scope:Scope} {f c:Addr} {A:Around} {outer:List Env} {s:Shared} {H:Hp} {l:YG} {cd:Value}
end
end L2
namespace L2
open PySem
mutual
inductive DL (H:Hp):V→PyData→List Addr→Prop
 | non:DL H .non .none []
 | bl (b:Bool):DL H (.bl b) (.bool b) []
 | int (i:Int):DL H (.int i) (.int i) []
 | str (x:Str) (h:PyData.strOk x=true):DL H (.str x) (.str x) []
 | lst {a:Addr} {vs:List V} {ds:List PyData} {L:List Addr}:H a=some (.lst vs)→vs.length≤10000→DLs H vs ds L→DL H (.ref a) (.list ds) (a::L)
 | tup {a:Addr} {vs:List V} {ds:List PyData} {L:List Addr}:H a=some (.tup vs)→vs.length≤10000→DLs H vs ds L→DL H (.ref a) (.tuple ds) L
inductive DLs (H:Hp):List V→List PyData→List Addr→Prop
 | nil:DLs H [] [] []
 | cons {v:V} {d:PyData} {L:List Addr} {vs:List V} {ds:List PyData} {L':List Addr}:DL H v d L→DLs H vs ds L'→DLs H (v::vs) (d::ds) (L++L')
end
mutual
theorem DL.keepL {H H':Hp} (t:Tps H H'):∀ {v:V} {d:PyData} {L:List Addr},DL H v d L→(∀ a∈L,∀ vs,H a=some (.lst vs)→H' a=some (.lst vs))→DL H' v d L
 | _,_,_,.non,_ => .non
 | _,_,_,.bl b,_ => .bl b
 | _,_,_,.int i,_ => .int i
 | _,_,_,.str x h,_ => .str x h
 | _,_,_,.lst h hn hs,e => .lst (e _ (.head _) _ h) hn (hs.keepL t fun a ha=>e a (.tail _ ha))
 | _,_,_,.tup h hn hs,e => .tup (t _ _ h) hn (hs.keepL t e)
theorem DLs.keepL {H H':Hp} (t:Tps H H'):∀ {vs:List V} {ds:List PyData} {L:List Addr},DLs H vs ds L→(∀ a∈L,∀ vs,H a=some (.lst vs)→H' a=some (.lst vs))→DLs H' vs ds L
 | _,_,_,.nil,_ => .nil
 | _,_,_,.cons h hs,e => .cons (h.keepL t fun a ha=>e a (List.mem_append_left _ ha)) (hs.keepL t fun a ha=>e a (List.mem_append_right _ ha))
end
theorem DL.keep {H H':Hp} {v:V} {d:PyData} {L:List Addr} (h:DL H v d L) (s:Yb H H'):DL H' v d L:=h.keepL s.tps fun a _ vs e=>s _ _ e
theorem DLs.keep {H H':Hp} {vs:List V} {ds:List PyData} {L:List Addr} (h:DLs H vs ds L) (s:Yb H H'):DLs H' vs ds L:=h.keepL s.tps fun a _ vs e=>s _ _ e
mutual
theorem DL.mem {H:Hp}:∀ {v:V} {d:PyData} {L:List Addr},DL H v d L→∀ a∈L,∃ vs,H a=some (.lst vs)∧vs.length≤10000
 | _,_,_,.lst (a:=b) h hn hs,a,ha=>by
  rcases List.mem_cons.mp ha with e | ha
  ·subst e;exact ⟨_,h,hn⟩
  ·exact hs.mem a ha
 | _,_,_,.tup h hn hs,a,ha=>hs.mem a ha
theorem DLs.mem {H:Hp}:∀ {vs:List V} {ds:List PyData} {L:List Addr},DLs H vs ds L→∀ a∈L,∃ vs,H a=some (.lst vs)∧vs.length≤10000
 | _,_,_,.cons h hs,a,ha=>by
  rcases List.mem_append.mp ha with ha | ha
  ·exact h.mem a ha
  ·exact hs.mem a ha
end
mutual
theorem DL.den {K:PySem.W.Frag} {H:Hp}:∀ {v:V} {d:PyData} {L:List Addr},DL H v d L→Den K H v d
 | _,_,_,.non => .non
 | _,_,_,.bl b => .bl b
 | _,_,_,.int i => .int i
 | _,_,_,.str x h => .str x h
 | _,_,_,.lst h _ hs => .lst (SqL.of h) hs.den
 | _,_,_,.tup h _ hs => .tup (SqT.of h) hs.den
theorem DLs.den {K:PySem.W.Frag} {H:Hp}:∀ {vs:List V} {ds:List PyData} {L:List Addr},DLs H vs ds L→Dens K H vs ds
 | _,_,_,.nil => .nil
 | _,_,_,.cons h hs => .cons h.den hs.den
end
theorem DLs.length {H:Hp}:∀ {vs:List V} {ds:List PyData} {L:List Addr},DLs H vs ds L→vs.length=ds.length
 | _,_,_,.nil=>rfl
 | _,_,_,.cons _ hs=>congrArg (·+1) hs.length
theorem DLs.append {H:Hp} {vs':List V} {ds':List PyData} {L':List Addr}:∀ {vs:List V} {ds:List PyData} {L:List Addr},DLs H vs ds L→DLs H vs' ds' L'→DLs H (vs++vs') (ds++ds') (L++L')
 | _,_,_,.nil,h=>h
 | _,_,_,.cons a b,h=>by rw [List.append_assoc];exact .cons a (b.append h)
theorem DL.one {H:Hp} {v:V} {d:PyData} {L:List Addr} (h:DL H v d L):DLs H [v] [d] L:=by
 have:=DLs.cons h .nil
 rwa [List.append_nil] at this
theorem DLs.take {H:Hp}:∀ {vs:List V} {ds:List PyData} {L:List Addr} (n:Nat),DLs H vs ds L→∃ L',DLs H (vs.take n) (ds.take n) L'∧∀ a∈L',a∈L
 | _,_,_,0,_=>by simp;exact ⟨[],.nil,fun a h=>by cases h⟩
 | _,_,_,n+1,.nil=>by simp;exact ⟨[],.nil,fun a h=>by cases h⟩
 | _,_,_,n+1,.cons a b=>by
  obtain ⟨L',h1,h2⟩:=b.take n
  exact ⟨_,.cons a h1,fun x hx=>by
   rcases List.mem_append.mp hx with h | h
   ·exact List.mem_append_left _ h
   ·exact List.mem_append_right _ (h2 x h)⟩
structure OwD (H0 H:Hp) (v:V) (d:PyData) (L:List Addr):Prop where
 vl:DL H v d L
 nd:L.Nodup
 new:∀ a∈L,H0 a=none
structure OwDs (H0 H:Hp) (vs:List V) (ds:List PyData) (L:List Addr):Prop where
 vl:DLs H vs ds L
 nd:L.Nodup
 new:∀ a∈L,H0 a=none
theorem OwDs.ext {H0 H1 H2:Hp} {vs:List V} {ds:List PyData} {L L':List Addr} {ys:List V} {es:List PyData} {D:Addr} {zs zs':List V} (h:OwDs H0 H1 vs ds L) (hD:∀ a∈L,a≠D) (s0:Yb H0 H1) (s:Yb H1 H2) (o:OwDs H1 H2 ys es L') (h1:H1 D=some (.lst zs)):OwDs H0 (upd H2 D (.lst zs')) (vs++ys) (ds++es) (L++L')∧∀ a∈L++L',a≠D:=by
 have hD':∀ a∈L',a≠D:=fun a ha e=>by have:=o.new a ha;rw [e,h1] at this;cases this
 have t:Tps H2 (upd H2 D (.lst zs')) := .upd_lst (s _ _ h1)
 refine ⟨⟨((h.vl.keep s).keepL t fun a ha vs e=>by rw [Yh (hD a ha)];exact e).append (o.vl.keepL t fun a ha vs e=>by rw [Yh (hD' a ha)];exact e),?_,fun a ha=>?_⟩,fun a ha=>?_⟩
 ·refine List.nodup_append.mpr ⟨h.nd,o.nd,fun a ha b hb e=>?_⟩
  subst e
  obtain ⟨vs,e1,_⟩:=h.vl.mem a ha
  rw [o.new a hb] at e1
  cases e1
 ·rcases List.mem_append.mp ha with ha | ha
  ·exact h.new a ha
  ·exact s0.free (o.new a ha)
 ·rcases List.mem_append.mp ha with ha | ha
  ·exact hD a ha
  ·exact hD' a ha
theorem OwD.inv {H0 H:Hp} {D:Addr} {ds:List PyData} {L:List Addr} (h:OwD H0 H (.ref D) (.list ds) L):∃ ys L1,L=D::L1∧H D=some (.lst ys)∧ys.length≤10000∧OwDs H0 H ys ds L1∧D∉L1∧H0 D=none:=by
 obtain ⟨vl,nd,new⟩:=h
 cases vl with
 | lst h1 h2 h3 =>
  have:=List.nodup_cons.mp nd
  exact ⟨_,_,rfl,h1,h2,⟨h3,this.2,fun a ha=>new a (.tail _ ha)⟩,this.1,new _ (.head _)⟩
section
variable {src:List (Option Nat)} {te:TE} {σ:St} {H:Hp} {Q:VK}
end
def Kt (H H':Hp):Prop:=∀ a o,(∀ ps,o ≠ .tbl ps)→H a=some o→H' a=some o
theorem Kt.trans {H H1 H2:Hp} (a:Kt H H1) (b:Kt H1 H2):Kt H H2:=fun c o n e=>b c o n (a c o n e)
theorem Xj {H H':Hp} (s:Yb H H'):Kt H H':=fun c o _ e=>s _ _ e
theorem Kt.lst {H H':Hp} (h:Kt H H') {a:Addr} {xs:List V} (e:H a=some (.lst xs)):H' a=some (.lst xs):=h a _ (by intro ps z;cases z) e
theorem Kt.tup {H H':Hp} (h:Kt H H') {a:Addr} {xs:List V} (e:H a=some (.tup xs)):H' a=some (.tup xs):=h a _ (by intro ps z;cases z) e
theorem DL.kt {H H':Hp} {v:V} {d:PyData} {L:List Addr} (h:DL H v d L) (s:Kt H H'):DL H' v d L:=h.keepL (fun a vs e=>s.tup e) fun a _ vs e=>s.lst e
theorem DLs.kt {H H':Hp} {v:List V} {d:List PyData} {L:List Addr} (h:DLs H v d L) (s:Kt H H'):DLs H' v d L:=h.keepL (fun a vs e=>s.tup e) fun a _ vs e=>s.lst e
def DV (H:Hp) (v:V) (d:PyData):Prop:=∃ L,DL H v d L
def DVs (H:Hp) (vs:List V) (ds:List PyData):Prop:=∃ L,DLs H vs ds L
theorem DV.kt {H H':Hp} {v:V} {d:PyData} (h:DV H v d) (s:Kt H H'):DV H' v d:=by obtain ⟨L,h⟩:=h;exact ⟨L,h.kt s⟩
theorem DV.keep {H H':Hp} {v:V} {d:PyData} (h:DV H v d) (s:Yb H H'):DV H' v d:=h.kt (Xj s)
theorem DVs.kt {H H':Hp} {v:List V} {d:List PyData} (h:DVs H v d) (s:Kt H H'):DVs H' v d:=by obtain ⟨L,h⟩:=h;exact ⟨L,h.kt s⟩
theorem DVs.keep {H H':Hp} {v:List V} {d:List PyData} (h:DVs H v d) (s:Yb H H'):DVs H' v d:=h.kt (Xj s)
theorem DVs.nil {H:Hp}:DVs H [] []:=⟨[],.nil⟩
theorem DVs.cons {H:Hp} {v:V} {d:PyData} {vs:List V} {ds:List PyData} (h:DV H v d) (hs:DVs H vs ds):DVs H (v::vs) (d::ds):=by
 obtain ⟨L,h⟩:=h;obtain ⟨L',hs⟩:=hs;exact ⟨_,.cons h hs⟩
theorem DVs.inv {H:Hp} {v:V} {d:PyData} {vs:List V} {ds:List PyData} (h:DVs H (v::vs) (d::ds)):DV H v d∧DVs H vs ds:=by
 obtain ⟨L,h⟩:=h
 cases h with
 | cons a b=>exact ⟨⟨_,a⟩,⟨_,b⟩⟩
theorem DVs.length {H:Hp} {vs:List V} {ds:List PyData} (h:DVs H vs ds):vs.length=ds.length:=by obtain ⟨L,h⟩:=h;exact h.length
theorem DVs.append {H:Hp} {vs vs':List V} {ds ds':List PyData} (h:DVs H vs ds) (h':DVs H vs' ds'):DVs H (vs++vs') (ds++ds'):=by
 obtain ⟨L,h⟩:=h;obtain ⟨L',h'⟩:=h';exact ⟨_,h.append h'⟩
theorem DVs.reverse {H:Hp}:∀ {vs:List V} {ds:List PyData},DVs H vs ds→DVs H vs.reverse ds.reverse
 | [],[],_ => .nil
 | [],_::_,h=>absurd h.length (by simp)
 | _::_,[],h=>absurd h.length (by simp)
 | v::vs,d::ds,h=>by
  rw [List.reverse_cons,List.reverse_cons]
  exact h.inv.2.reverse.append (.cons h.inv.1 .nil)
theorem DV.lst {H:Hp} {a:Addr} {vs:List V} {ds:List PyData} (h:H a=some (.lst vs)) (hn:vs.length≤10000) (hs:DVs H vs ds):DV H (.ref a) (.list ds):=by obtain ⟨L,hs⟩:=hs;exact ⟨_,.lst h hn hs⟩
theorem DV.tup {H:Hp} {a:Addr} {vs:List V} {ds:List PyData} (h:H a=some (.tup vs)) (hn:vs.length≤10000) (hs:DVs H vs ds):DV H (.ref a) (.tuple ds):=by obtain ⟨L,hs⟩:=hs;exact ⟨_,.tup h hn hs⟩
theorem DV.den {K:PySem.W.Frag} {H:Hp} {v:V} {d:PyData} (h:DV H v d):Den K H v d:=by obtain ⟨L,h⟩:=h;exact h.den
end L2
namespace PySem
section
variable {prog:Program} {w:World} {A:Around} {E:Value→Shared→Prop} {s:Shared} {l:Addr} {xs:Array (Int×Tok)}
end
end PySem
namespace HT
open PySem PySem.Spec PyProof.Rows
variable {prog:Program} {w:World} {A:Around} {E:Value→Shared→Prop} {s:Shared}
end HT
namespace L2
open PySem PySem.Spec PyProof.Rows
def revS (z:Str):Str:=⟨z.cps.toList.reverse.toArray⟩
section
variable {X:Cx} {e st:Expr} {te ts:TE} {pos p2:Pos} {K:PySem.W.Frag}
end
end L2
namespace L2
open PySem
noncomputable def sm (a b:PyData):Bool:=@decide (a=b) (Classical.propDecidable _)
inductive Tm where
 | num (i:Int) | here | part (t:Tm) (k:Int) | count (t:Tm) | sum (t:Tm) | not (t:Tm) | turned (t:Tm)
 | same (a b:Tm) | both (a b:Tm) | when (a b c:Tm) | each (a b:Tm) | joined (a b:Tm) | plus (a b:Tm) | times (a b:Tm) | less (a b:Tm)
abbrev Say:=Except Str PyData
def VZ:PyData→Option (List PyData)
 | .list xs=>some xs
 | .tuple xs=>some xs
 | _=>none
def WB:List PyData→Option Int
 | []=>some 0
 | .int i::r=>(WB r).map (i+·)
 | _::_=>none
def take (mk:Str) (s:Say) (f:PyData→Option α):Except Str α:=match s with
 | .error m => .error m
 | .ok d=>match f d with
  | some a => .ok a
  | none => .error mk
def Vc:PyData→Option Int
 | .int i=>some i
 | _=>none
def W4:PyData→Option Bool
 | .bool b=>some b
 | _=>none
def lenOf:PyData→Option Nat
 | .list xs=>some xs.length
 | .tuple xs=>some xs.length
 | .str x=>some x.length
 | _=>none
def Yee:PyData→Option PyData
 | .list xs=>some (.list xs.reverse)
 | .tuple xs=>some (.tuple xs.reverse)
 | .str x=>some (.str (revS x))
 | _=>none
def YbK (mk:Str) (f:PyData→Say):List PyData→Say
 | [] => .ok (.bool true)
 | x::xs=>match take mk (f x) W4 with
  | .error m => .error m
  | .ok true=>YbK mk f xs
  | .ok false => .ok (.bool false)
noncomputable def tell:Tm→PyData→Say
 | .num i,_ => .ok (.int i)
 | .here,d => .ok d
 | .part t k,d=>take "part" (tell t d) fun x=>(VZ x).bind fun xs=>if 0≤k then xs[k.toNat]? else none
 | .count t,d=>(take "count" (tell t d) lenOf).map fun (n:Nat)=>PyData.int (n:Int)
 | .sum t,d=>(take "sum" (tell t d) fun x=>(VZ x).bind WB).map .int
 | .not t,d=>(take "not" (tell t d) W4).map fun b => .bool (!b)
 | .turned t,d=>take "turned" (tell t d) Yee
 | .same a b,d=>match tell a d with
  | .error m => .error m
  | .ok x=>(tell b d).map fun y => .bool (sm x y)
 | .both a b,d=>match take "both" (tell a d) W4 with
  | .error m => .error m
  | .ok false => .ok (.bool false)
  | .ok true=>(take "both" (tell b d) W4).map .bool
 | .when a b c,d=>match take "when" (tell a d) W4 with
  | .error m => .error m
  | .ok true=>tell b d
  | .ok false=>tell c d
 | .each a b,d=>match take "each" (tell a d) VZ with
  | .error m => .error m
  | .ok xs=>YbK "each" (fun x=>tell b x) xs
 | .joined a b,d=>match tell a d with
  | .error m => .error m
  | .ok (.list xs)=>take "joined" (tell b d) fun y=>match y with
   | .list ys=>some (.list (xs++ys))
   | _=>none
  | .ok (.str x)=>take "joined" (tell b d) fun y=>match y with
   | .str z=>some (.str (x++z))
   | _=>none
  | .ok _ => .error "joined"
 | .plus a b,d=>match take "plus" (tell a d) Vc with
  | .error m => .error m
  | .ok i=>(take "plus" (tell b d) Vc).map fun j => .int (i+j)
 | .times a b,d=>match take "times" (tell a d) Vc with
  | .error m => .error m
  | .ok i=>(take "times" (tell b d) Vc).map fun j => .int (i*j)
 | .less a b,d=>match take "less" (tell a d) Vc with
  | .error m => .error m
  | .ok i=>(take "less" (tell b d) Vc).map fun j => .bool (decide (i<j))
def Yy (H:Hp):Tm→V→Prop
 | .num i,v=>∃ a,v = .ref a∧H a=some (.tup [.str "num",.int i])
 | .here,v=>∃ a r,v = .ref a∧H a=some (.tup [.str "here",r])
 | .part t k,v=>∃ a p u,v = .ref a∧H a=some (.tup [.str "part",.ref p])∧H p=some (.tup [u,.int k])∧Yy H t u
 | .count t,v=>∃ a u,v = .ref a∧H a=some (.tup [.str "count",u])∧Yy H t u
 | .sum t,v=>∃ a u,v = .ref a∧H a=some (.tup [.str "sum",u])∧Yy H t u
 | .not t,v=>∃ a u,v = .ref a∧H a=some (.tup [.str "not",u])∧Yy H t u
 | .turned t,v=>∃ a u,v = .ref a∧H a=some (.tup [.str "turned",u])∧Yy H t u
 | .same x y,v=>∃ a p u w,v = .ref a∧H a=some (.tup [.str "same",.ref p])∧H p=some (.tup [u,w])∧Yy H x u∧Yy H y w
 | .both x y,v=>∃ a p u w,v = .ref a∧H a=some (.tup [.str "both",.ref p])∧H p=some (.tup [u,w])∧Yy H x u∧Yy H y w
 | .when x y z,v=>∃ a p u w q,v = .ref a∧H a=some (.tup [.str "when",.ref p])∧H p=some (.tup [u,w,q])∧Yy H x u∧Yy H y w∧Yy H z q
 | .each x y,v=>∃ a p u w,v = .ref a∧H a=some (.tup [.str "each",.ref p])∧H p=some (.tup [u,w])∧Yy H x u∧Yy H y w
 | .joined x y,v=>∃ a p u w,v = .ref a∧H a=some (.tup [.str "joined",.ref p])∧H p=some (.tup [u,w])∧Yy H x u∧Yy H y w
 | .plus x y,v=>∃ a p u w,v = .ref a∧H a=some (.tup [.str "plus",.ref p])∧H p=some (.tup [u,w])∧Yy H x u∧Yy H y w
 | .times x y,v=>∃ a p u w,v = .ref a∧H a=some (.tup [.str "times",.ref p])∧H p=some (.tup [u,w])∧Yy H x u∧Yy H y w
 | .less x y,v=>∃ a p u w,v = .ref a∧H a=some (.tup [.str "less",.ref p])∧H p=some (.tup [u,w])∧Yy H x u∧Yy H y w
theorem Yy.tps {H H':Hp} (h:Tps H H'):∀ {t:Tm} {v:V},Yy H t v→Yy H' t v
 | .num i,v,⟨a,e,z⟩=>⟨a,e,h _ _ z⟩
 | .here,v,⟨a,r,e,z⟩=>⟨a,r,e,h _ _ z⟩
 | .part t k,v,⟨a,p,u,e,z,y,x⟩=>⟨a,p,u,e,h _ _ z,h _ _ y,Yy.tps h x⟩
 | .count t,v,⟨a,u,e,z,x⟩=>⟨a,u,e,h _ _ z,Yy.tps h x⟩
 | .sum t,v,⟨a,u,e,z,x⟩=>⟨a,u,e,h _ _ z,Yy.tps h x⟩
 | .not t,v,⟨a,u,e,z,x⟩=>⟨a,u,e,h _ _ z,Yy.tps h x⟩
 | .turned t,v,⟨a,u,e,z,x⟩=>⟨a,u,e,h _ _ z,Yy.tps h x⟩
 | .same _ _,v,⟨a,p,u,w,e,z,y,x1,x2⟩=>⟨a,p,u,w,e,h _ _ z,h _ _ y,Yy.tps h x1,Yy.tps h x2⟩
 | .both _ _,v,⟨a,p,u,w,e,z,y,x1,x2⟩=>⟨a,p,u,w,e,h _ _ z,h _ _ y,Yy.tps h x1,Yy.tps h x2⟩
 | .when _ _ _,v,⟨a,p,u,w,q,e,z,y,x1,x2,x3⟩=>⟨a,p,u,w,q,e,h _ _ z,h _ _ y,Yy.tps h x1,Yy.tps h x2,Yy.tps h x3⟩
 | .each _ _,v,⟨a,p,u,w,e,z,y,x1,x2⟩=>⟨a,p,u,w,e,h _ _ z,h _ _ y,Yy.tps h x1,Yy.tps h x2⟩
 | .joined _ _,v,⟨a,p,u,w,e,z,y,x1,x2⟩=>⟨a,p,u,w,e,h _ _ z,h _ _ y,Yy.tps h x1,Yy.tps h x2⟩
 | .plus _ _,v,⟨a,p,u,w,e,z,y,x1,x2⟩=>⟨a,p,u,w,e,h _ _ z,h _ _ y,Yy.tps h x1,Yy.tps h x2⟩
 | .times _ _,v,⟨a,p,u,w,e,z,y,x1,x2⟩=>⟨a,p,u,w,e,h _ _ z,h _ _ y,Yy.tps h x1,Yy.tps h x2⟩
 | .less _ _,v,⟨a,p,u,w,e,z,y,x1,x2⟩=>⟨a,p,u,w,e,h _ _ z,h _ _ y,Yy.tps h x1,Yy.tps h x2⟩
theorem Yy.keep {H H':Hp} (h:Kt H H') {t:Tm} {v:V} (x:Yy H t v):Yy H' t v:=x.tps fun a vs e=>h.tup e
structure IB (n:Nat) (i:Int):Prop where
 h:i.natAbs<2^(200*2^n)
theorem ib_up (n:Nat):200*2^(n+1)=200*2^n+200*2^n:=by rw [Nat.pow_succ];omega
mutual
def hb:PyData→Prop
 | .list xs=>xs.length≤64∧hbs xs
 | .tuple xs=>xs.length≤64∧hbs xs
 | .str x=>x.length≤64
 | .int i=>IB 0 i
 | .none=>True
 | .bool _=>True
 | .dict _=>False
def hbs:List PyData→Prop
 | []=>True
 | d::ds=>hb d∧hbs ds
end
theorem YbL:∀ {xs:List PyData} {s:Int},hbs xs→WB xs=some s→s.natAbs≤xs.length*2^200
 | [],s,_,e=>by cases e;simp
 | .int i::xs,s,h,e=>by
  simp only [WB,Option.map_eq_some_iff] at e
  obtain ⟨z,e1,rfl⟩:=e
  have h1:=YbL h.2 e1
  have h2:=(show IB 0 i from h.1).h
  have h3:=Int.natAbs_add_le i z
  rw [Nat.pow_zero,Nat.mul_one] at h2
  rw [List.length_cons,Nat.add_mul,Nat.one_mul]
  omega
 | .none::_,_,_,e=>by cases e
 | .bool _::_,_,_,e=>by cases e
 | .str _::_,_,_,e=>by cases e
 | .list _::_,_,_,e=>by cases e
 | .tuple _::_,_,_,e=>by cases e
 | .dict _::_,_,_,e=>by cases e
theorem IB.sum {n:Nat} {xs:List PyData} {s:Int} (h:hbs xs) (hl:xs.length≤64*2^n) (e:WB xs=some s):IB (n+1) s:=by
 refine ⟨Nat.lt_of_le_of_lt (YbL h e) ?_⟩
 refine Nat.lt_of_le_of_lt (Nat.mul_le_mul_right _ hl) ?_
 have e1:64*2^n*2^200=2^(6+n+200):=by rw [Nat.pow_add,Nat.pow_add]
 rw [e1]
 refine Nat.pow_lt_pow_right (by decide) ?_
 have:=Nat.lt_two_pow_self (n:=n)
 rw [ib_up]
 omega
def Tm.ok:Tm→Prop
 | .num i=>IB 0 i
 | .here=>True
 | .part t k=>0≤k∧t.ok
 | .count t=>t.ok
 | .sum t=>t.ok
 | .not t=>t.ok
 | .turned t=>t.ok
 | .same a b=>a.ok∧b.ok
 | .both a b=>a.ok∧b.ok
 | .when a b c=>a.ok∧b.ok∧c.ok
 | .each a b=>a.ok∧b.ok
 | .joined a b=>a.ok∧b.ok
 | .plus a b=>a.ok∧b.ok
 | .times a b=>a.ok∧b.ok
 | .less a b=>a.ok∧b.ok
end L2
namespace L2
open PySem PySem.Spec PyProof.Rows
section
variable {X:Cx} {k:Nat}
end
def sb:Nat→Nat
 | 0=>60
 | n+1=>4*sb n+11
end L2
namespace L2
open PySem PySem.Spec PyProof.Rows
section
variable {M:Model} {A:Around} {E:Value→Shared→Prop} {s:Shared} {Q:Value→Shared→Prop}
end
section
variable {X:Cx}
end
section
variable {g:Gx} {X:Cx} {k j:Nat} {f c:Str} {ps:List Str} {sp:Sp} {e:Expr} {es:List Expr} {t:TA} {ts:TS} {b₀:Stmt} {suite:List Stmt} {cv:Value} {kk:Nat} {fp cp hpos apos cpos bpos mpos pos:Pos}
end
end L2
set_option maxHeartbeats 4000000
namespace PySem.W
open PySem PySem.Calls PyProof.Rows
def KasT.Ok {α:Type} (f:Nat→Nat→Bool) (n:Nat) (Q:α→Prop):KasT α→Prop
 | .ret a=>Q a
 | .ask i j k=>i<n∧j<n∧(k (f i j)).Ok f n Q
theorem KasT.ok_bind {α β:Type} {f:Nat→Nat→Bool} {n:Nat} {g:α→KasT β} {Q:β→Prop}:∀ {t:KasT α},t.Ok f n (fun a=>(g a).Ok f n Q)→(t.bind g).Ok f n Q
 | .ret _,h=>h
 | .ask _ _ k,h=>⟨h.1,h.2.1,KasT.ok_bind (t:=k _) h.2.2⟩
theorem KasT.Ok.mono {α:Type} {f:Nat→Nat→Bool} {n:Nat} {Q Q':α→Prop} (hq:∀ a,Q a→Q' a):∀ {t:KasT α},t.Ok f n Q→t.Ok f n Q'
 | .ret _,h=>hq _ h
 | .ask _ _ k,h=>⟨h.1,h.2.1,KasT.Ok.mono hq (t:=k _) h.2.2⟩
theorem KasT.Ok.wp {α:Type} {f:Nat→Nat→Bool} {n:Nat} {Q:α→Prop} {Q':α→Shared→Prop} {cmp:Nat→Nat→(Bool→Shared→Prop)→Shared→Prop} {s:Shared} (hc:∀ i j C,i<n→j<n→C (f i j) s→cmp i j C s) (hq:∀ a,Q a→Q' a s):∀ {t:KasT α},t.Ok f n Q→t.kasWp cmp Q' s
 | .ret _,h=>hq _ h
 | .ask _ _ k,h=>hc _ _ _ h.1 h.2.1 (KasT.Ok.wp hc hq (t:=k _) h.2.2)
section sort
variable {f:Nat→Nat→Bool} {n:Nat}
def KPm (n:Nat) (p:Array Nat):Prop:=p.Perm (List.toArray (List.range n))
theorem KPm.size {p:Array Nat} (h:KPm n p):p.size=n:=by
 have:=h.size_eq
 simpa using this
theorem KPm.lt {p:Array Nat} (h:KPm n p) (h0:0<n) (i:Nat):p.getD i 0<n:=by
 by_cases c:i<p.size
 ·have hm:p[i]∈p:=Array.getElem_mem c
  have:=(h.mem_iff).mp hm
  simp [Array.getD,c]
  simpa using this
 ·simp [Array.getD,c];exact h0
theorem KPm.rev {p:Array Nat} (h:KPm n p) (i j:Nat):KPm n (kas_rev p i j):=(mirror_perm _ _ _ _).trans h
theorem KPm.bub {p:Array Nat} (h:KPm n p) (i j:Nat):KPm n (bubble p i j):=(bubble_perm _ _ _).trans h
theorem WC {p q:Array Nat} {i j:Nat} (h:p[i]?=q[j]?):p.getD i 0=q.getD j 0:=by
 rw [Array.getD_eq_getD_getElem?,Array.getD_eq_getD_getElem?,h]
theorem Xd {p:Array Nat} {i j:Nat} (hj:j≤p.size) (k:Nat):(kas_rev p i j).getD k 0=if i≤k∧k<j then p.getD (i+j - 1 - k) 0 else p.getD k 0:=by
 have:=getElem?_mirror_all (i:=i) hj k
 by_cases c:i≤k∧k<j
 ·rw [if_pos c] at this ⊢;exact WC this
 ·rw [if_neg c] at this ⊢;exact WC this
theorem YbM {p:Array Nat} {k l:Nat} (hk:k<p.size) (hl:l≤k) (i:Nat):(bubble p k (k - l)).getD i 0=if i=l then p.getD k 0 else if l<i∧i≤k then p.getD (i - 1) 0 else p.getD i 0:=by
 have:=getElem?_bubble hk (k - l) (by omega) i
 rw [show k - (k - l)=l from by omega] at this
 by_cases c:i=l
 ·rw [if_pos c] at this ⊢;exact WC this
 ·rw [if_neg c] at this ⊢
  by_cases c2:l<i∧i≤k
  ·rw [if_pos c2] at this ⊢;exact WC this
  ·rw [if_neg c2] at this ⊢;exact WC this
def Xl (f:Nat→Nat→Bool) (p:Array Nat) (m:Nat):Prop:=∀ i j,i≤j→j<m→f (p.getD j 0) (p.getD i 0)=false
def XZ (f:Nat→Nat→Bool) (p:Array Nat) (m:Nat):Prop:=∀ i j,i≤j→j<m→f (p.getD i 0) (p.getD j 0)=false
def KEq (f:Nat→Nat→Bool) (p:Array Nat) (m q:Nat):Prop:=∀ i,m - (q+1)≤i→i<m→f (p.getD (m - 1) 0) (p.getD i 0)=false
structure KOrd (f:Nat→Nat→Bool) (n:Nat):Prop where
 asy:∀ i j,i<n→j<n→f i j=true→f j i=false
 tr:∀ i j k,i<n→j<n→k<n→f j i=false→f k j=false→f k i=false
theorem KOrd.irr (h:KOrd f n) {i:Nat} (hi:i<n):f i i=false:=by
 cases e:f i i with
 | false=>rfl
 | true=>rw [h.asy i i hi hi e] at e;cases e
variable (O:KOrd f n) (h0:0<n)
include O h0
theorem Xl.snoc {p:Array Nat} (hp:KPm n p) {a:Nat} (h1:1≤a) (hs:Xl f p a) (hc:f (p.getD a 0) (p.getD (a - 1) 0)=false):Xl f p (a+1):=by
 intro i j hij hj
 have L:=hp.lt h0
 by_cases c:j<a
 ·exact hs i j hij c
 ·have:j=a:=by omega
  subst this
  by_cases c2:i=j
  ·subst c2;exact O.irr (L _)
  ·exact O.tr _ _ _ (L _) (L _) (L _) (hs i (j - 1) (by omega) (by omega)) hc
theorem XZ.snoc {p:Array Nat} (hp:KPm n p) {a:Nat} (h1:1≤a) (hs:XZ f p a) (hc:f (p.getD (a - 1) 0) (p.getD a 0)=false):XZ f p (a+1):=by
 intro i j hij hj
 have L:=hp.lt h0
 by_cases c:j<a
 ·exact hs i j hij c
 ·have:j=a:=by omega
  subst this
  by_cases c2:i=j
  ·subst c2;exact O.irr (L _)
  ·exact O.tr _ _ _ (L _) (L _) (L _) hc (hs i (j - 1) (by omega) (by omega))
theorem Qr {p:Array Nat} (hp:KPm n p):∀ (k a:Nat),1≤a→Xl f p a→(kas_asc p k a).Ok f n fun m=>a≤m∧m≤a+k∧Xl f p m∧(m<a+k→f (p.getD m 0) (p.getD (m - 1) 0)=true)
 | 0,a,h1,hs=>⟨Nat.le_refl _,Nat.le_refl _,hs,fun h=>absurd h (by omega)⟩
 | k+1,a,h1,hs=>by
  refine ⟨hp.lt h0 _,hp.lt h0 _,?_⟩
  dsimp only
  by_cases c:f (p.getD a 0) (p.getD (a - 1) 0)=true
  ·rw [if_pos c]
   exact ⟨Nat.le_refl _,by omega,hs,fun _=>c⟩
  ·rw [if_neg c]
   refine (Qr hp k (a+1) (by omega) (hs.snoc O h0 hp h1 (Bool.eq_false_iff.mpr c))).mono fun m h=>⟨by omega,by omega,h.2.2.1,fun h'=>h.2.2.2 (by omega)⟩
theorem XZ.turn {p:Array Nat} (hp:KPm n p) {a q:Nat} (ha:a≤n) (hq:q+1≤a) (hs:XZ f p a) (he:KEq f p a q):XZ f (kas_rev p (a - (q+1)) a) a∧KEq f (kas_rev p (a - (q+1)) a) a q:=by
 have L:=hp.lt h0
 have hz:a≤p.size:=by rw [hp.size];exact ha
 have eq:∀ i j,a - (q+1)≤i→i<a→a - (q+1)≤j→j<a→f (p.getD i 0) (p.getD j 0)=false:=fun i j h1 h2 h3 h4 =>
  O.tr _ _ _ (L _) (L _) (L _) (he j h3 h4) (hs i (a - 1) (by omega) (by omega))
 refine ⟨fun i j hij hj=>?_,fun i h1 h2=>?_⟩
 ·rw [Xd hz,Xd hz]
  by_cases c1:a - (q+1)≤i∧i<a
  ·rw [if_pos c1,if_pos ⟨by omega,hj⟩]
   exact eq _ _ (by omega) (by omega) (by omega) (by omega)
  ·rw [if_neg c1]
   by_cases c2:a - (q+1)≤j∧j<a
   ·rw [if_pos c2]
    exact hs _ _ (by omega) (by omega)
   ·rw [if_neg c2]
    exact hs _ _ hij hj
 ·rw [Xd hz,Xd hz,if_pos ⟨by omega,by omega⟩,if_pos ⟨h1,h2⟩]
  exact eq _ _ (by omega) (by omega) (by omega) (by omega)
def Yc7 (f:Nat→Nat→Bool) (n:Nat) (a:Nat) (r:Array Nat×Nat×Nat):Prop:=KPm n r.1∧XZ f r.1 r.2.1∧a≤r.2.1∧r.2.1≤n∧r.2.2+1≤r.2.1∧KEq f r.1 r.2.1 r.2.2
theorem V0:∀ (k:Nat) (p:Array Nat) (a q:Nat),KPm n p→a+k≤n→q+1≤a→XZ f p a→KEq f p a q→(kas_desc k p a q).Ok f n (Yc7 f n a)
 | 0,p,a,q,hp,ha,hq,hs,he=>⟨hp,hs,Nat.le_refl _,ha,hq,he⟩
 | k+1,p,a,q,hp,ha,hq,hs,he=>by
  have L:=hp.lt h0
  refine ⟨L _,L _,?_⟩
  dsimp only
  by_cases c:f (p.getD a 0) (p.getD (a - 1) 0)=true
  ·rw [if_pos c]
   have key:∀ p':Array Nat,KPm n p'→XZ f p' a→p'.getD a 0=p.getD a 0→f (p.getD (a - 1) 0) (p'.getD (a - 1) 0)=false∧f (p'.getD (a - 1) 0) (p.getD (a - 1) 0)=false→(kas_desc k p' (a+1) 0).Ok f n (Yc7 f n a):=fun p' hp' hs' e1 e2=>by
    have L':=hp'.lt h0
    have hx:f (p'.getD (a - 1) 0) (p'.getD a 0)=false:=by
     rw [e1]
     exact O.tr _ _ _ (L _) (L _) (L' _) (O.asy _ _ (L _) (L _) c) e2.2
    refine (V0 k p' (a+1) 0 hp' (by omega) (by omega) (hs'.snoc O h0 hp' (by omega) hx) fun i h1 h2=>?_).mono fun r h=>⟨h.1,h.2.1,by have:=h.2.2.1;omega,h.2.2.2⟩
    have:i=a:=by omega
    subst this
    exact O.irr (L' _)
   by_cases cq:q>0
   ·rw [if_pos cq]
    obtain ⟨t1,t2⟩:=hs.turn O h0 hp (by omega) hq he
    have hz:a≤p.size:=by rw [hp.size];omega
    refine key _ (hp.rev _ _) t1 (by rw [Xd hz,if_neg (by omega)]) ?_
    rw [Xd hz,if_pos ⟨by omega,by omega⟩]
    exact ⟨he _ (by omega) (by omega),hs _ _ (by omega) (by omega)⟩
   ·rw [if_neg cq]
    exact key p hp hs rfl ⟨O.irr (L _),O.irr (L _)⟩
  ·rw [if_neg c]
   refine ⟨L _,L _,?_⟩
   dsimp only
   have c':=Bool.eq_false_iff.mpr c
   by_cases d:f (p.getD (a - 1) 0) (p.getD a 0)=true
   ·rw [if_pos d]
    exact ⟨hp,hs,Nat.le_refl _,by show a≤n;omega,hq,he⟩
   ·rw [if_neg d]
    refine (V0 k p (a+1) (q+1) hp (by omega) (by omega) (hs.snoc O h0 hp (by omega) (Bool.eq_false_iff.mpr d)) fun i h1 h2=>?_).mono fun r h=>⟨h.1,h.2.1,by have:=h.2.2.1;omega,h.2.2.2⟩
    show f (p.getD a 0) _=false
    by_cases ci:i=a
    ·subst ci;exact O.irr (L _)
    ·exact O.tr _ _ _ (L _) (L _) (L _) (he i (by omega) (by omega)) c'
def KRun (f:Nat→Nat→Bool) (n:Nat) (r:Nat×Array Nat):Prop:=KPm n r.2∧Xl f r.2 r.1∧1≤r.1∧r.1≤n
theorem Qs {p:Array Nat} {a:Nat} (hp:KPm n p) (h1:1≤a) (ha:a≤n) (hs:XZ f p a):(kas_tail3 a n p).Ok f n (KRun f n):=by
 have hz:a≤p.size:=by rw [hp.size];exact ha
 refine KasT.ok_bind ((Qr O h0 (hp.rev 0 a) _ a h1 fun i j hij hj=>?_).mono fun m h=>⟨hp.rev 0 a,h.2.2.1,by show 1≤m;omega,by show m≤n;omega⟩)
 rw [Xd hz,Xd hz,if_pos ⟨by omega,hj⟩,if_pos ⟨by omega,by omega⟩]
 exact hs _ _ (by omega) (by omega)
theorem Vl {p:Array Nat} {a:Nat} (hp:KPm n p) (ha:a+1≤n) (hs:XZ f p (a+1)):(kas_descPart a n p).Ok f n (KRun f n):=by
 refine KasT.ok_bind ((V0 O h0 (n - (a+1)) p (a+1) 0 hp (by omega) (by omega) hs fun i h1 h2=>?_).mono fun r h=>?_)
 ·have:i=a:=by omega
  subst this
  exact O.irr (hp.lt h0 _)
 ·obtain ⟨r1,r2,r3,r4,r5,r6⟩:=h
  by_cases c:r.2.2>0
  ·rw [if_pos c]
   exact Qs O h0 (r1.rev _ _) (by omega) r4 (r2.turn O h0 r1 r4 r5 r6).1
  ·rw [if_neg c]
   exact Qs O h0 r1 (by omega) r4 r2
theorem Ycv {p:Array Nat} (hp:KPm n p):(kas_count n p).Ok f n (KRun f n):=by
 have L:=hp.lt h0
 refine KasT.ok_bind ((Qr O h0 hp (n - 1) 1 (Nat.le_refl _) fun i j h1 h2=>?_).mono fun m h=>?_)
 ·have:i=j:=by omega
  subst this
  exact O.irr (L _)
 obtain ⟨m1,m2,m3,m4⟩:=h
 by_cases c:(m==n)=true
 ·rw [if_pos c]
  exact ⟨hp,m3,m1,by show m≤n;omega⟩
 rw [if_neg c]
 have cm:m≠n:=by simpa using c
 have m5:=m4 (by omega)
 have hz:m≤p.size:=by rw [hp.size];omega
 by_cases c1:m>1
 ·rw [if_pos c1]
  refine ⟨L _,L _,?_⟩
  dsimp only
  by_cases c2:f (p.getD 0 0) (p.getD (m - 1) 0)=true
  ·rw [if_pos c2]
   exact ⟨hp,m3,m1,by show m≤n;omega⟩
  ·rw [if_neg c2]
   have c2':=Bool.eq_false_iff.mpr c2
   have eq:∀ i j,i<m→j<m→f (p.getD i 0) (p.getD j 0)=false:=fun i j h1 h2 =>
    O.tr _ _ _ (L _) (L _) (L _) (m3 j (m - 1) (by omega) (by omega)) (O.tr _ _ _ (L _) (L _) (L _) c2' (m3 0 i (by omega) h1))
   refine Vl O h0 (hp.rev _ _) (by omega) (XZ.snoc O h0 (hp.rev _ _) m1 (fun i j hij hj=>?_) ?_)
   ·rw [Xd hz,Xd hz,if_pos ⟨by omega,by omega⟩,if_pos ⟨by omega,hj⟩]
    exact eq _ _ (by omega) (by omega)
   ·rw [Xd hz,Xd hz,if_pos ⟨by omega,by omega⟩,if_neg (by omega)]
    exact O.tr _ _ _ (L _) (L _) (L _) (O.asy _ _ (L _) (L _) m5) (eq _ _ (by omega) (by omega))
 ·rw [if_neg c1]
  have:m=1:=by omega
  subst this
  refine Vl O h0 hp (by omega) (XZ.snoc O h0 hp (Nat.le_refl _) (fun i j hij hj=>?_) (O.asy _ _ (L _) (L _) m5))
  have:i=j:=by omega
  subst this
  exact O.irr (L _)
theorem Vq {p:Array Nat} {k:Nat} (hp:KPm n p) (hs:Xl f p k):∀ (u l r:Nat),r - l≤u→l≤r→r≤k→(∀ i,i<l→f (p.getD k 0) (p.getD i 0)=false)→(∀ i,r≤i→i<k→f (p.getD i 0) (p.getD k 0)=false) →
  (kas_place p k u l r).Ok f n fun l=>l≤k∧(∀ i,i<l→f (p.getD k 0) (p.getD i 0)=false)∧∀ i,l≤i→i<k→f (p.getD i 0) (p.getD k 0)=false
 | 0,l,r,hu,hl,hr,h1,h2=>⟨by omega,h1,fun i hi=>h2 i (by omega)⟩
 | u+1,l,r,hu,hl,hr,h1,h2=>by
  have L:=hp.lt h0
  show KasT.Ok f n _ (if l≥r then _ else _)
  by_cases c:l≥r
  ·rw [if_pos c]
   exact ⟨by omega,h1,fun i hi=>h2 i (by omega)⟩
  ·rw [if_neg c]
   refine ⟨L _,L _,?_⟩
   dsimp only
   by_cases d:f (p.getD k 0) (p.getD ((l+r) / 2) 0)=true
   ·rw [if_pos d]
    exact Vq hp hs u l _ (by omega) (by omega) (by omega) h1 fun i hi hk=>O.tr _ _ _ (L _) (L _) (L _) (O.asy _ _ (L _) (L _) d) (hs _ i hi hk)
   ·rw [if_neg d]
    exact Vq hp hs u _ r (by omega) (by omega) hr (fun i hi=>O.tr _ _ _ (L _) (L _) (L _) (hs i ((l+r) / 2) (by omega) (by omega)) (Bool.eq_false_iff.mpr d)) h2
theorem YbN:∀ (u:Nat) (p:Array Nat) (k:Nat),KPm n p→1≤k→k+u=n→Xl f p k→(kas_bin u p k).Ok f n fun p'=>KPm n p'∧Xl f p' n
 | 0,p,k,hp,h1,hk,hs=>by
  have:k=n:=by omega
  subst this
  exact ⟨hp,hs⟩
 | u+1,p,k,hp,h1,hk,hs=>by
  refine KasT.ok_bind ((Vq O h0 hp hs k 0 k (by omega) (by omega) (Nat.le_refl _) (fun i hi=>absurd hi (by omega)) fun i h1 h2=>absurd h1 (by omega)).mono fun l h=>?_)
  obtain ⟨l1,l2,l3⟩:=h
  refine YbN u _ (k+1) (hp.bub _ _) (by omega) (by omega) fun i j hij hj=>?_
  have hz:k<p.size:=by rw [hp.size];omega
  rw [YbM hz l1,YbM hz l1]
  have hx:=hp.lt h0 k
  generalize p.getD k 0=x at l2 l3 hx ⊢
  repeat' split
  all_goals first
   | exact O.irr hx
   | exact l2 _ (by omega)
   | exact l3 _ (by omega) (by omega)
   | exact hs _ _ (by omega) (by omega)
   | (exfalso;omega)
theorem YdD:(kas_sort n).Ok f n fun p=>KPm n p∧Xl f p n:=by
 refine KasT.ok_bind ((Ycv O h0 (p:=List.toArray (List.range n)) (Array.Perm.refl _)).mono fun r h=>?_)
 obtain ⟨r1,r2,r3,r4⟩:=h
 by_cases c:r.1<n
 ·rw [if_pos c,show max r.1 1=r.1 from by omega]
  exact YbN O h0 _ _ _ r1 r3 (by omega) r2
 ·rw [if_neg c]
  have:r.1=n:=by omega
  exact ⟨r1,this▸r2⟩
end sort
end PySem.W
set_option maxHeartbeats 4000000
namespace L2
open PySem PySem.Spec PyProof.Rows PySem.W
section
variable {prog:Program} {w:World} {A:Around} {E:Value→Shared→Prop} {s:Shared} {f:Nat→Nat→Bool} {κ:SortKind} {vs:List Value}
end
theorem VI {h:Heap}:∀ {vs:List Value},(∀ v∈vs,∃ a o xs n x t,v = .ref a∧h.get? a=some o∧o.cls = .type "tuple"∧o.data = .seq xs n∧xs[0]?=some (.int x t))→∃ fs,KatTups h vs fs∧fs.length=vs.length∧∀ v∈fs,∃ x t,v=Value.int x t
 | [],_=>⟨[],.nil,rfl,fun v hv=>by cases hv⟩
 | v::vs,hv=>by
  obtain ⟨fs,h1,h2,h3⟩:=VI (vs:=vs) fun v h=>hv v (.tail _ h)
  obtain ⟨a,o,xs,n,x,t,rfl,e1,e2,e3,e4⟩:=hv v (.head _)
  refine ⟨.int x t::fs,.cons e1 e2 e3 e4 h1,congrArg (·+1) h2,fun v hv=>?_⟩
  rcases List.mem_cons.mp hv with rfl | hv
  ·exact ⟨x,t,rfl⟩
  ·exact h3 v hv
theorem Uw {ys:List V} {its:List Value} (r:Yn ys its):∀ {is:List Nat},(∀ i∈is,i<ys.length)→Yn (is.map fun i=>ys.getD i .non) (is.map fun i=>its.getD i Value.none)
 | [],_ => .nil
 | i::is,h=>by
  refine .cons ?_ (Uw r fun i hi=>h i (.tail _ hi))
  have hi:=h i (.head _)
  obtain ⟨u,e,rv⟩:=r.get (List.getElem?_eq_getElem hi)
  show Yr (ys.getD i .non) (its.getD i Value.none)
  rw [List.getD_eq_getElem?_getD,List.getD_eq_getElem?_getD,e,List.getElem?_eq_getElem hi]
  exact rv
section
variable {X:Cx}
end
end L2
set_option maxHeartbeats 4000000
namespace L2
open PySem PySem.Spec PyProof.Rows
mutual
theorem LeR.order:∀ {d e:PyData} {b:Bool},LeR d e b→KD d→KD e→(b=true↔¬ KLt e d)
 | _,_,_,.int i j,_,_=>by
  rw [decide_eq_true_eq]
  exact ⟨fun h z=>by cases z;omega,fun h=>by rcases Int.lt_or_le j i with c | c;exact (h (.int c)).elim;exact c⟩
 | _,_,_,.tup h,.tup k,.tup l=>by
  rw [h.order k l]
  exact ⟨fun h z=>by cases z with | tup z=>exact h z,fun h z=>h (.tup z)⟩
theorem LeA.order:∀ {ds es:List PyData} {b:Bool},LeA ds es b→KDs ds→KDs es→(b=true↔¬ KLs es ds)
 | _,_,_,.nn,_,_=>⟨(fun _ h=>by cases h),(fun _=>rfl)⟩
 | _,_,_,.nc,_,_=>⟨(fun _ h=>by cases h),fun _=>rfl⟩
 | _,_,_,.cn,_,_=>⟨(fun h=>by cases h),(fun h=>(h .nil).elim)⟩
 | _,_,_,.eq he h,.cons k ks,.cons l ls=>by
  have e:=(k.eqv l).mp he
  subst e
  rw [h.order ks ls]
  refine ⟨fun h z=>?_,fun h z=>h (.there z)⟩
  cases z with
  | here z=>exact z.irr rfl
  | there z=>exact h z
 | _,_,_,.ne he h,.cons k ks,.cons l ls=>by
  have e:_≠_:=fun z=>Bool.eq_false_iff.mp he ((k.eqv l).mpr z)
  rw [h.order k l]
  refine ⟨fun h z=>?_,fun h z=>h (.here z)⟩
  cases z with
  | here z=>exact h z
  | there z=>exact e rfl
end
mutual
theorem Sim.le:∀ {d e:PyData},Sim d e→KD d→KD e→∃ b,LeR d e b
 | _,_,.int i j,_,_=>⟨_,.int i j⟩
 | _,_,.tup h,.tup k,.tup l=>by
  obtain ⟨b,hb⟩:=h.le k l
  exact ⟨b,.tup hb⟩
theorem Sims.le:∀ {ds es:List PyData},Sims ds es→KDs ds→KDs es→∃ b,LeA ds es b
 | _,[],.nil,_,_=>⟨_,.nn⟩
 | _,_::_,.nil,_,_=>⟨_,.nc⟩
 | [],_,.end_,_,_=>⟨_,.nn⟩
 | _::_,_,.end_,_,_=>⟨_,.cn⟩
 | _,_,.cons h hs,.cons k ks,.cons l ls=>by
  rcases Uu k l with ⟨a,c⟩ | ⟨a,c⟩
  ·obtain ⟨b,hb⟩:=(hs c).le ks ls
   exact ⟨b,.eq a hb⟩
  ·obtain ⟨b,hb⟩:=h.le k l
   exact ⟨b,.ne a hb⟩
end
theorem Sim.answerLe {d e:PyData} (h:Sim d e) (hd:KD d) (he:KD e):∃ b,LeR d e b∧(b=true↔¬ KLt e d):=by
 obtain ⟨b,hb⟩:=h.le hd he
 exact ⟨b,hb,hb.order hd he⟩
section
variable {X:Cx}
end
section
variable {src:List (Option Nat)} {te:TE} {σ:St} {Q:VK}
theorem YdE {K:PySem.W.Frag} {G1 G2:Hp→List V→Prop} {xs ys:List V} {H1:Hp} {D:Addr} (zs:List V) (g1:∀ H',Yb H1 H'→G1 H' xs) (g2:∀ H',Yb H1 H'→G2 H' ys) (hD:H1 D=none) (hl:zs.length=min xs.length ys.length) (hlen:xs.length≤100000)
  (step:∀ (i:Nat) x y z H',xs[i]?=some x→ys[i]?=some y→zs[i]?=some z→Yb H1 H'→∀ R:VK,(∀ H'',Yb H' H''→R z H'')→te (some x::some y::Yw src σ) H' R)
  (fin:∀ H',Yb H1 H'→H' D=some (.lst zs)→Q (.ref D) H'):LC (none::none::src) (Itz G1 G2) (XR K 2 (YU (Ys 0) (YU (Ys 1) XQ))) Xs te σ H1 Q D:=by
 have h6:100000<sizeLine:=by decide
 refine Ybw (J:=Itz G1 G2) (n:=min xs.length ys.length) (P:=fun H'=>Yb H1 H') (fun i H' sm hi=>⟨xs,ys,xs[i]'(by omega),ys[i]'(by omega),g1 _ sm,g2 _ sm,List.getElem?_eq_getElem _,List.getElem?_eq_getElem (by omega)⟩) (fun H' sm=>⟨xs,ys,g1 _ sm,g2 _ sm,by omega⟩)
  (fun i ws σ' H'=>ws=zs.take i∧(∃ o o',σ'=o::o'::Yw src σ)∧Yb H1 H'∧H' D=some (.lst ws)) ⟨by simp,⟨none,none,rfl⟩,.upd_new hD _,Yc⟩ (fun i ws σ' H' p=>⟨p.2.2.1,p.2.2.2⟩) (Vi K 0 1) ?_ ?_
 ·rintro i ws σ' H' hi ⟨rfl,⟨o,o',rfl⟩,sm,hd⟩ x H3 ⟨T,rfl,hT,heq⟩
  have hx:xs[i]?=some (xs[i]'(by omega)):=List.getElem?_eq_getElem _
  have hy:ys[i]?=some (ys[i]'(by omega)):=List.getElem?_eq_getElem _
  have hz:zs[i]?=some (zs[i]'(by omega)):=List.getElem?_eq_getElem _
  have e3:=heq xs ys _ _ (g1 _ sm) (g2 _ sm) hx hy
  subst e3
  have s3:Yb H' (upd H' T (.tup [xs[i]'(by omega),ys[i]'(by omega)])) := .upd_new hT _
  refine ⟨T,_,rfl,SqT.of Yc,rfl,_,_,rfl,_,_,rfl,rfl,?_⟩
  show te (some (xs[i]'(by omega))::some (ys[i]'(by omega))::Yw src σ) _ _
  refine step i _ _ _ _ hx hy hz (sm.trans s3) _ fun H'' s2=>⟨s2 _ _ (s3 _ _ hd),?_,(Y5 hz).symm,⟨_,_,rfl⟩,.upd_over hD ((sm.trans s3).trans s2) _,Yc⟩
  rw [List.length_take];omega
 ·rintro ws σ' H' ⟨rfl,_,sm,hd⟩
  rw [← hl,List.take_length] at hd
  exact fin H' sm hd
theorem Ux {K:PySem.W.Frag} {H:Hp} {ta:TA} {xs ys:List V} (zs:List V) (ha:∀ R:List V→Hp→Prop,(∀ a b H1,Yb H H1→SqL K H1 a xs→SqL K H1 b ys→R [.ref a,.ref b] H1)→ta σ H R) (hl:zs.length=min xs.length ys.length) (hlen:xs.length≤100000)
  (step:∀ (i:Nat) x y z H',xs[i]?=some x→ys[i]?=some y→zs[i]?=some z→Yb H H'→∀ R:VK,(∀ H'',Yb H' H''→R z H'')→te (some x::some y::Yw src σ) H' R)
  (fin:∀ D H',H D=none→Yb H H'→H' D=some (.lst zs)→Q (.ref D) H'):tLC (none::none::src) (YaM K ta) (XR K 2 (YU (Ys 0) (YU (Ys 1) XQ))) Xs te σ H Q :=
 ha _ fun a b H1 s1 h1 h2=>⟨a,b,xs,ys,rfl,h1,h2,fun D hD=>YdE zs (fun H' sm=>sm.seq h1) (fun H' sm=>sm.seq h2) hD hl hlen (fun i x y z H' e1 e2 e3 sm=>step i x y z H' e1 e2 e3 (s1.trans sm)) fun H' sm=>fin D H' (s1.free hD) (s1.trans sm)⟩
end
end L2
set_option maxHeartbeats 4000000
namespace L2
open PySem PySem.Spec PyProof.Rows
def opG:Bool→CmpOp
 | true => .Gt
 | false => .Lt
mutual
inductive CoR (gt:Bool):PyData→PyData→Bool→Prop
 | int (i j:Int):CoR gt (.int i) (.int j) (if gt then decide (i>j) else decide (i<j))
 | tup {ds es:List PyData} {b:Bool}:CoA gt ds es b→CoR gt (.tuple ds) (.tuple es) b
 | lst {ds es:List PyData} {b:Bool}:CoA gt ds es b→CoR gt (.list ds) (.list es) b
inductive CoA (gt:Bool):List PyData→List PyData→Bool→Prop
 | nn:CoA gt [] [] false
 | nc {e:PyData} {es:List PyData}:CoA gt [] (e::es) (!gt)
 | cn {d:PyData} {ds:List PyData}:CoA gt (d::ds) [] gt
 | eq {d e:PyData} {ds es:List PyData} {b:Bool}:PyData.eqv d e=true→CoA gt ds es b→CoA gt (d::ds) (e::es) b
 | ne {d e:PyData} {ds es:List PyData} {b:Bool}:PyData.eqv d e=false→CoR gt d e b→CoA gt (d::ds) (e::es) b
end
def CoAt (op:CmpOp) (A:Around) (s:Shared) (u v:Value) (b:Bool):Prop:=∀ (prog:Program) (w:World) (E:Value→Shared→Prop) (Q:Value→Shared→Prop),Q (.bool b) s→wpAny (model prog w) A (richCompare op u v) Q E s
section
open PySem.SeqAt
open PySem.AutoSeq1 (wpAny_loadPart')
open PySem.MeetsSeq PySem.MeetsSeq2 PySem.MeetsSeq3
inductive TwoO (gt:Bool) (A:Around) (s:Shared):List Value→List Value→Bool→Prop
 | nn:TwoO gt A s [] [] false
 | nc {v:Value} {vs:List Value}:TwoO gt A s [] (v::vs) (!gt)
 | cn {v:Value} {vs:List Value}:TwoO gt A s (v::vs) [] gt
 | eq {u v:Value} {us vs:List Value} {b:Bool}:EqAt A s u v true→TwoO gt A s us vs b→TwoO gt A s (u::us) (v::vs) b
 | ne {u v:Value} {us vs:List Value} {b:Bool}:EqAt A s u v false→CoAt (opG gt) A s u v b→TwoO gt A s (u::us) (v::vs) b
theorem YbO (l b:Addr) (items items2:Array Value) (n n2:Nat) (dd dd2:Option Addr) (sl sl2:Array (Option Value)) (r:Bool) :
  Meets (Builtin.«tuple.__lt__» ⟨[.ref l,.ref b],[]⟩)
   (fun A R s=>s.heap.get? l=some { cls := .type "tuple",dict:=dd,data := .seq items n,slots:=sl }∧s.heap.get? b=some { cls := .type "tuple",dict:=dd2,data := .seq items2 n2,slots:=sl2 } ∧
    TwoO false A.in1 s items.toList items2.toList r∧R (.ok (.ret (.bool r))) s) :=
 .of_wp fun prog w A R s h=>by
  obtain ⟨hp,g,d,tk,os⟩:=s;obtain ⟨hl,hb,h2,h⟩:=h
  have f2:=AutoSeq1.sub_tuple_tuple
  wp_walk using wpAny_loadPart' hl,wpAny_loadPart' hb,wpAny_forIn_list _ (fun YV b s'=>b.1=none∧s'=⟨hp,g,d,tk,os⟩∧∃ (vs ws:List Value),YV=vs.zip ws ∧
   vs.length+items2.size=ws.length+items.size∧TwoO false A.in1 ⟨hp,g,d,tk,os⟩ vs ws r) _
  case turn =>
   rintro ⟨y,x⟩ YV b s' ⟨hb',rfl,vs,ws,hz,hlen,ht⟩
   cases ht with
   | nn=>cases hz
   | nc=>cases hz
   | cn=>cases hz
   | eq he ht' =>
    rw [List.zip_cons_cons] at hz
    injection hz with hyx hrest
    injection hyx with hy hx
    subst hy hx
    simp only [List.length_cons] at hlen
    refine wpAny_bind (he prog w _ _ ?_)
    wp_walk
    exact ⟨rfl,rfl,_,_,hrest,by omega,ht'⟩
   | ne he hlt =>
    rw [List.zip_cons_cons] at hz
    injection hz with hyx hrest
    injection hyx with hy hx
    subst hy hx
    refine wpAny_bind (he prog w _ _ ?_)
    have hri:=hlt prog w
    unfold opG at hri
    wp_walk using hri
    exact ⟨_,rfl,by simpa using h⟩
  case fin =>
   rintro ⟨b1,b2⟩ s' ⟨hb',rfl,vs,ws,hz,hlen,ht⟩
   simp only at hb'
   subst hb'
   have hv:r=decide (items.size<items2.size):=by
    cases ht with
    | nn=>simp only [List.length_nil] at hlen;exact (decide_eq_false (by omega)).symm
    | nc=>simp only [List.length_nil,List.length_cons] at hlen;first | exact (decide_eq_true (by omega)).symm | exact (decide_eq_false (by omega)).symm
    | cn=>simp only [List.length_nil,List.length_cons] at hlen;first | exact (decide_eq_true (by omega)).symm | exact (decide_eq_false (by omega)).symm
    | eq _ _=>rw [List.zip_cons_cons] at hz;cases hz
    | ne _ _=>rw [List.zip_cons_cons] at hz;cases hz
   rw [hv] at h
   wp_walk
   exact ⟨_,rfl,by simpa [Builtin.Tuple.tupleCompareSizes] using h⟩
  case h =>
   exact ⟨rfl,rfl,items.toList,items2.toList,rfl,by simp;omega,h2⟩
theorem Ycw (l b:Addr) (items items2:Array Value) (n n2:Nat) (dd dd2:Option Addr) (sl sl2:Array (Option Value)) (r:Bool) (k:Nat) :
  ∀ i:Nat,items.size - i=k→i≤items.size→i≤items2.size→Meets (Builtin.«list.__eq__.loop» ⟨[.ref l,.ref b,rawInt i,rawInt 0],[]⟩)
   (fun A R s=>s.heap.get? l=some { cls := .type "list",dict:=dd,data := .seq items n,slots:=sl }∧s.heap.get? b=some { cls := .type "list",dict:=dd2,data := .seq items2 n2,slots:=sl2 } ∧
    TwoO false A.in1 s (items.toList.drop i) (items2.toList.drop i) r∧R (.ok (.ret (.bool r))) s):=by
 have sizes:∀ i:Nat,(items[i]?=none∨items2[i]?=none)→i≤items.size→i≤items2.size→∀ A s,TwoO false A s (items.toList.drop i) (items2.toList.drop i) r→r=decide (items.size<items2.size):=fun i h h1 h2 A s ht=>by
  have e1:(items.toList.drop i).length=items.size - i:=by simp
  have e2:(items2.toList.drop i).length=items2.size - i:=by simp
  have hor:items.size≤i∨items2.size≤i:=h.imp (fun h=>by simpa using h) fun h=>by simpa using h
  generalize items.toList.drop i=us at ht e1
  generalize items2.toList.drop i=ws at ht e2
  cases ht with
  | nn=>simp only [List.length_nil] at e1 e2;exact (decide_eq_false (by omega)).symm
  | nc=>simp only [List.length_nil,List.length_cons] at e1 e2;first | exact (decide_eq_true (by omega)).symm | exact (decide_eq_false (by omega)).symm
  | cn=>simp only [List.length_nil,List.length_cons] at e1 e2;first | exact (decide_eq_true (by omega)).symm | exact (decide_eq_false (by omega)).symm
  | eq _ _=>simp only [List.length_cons] at e1 e2;omega
  | ne _ _=>simp only [List.length_cons] at e1 e2;omega
 induction k with
 | zero =>
  intro i hk h1 h2' prog w A R s h
  obtain ⟨hp,g,d,tk,os⟩:=s;obtain ⟨hl,hb,ht,h⟩:=h
  wp_walk using wpAny_loadPart' hl,wpAny_loadPart' hb
  have hi1:items[((i:Nat):Int).toNat]?=none:=by simp;omega
  rw [sizes i (.inl (by simpa using hi1)) h1 h2' _ _ ht] at h
  rw [hi1]
  wp_walk using wpAny_loadPart' hl,wpAny_loadPart' hb
  exact h
 | succ k ih =>
  intro i hk h1 h2' prog w A R s h
  obtain ⟨hp,g,d,tk,os⟩:=s;obtain ⟨hl,hb,ht,h⟩:=h
  wp_walk using wpAny_loadPart' hl,wpAny_loadPart' hb
  have hlt:i<items.size:=by omega
  have hi1:items[((i:Nat):Int).toNat]?=some items[i]:=by simp [hlt]
  rw [hi1]
  by_cases hlt2:i<items2.size
  ·have hi2:items2[((i:Nat):Int).toNat]?=some items2[i]:=by simp [hlt2]
   have hc:((i:Int)+1)=((i+1:Nat):Int):=by push_cast;rfl
   have d1:items.toList.drop i=items[i]::items.toList.drop (i+1):=by rw [List.drop_eq_getElem_cons (by simpa using hlt)];simp
   have d2:items2.toList.drop i=items2[i]::items2.toList.drop (i+1):=by rw [List.drop_eq_getElem_cons (by simpa using hlt2)];simp
   rw [d1,d2] at ht
   rw [hi2]
   cases ht with
   | eq he ht' =>
    refine wpAny_bind (he prog w _ _ ?_)
    wp_walk
    rw [hc]
    exact ⟨plainId_quiet plain_eq_loop _,codeAny_builtin entry_eq_loop (by
     rw [Around.under_plainId plain_eq_loop _]
     exact ih (i+1) (by omega) (by omega) (by omega) prog w A R _ ⟨hl,hb,ht',by simpa using h⟩)⟩
   | ne he hlt' =>
    refine wpAny_bind (he prog w _ _ ?_)
    have hri:=hlt' prog w
    unfold opG at hri
    wp_walk using wpAny_loadPart' hl,wpAny_loadPart' hb
    rw [hi1,hi2]
    wp_walk using hri
    simpa using h
  ·have hi2:items2[((i:Nat):Int).toNat]?=none:=by simp;omega
   rw [sizes i (.inr (by simpa using hi2)) h1 h2' _ _ ht] at h
   rw [hi2]
   wp_walk using wpAny_loadPart' hl,wpAny_loadPart' hb
   exact h
theorem Ycx (l b:Addr) (items items2:Array Value) (n n2:Nat) (dd dd2:Option Addr) (sl sl2:Array (Option Value)) (r:Bool) :
  Meets (Builtin.«list.__lt__» ⟨[.ref l,.ref b],[]⟩)
   (fun A R s=>s.heap.get? l=some { cls := .type "list",dict:=dd,data := .seq items n,slots:=sl }∧s.heap.get? b=some { cls := .type "list",dict:=dd2,data := .seq items2 n2,slots:=sl2 } ∧
    TwoO false A.in1 s items.toList items2.toList r∧R (.ok (.ret (.bool r))) s):=by
 intro prog w A R s h
 obtain ⟨hp,g,d,tk,os⟩:=s;obtain ⟨hl,hb,he,h⟩:=h
 have f3:=AutoSeq1.sub_list_list
 wp_walk using wpAny_loadPart' hl,wpAny_loadPart' hb
 exact ⟨plainId_quiet plain_eq_loop _,codeAny_builtin entry_eq_loop (by
  rw [Around.under_plainId plain_eq_loop _]
  exact Ycw l b items items2 n n2 dd dd2 sl sl2 r _ 0 rfl (Nat.zero_le _) (Nat.zero_le _) prog w A R _ ⟨hl,hb,he,by simpa using h⟩)⟩
theorem YbP (l b:Addr) (items items2:Array Value) (n n2:Nat) (dd dd2:Option Addr) (sl sl2:Array (Option Value)) (r:Bool) :
  Meets (Builtin.«tuple.__gt__» ⟨[.ref l,.ref b],[]⟩)
   (fun A R s=>s.heap.get? l=some { cls := .type "tuple",dict:=dd,data := .seq items n,slots:=sl }∧s.heap.get? b=some { cls := .type "tuple",dict:=dd2,data := .seq items2 n2,slots:=sl2 } ∧
    TwoO true A.in1 s items.toList items2.toList r∧R (.ok (.ret (.bool r))) s) :=
 .of_wp fun prog w A R s h=>by
  obtain ⟨hp,g,d,tk,os⟩:=s;obtain ⟨hl,hb,h2,h⟩:=h
  have f2:=AutoSeq1.sub_tuple_tuple
  wp_walk using wpAny_loadPart' hl,wpAny_loadPart' hb,wpAny_forIn_list _ (fun YV b s'=>b.1=none∧s'=⟨hp,g,d,tk,os⟩∧∃ (vs ws:List Value),YV=vs.zip ws ∧
   vs.length+items2.size=ws.length+items.size∧TwoO true A.in1 ⟨hp,g,d,tk,os⟩ vs ws r) _
  case turn =>
   rintro ⟨y,x⟩ YV b s' ⟨hb',rfl,vs,ws,hz,hlen,ht⟩
   cases ht with
   | nn=>cases hz
   | nc=>cases hz
   | cn=>cases hz
   | eq he ht' =>
    rw [List.zip_cons_cons] at hz
    injection hz with hyx hrest
    injection hyx with hy hx
    subst hy hx
    simp only [List.length_cons] at hlen
    refine wpAny_bind (he prog w _ _ ?_)
    wp_walk
    exact ⟨rfl,rfl,_,_,hrest,by omega,ht'⟩
   | ne he hlt =>
    rw [List.zip_cons_cons] at hz
    injection hz with hyx hrest
    injection hyx with hy hx
    subst hy hx
    refine wpAny_bind (he prog w _ _ ?_)
    have hri:=hlt prog w
    unfold opG at hri
    wp_walk using hri
    exact ⟨_,rfl,by simpa using h⟩
  case fin =>
   rintro ⟨b1,b2⟩ s' ⟨hb',rfl,vs,ws,hz,hlen,ht⟩
   simp only at hb'
   subst hb'
   have hv:r=decide (items.size>items2.size):=by
    cases ht with
    | nn=>simp only [List.length_nil] at hlen;exact (decide_eq_false (by omega)).symm
    | nc=>simp only [List.length_nil,List.length_cons] at hlen;first | exact (decide_eq_true (by omega)).symm | exact (decide_eq_false (by omega)).symm
    | cn=>simp only [List.length_nil,List.length_cons] at hlen;first | exact (decide_eq_true (by omega)).symm | exact (decide_eq_false (by omega)).symm
    | eq _ _=>rw [List.zip_cons_cons] at hz;cases hz
    | ne _ _=>rw [List.zip_cons_cons] at hz;cases hz
   rw [hv] at h
   wp_walk
   exact ⟨_,rfl,by simpa [Builtin.Tuple.tupleCompareSizes] using h⟩
  case h =>
   exact ⟨rfl,rfl,items.toList,items2.toList,rfl,by simp;omega,h2⟩
theorem Ycy (l b:Addr) (items items2:Array Value) (n n2:Nat) (dd dd2:Option Addr) (sl sl2:Array (Option Value)) (r:Bool) (k:Nat) :
  ∀ i:Nat,items.size - i=k→i≤items.size→i≤items2.size→Meets (Builtin.«list.__eq__.loop» ⟨[.ref l,.ref b,rawInt i,rawInt 4],[]⟩)
   (fun A R s=>s.heap.get? l=some { cls := .type "list",dict:=dd,data := .seq items n,slots:=sl }∧s.heap.get? b=some { cls := .type "list",dict:=dd2,data := .seq items2 n2,slots:=sl2 } ∧
    TwoO true A.in1 s (items.toList.drop i) (items2.toList.drop i) r∧R (.ok (.ret (.bool r))) s):=by
 have sizes:∀ i:Nat,(items[i]?=none∨items2[i]?=none)→i≤items.size→i≤items2.size→∀ A s,TwoO true A s (items.toList.drop i) (items2.toList.drop i) r→r=decide (items.size>items2.size):=fun i h h1 h2 A s ht=>by
  have e1:(items.toList.drop i).length=items.size - i:=by simp
  have e2:(items2.toList.drop i).length=items2.size - i:=by simp
  have hor:items.size≤i∨items2.size≤i:=h.imp (fun h=>by simpa using h) fun h=>by simpa using h
  generalize items.toList.drop i=us at ht e1
  generalize items2.toList.drop i=ws at ht e2
  cases ht with
  | nn=>simp only [List.length_nil] at e1 e2;exact (decide_eq_false (by omega)).symm
  | nc=>simp only [List.length_nil,List.length_cons] at e1 e2;first | exact (decide_eq_true (by omega)).symm | exact (decide_eq_false (by omega)).symm
  | cn=>simp only [List.length_nil,List.length_cons] at e1 e2;first | exact (decide_eq_true (by omega)).symm | exact (decide_eq_false (by omega)).symm
  | eq _ _=>simp only [List.length_cons] at e1 e2;omega
  | ne _ _=>simp only [List.length_cons] at e1 e2;omega
 induction k with
 | zero =>
  intro i hk h1 h2' prog w A R s h
  obtain ⟨hp,g,d,tk,os⟩:=s;obtain ⟨hl,hb,ht,h⟩:=h
  wp_walk using wpAny_loadPart' hl,wpAny_loadPart' hb
  have hi1:items[((i:Nat):Int).toNat]?=none:=by simp;omega
  rw [sizes i (.inl (by simpa using hi1)) h1 h2' _ _ ht] at h
  rw [hi1]
  wp_walk using wpAny_loadPart' hl,wpAny_loadPart' hb
  exact h
 | succ k ih =>
  intro i hk h1 h2' prog w A R s h
  obtain ⟨hp,g,d,tk,os⟩:=s;obtain ⟨hl,hb,ht,h⟩:=h
  wp_walk using wpAny_loadPart' hl,wpAny_loadPart' hb
  have hlt:i<items.size:=by omega
  have hi1:items[((i:Nat):Int).toNat]?=some items[i]:=by simp [hlt]
  rw [hi1]
  by_cases hlt2:i<items2.size
  ·have hi2:items2[((i:Nat):Int).toNat]?=some items2[i]:=by simp [hlt2]
   have hc:((i:Int)+1)=((i+1:Nat):Int):=by push_cast;rfl
   have d1:items.toList.drop i=items[i]::items.toList.drop (i+1):=by rw [List.drop_eq_getElem_cons (by simpa using hlt)];simp
   have d2:items2.toList.drop i=items2[i]::items2.toList.drop (i+1):=by rw [List.drop_eq_getElem_cons (by simpa using hlt2)];simp
   rw [d1,d2] at ht
   rw [hi2]
   cases ht with
   | eq he ht' =>
    refine wpAny_bind (he prog w _ _ ?_)
    wp_walk
    rw [hc]
    exact ⟨plainId_quiet plain_eq_loop _,codeAny_builtin entry_eq_loop (by
     rw [Around.under_plainId plain_eq_loop _]
     exact ih (i+1) (by omega) (by omega) (by omega) prog w A R _ ⟨hl,hb,ht',by simpa using h⟩)⟩
   | ne he hlt' =>
    refine wpAny_bind (he prog w _ _ ?_)
    have hri:=hlt' prog w
    unfold opG at hri
    wp_walk using wpAny_loadPart' hl,wpAny_loadPart' hb
    rw [hi1,hi2]
    wp_walk using hri
    simpa using h
  ·have hi2:items2[((i:Nat):Int).toNat]?=none:=by simp;omega
   rw [sizes i (.inr (by simpa using hi2)) h1 h2' _ _ ht] at h
   rw [hi2]
   wp_walk using wpAny_loadPart' hl,wpAny_loadPart' hb
   exact h
theorem Ycz (l b:Addr) (items items2:Array Value) (n n2:Nat) (dd dd2:Option Addr) (sl sl2:Array (Option Value)) (r:Bool) :
  Meets (Builtin.«list.__gt__» ⟨[.ref l,.ref b],[]⟩)
   (fun A R s=>s.heap.get? l=some { cls := .type "list",dict:=dd,data := .seq items n,slots:=sl }∧s.heap.get? b=some { cls := .type "list",dict:=dd2,data := .seq items2 n2,slots:=sl2 } ∧
    TwoO true A.in1 s items.toList items2.toList r∧R (.ok (.ret (.bool r))) s):=by
 intro prog w A R s h
 obtain ⟨hp,g,d,tk,os⟩:=s;obtain ⟨hl,hb,he,h⟩:=h
 have f3:=AutoSeq1.sub_list_list
 wp_walk using wpAny_loadPart' hl,wpAny_loadPart' hb
 exact ⟨plainId_quiet plain_eq_loop _,codeAny_builtin entry_eq_loop (by
  rw [Around.under_plainId plain_eq_loop _]
  exact Ycy l b items items2 n n2 dd dd2 sl sl2 r _ 0 rfl (Nat.zero_le _) (Nat.zero_le _) prog w A R _ ⟨hl,hb,he,by simpa using h⟩)⟩
end
end L2
set_option maxHeartbeats 4000000
namespace L2
open PySem PySem.Spec PyProof.Rows
section
open PySem.SeqAt
open PySem.MeetsSeq PySem.MeetsSeq2 PySem.MeetsSeq3
theorem YcA (A:Around) (s:Shared) (a:Int) (t:Tok) (c:Int) (u:Tok) (prog:Program) (w:World) (E:Value→Shared→Prop) (Q:Value→Shared→Prop) (h:Q (.bool (decide (a>c))) s) :
  wpAny (model prog w) A (richCompare .Gt (.int a t) (.int c u)) Q E s :=
 (PyProof.Rows.gt_int h:wpAny (model prog w) A (compareOp .Gt (.int a t) (.int c u)) Q E s)
mutual
theorem Wh {gt:Bool}:∀ {d e:PyData} {b:Bool},CoR gt d e b→∀ (A:Around) (s:Shared) (u v:Value) (as bs:List Addr),Reads s.heap u d as→Reads s.heap v e bs→d.canLay0=true→e.canLay0=true→A.units+d.depth+1<cLine→CoAt (opG gt) A s u v b
 | _,_,_,.int i j,A,s,u,v,as,bs,r1,r2,_,_,_=>by
  cases r1
  cases r2
  cases gt with
  | false=>exact fun prog w E Q h=>HT.rcLt_int A s i _ j _ prog w E Q h
  | true=>exact fun prog w E Q h=>YcA A s i _ j _ prog w E Q h
 | _,_,b,.tup (ds:=ds) (es:=es) hA,A,s,u,v,as,bs,r1,r2,l1,l2,hu=>by
  rw [PyData.canLay0] at l1 l2
  rw [PyData.depth] at hu
  cases r1 with
  | @tuple a1 o1 vs1 n1 _ _ h1 c1 d1 q1 =>
  cases r2 with
  | @tuple a2 o2 vs2 n2 _ _ h2 c2 d2 q2 =>
  have ht:=WN hA A.in1 s _ _ _ _ q1 q2 l1 l2 (show A.units+1+_+1<cLine by omega)
  obtain ⟨cls,dd,data,sl⟩:=o1
  obtain ⟨cls2,dd2,data2,sl2⟩:=o2
  have c1':cls=Value.type "tuple":=c1
  have c2':cls2=Value.type "tuple":=c2
  have d1':data=Data.seq vs1 n1:=d1
  have d2':data2=Data.seq vs2 n2:=d2
  subst c1' c2' d1' d2'
  cases gt with
  | false =>
   exact fun prog w E Q h=>richCompare_meets_room (op := .Lt) ⟨_,h1,rfl⟩ ⟨_,h2,rfl⟩ PySem.F.slot_tuple_lt PySem.F.entry_tuple_lt (PySem.F.args_tuple_lt_2 _ _) (YbO _ _ _ _ n1 n2 dd dd2 sl sl2 b)
    ⟨h1,h2,ht,show Value.bool b≠Value.notImplemented∧Q (.bool b) s from ⟨(fun x=>nomatch x),h⟩⟩ (by omega)
  | true =>
   exact fun prog w E Q h=>richCompare_meets_room (op := .Gt) ⟨_,h1,rfl⟩ ⟨_,h2,rfl⟩ PySem.F.slot_tuple_gt PySem.F.entry_tuple_gt (PySem.F.args_tuple_gt_2 _ _) (YbP _ _ _ _ n1 n2 dd dd2 sl sl2 b)
    ⟨h1,h2,ht,show Value.bool b≠Value.notImplemented∧Q (.bool b) s from ⟨(fun x=>nomatch x),h⟩⟩ (by omega)
 | _,_,b,.lst (ds:=ds) (es:=es) hA,A,s,u,v,as,bs,r1,r2,l1,l2,hu=>by
  rw [PyData.canLay0] at l1 l2
  rw [PyData.depth] at hu
  cases r1 with
  | @list a1 o1 vs1 n1 _ _ h1 c1 d1 q1 =>
  cases r2 with
  | @list a2 o2 vs2 n2 _ _ h2 c2 d2 q2 =>
  have ht:=WN hA A.in1 s _ _ _ _ q1 q2 l1 l2 (show A.units+1+_+1<cLine by omega)
  obtain ⟨cls,dd,data,sl⟩:=o1
  obtain ⟨cls2,dd2,data2,sl2⟩:=o2
  have c1':cls=Value.type "list":=c1
  have c2':cls2=Value.type "list":=c2
  have d1':data=Data.seq vs1 n1:=d1
  have d2':data2=Data.seq vs2 n2:=d2
  subst c1' c2' d1' d2'
  cases gt with
  | false =>
   exact fun prog w E Q h=>richCompare_meets_room (op := .Lt) ⟨_,h1,rfl⟩ ⟨_,h2,rfl⟩ PySem.F.slot_list_lt PySem.F.entry_list_lt (PySem.F.args_list_lt_2 _ _) (Ycx _ _ _ _ n1 n2 dd dd2 sl sl2 b)
    ⟨h1,h2,ht,show Value.bool b≠Value.notImplemented∧Q (.bool b) s from ⟨(fun x=>nomatch x),h⟩⟩ (by omega)
  | true =>
   exact fun prog w E Q h=>richCompare_meets_room (op := .Gt) ⟨_,h1,rfl⟩ ⟨_,h2,rfl⟩ PySem.F.slot_list_gt PySem.F.entry_list_gt (PySem.F.args_list_gt_2 _ _) (Ycz _ _ _ _ n1 n2 dd dd2 sl sl2 b)
    ⟨h1,h2,ht,show Value.bool b≠Value.notImplemented∧Q (.bool b) s from ⟨(fun x=>nomatch x),h⟩⟩ (by omega)
theorem WN {gt:Bool}:∀ {ds es:List PyData} {b:Bool},CoA gt ds es b→∀ (A:Around) (s:Shared) (us vs:List Value) (as bs:List Addr),ReadsAll s.heap us ds as→ReadsAll s.heap vs es bs→PyData.canLayAll0 ds=true→PyData.canLayAll0 es=true→A.units+PyData.depthAll ds+1<cLine→TwoO gt A s us vs b
 | _,_,_,.nn,A,s,us,vs,as,bs,r1,r2,_,_,_=>by cases r1;cases r2;exact .nn
 | _,_,_,.nc,A,s,us,vs,as,bs,r1,r2,_,_,_=>by cases r1;cases r2;exact .nc
 | _,_,_,.cn,A,s,us,vs,as,bs,r1,r2,_,_,_=>by cases r1;cases r2;exact .cn
 | _,_,b,.eq (d:=d) (e:=e) he hA,A,s,us,vs,as,bs,r1,r2,l1,l2,hu=>by
  rw [PyData.canLayAll0,Bool.and_eq_true] at l1 l2
  rw [PyData.depthAll] at hu
  cases r1 with
  | cons q1 qs1 =>
  cases r2 with
  | cons q2 qs2 =>
  have h:=SeqAt.eqAt_reads d e A s _ _ _ _ q1 q2 l1.1 l2.1 (by omega)
  rw [he] at h
  exact .eq h (WN hA A s _ _ _ _ qs1 qs2 l1.2 l2.2 (by omega))
 | _,_,b,.ne (d:=d) (e:=e) he hR,A,s,us,vs,as,bs,r1,r2,l1,l2,hu=>by
  rw [PyData.canLayAll0,Bool.and_eq_true] at l1 l2
  rw [PyData.depthAll] at hu
  cases r1 with
  | cons q1 qs1 =>
  cases r2 with
  | cons q2 qs2 =>
  have h:=SeqAt.eqAt_reads d e A s _ _ _ _ q1 q2 l1.1 l2.1 (by omega)
  rw [he] at h
  exact .ne h (Wh hR A s _ _ _ _ q1 q2 l1.1 l2.1 (by omega))
end
variable {X:Cx}
theorem Yef (hu:X.A.units+66<cLine) {K:PySem.W.Frag} (hK:X.K=K:=by rfl):OpR X (compareOp .Lt) (fun x y H Q=>∃ d e b,Den K H x d∧Den K H y e∧CoR false d e b∧d.depth≤64∧Q (.bl b) H):=by
 subst hK
 intro pins s σ H x y v u Q I rx ry h
 obtain ⟨d,e,b,hd,he,hc,dp,q⟩:=h
 obtain ⟨as,ra⟩:=hd.reads I rx
 obtain ⟨bs,rb⟩:=he.reads I ry
 exact Wh hc _ _ _ _ _ _ ra rb hd.lay he.lay (by omega) _ _ _ _ ⟨.bl _,H,I,rfl,q⟩
theorem Yeg (hu:X.A.units+66<cLine) {K:PySem.W.Frag} (hK:X.K=K:=by rfl):OpR X (compareOp .Gt) (fun x y H Q=>∃ d e b,Den K H x d∧Den K H y e∧CoR true d e b∧d.depth≤64∧Q (.bl b) H):=by
 subst hK
 intro pins s σ H x y v u Q I rx ry h
 obtain ⟨d,e,b,hd,he,hc,dp,q⟩:=h
 obtain ⟨as,ra⟩:=hd.reads I rx
 obtain ⟨bs,rb⟩:=he.reads I ry
 exact Wh hc _ _ _ _ _ _ ra rb hd.lay he.lay (by omega) _ _ _ _ ⟨.bl _,H,I,rfl,q⟩
end
mutual
inductive GD:PyData→Prop
 | int (i:Int):GD (.int i)
 | tup {ds:List PyData}:GDs ds→GD (.tuple ds)
 | lst {ds:List PyData}:GDs ds→GD (.list ds)
inductive GDs:List PyData→Prop
 | nil:GDs []
 | cons {d:PyData} {ds:List PyData}:GD d→GDs ds→GDs (d::ds)
end
mutual
theorem GD.eqv:∀ {d e:PyData},GD d→GD e→(PyData.eqv d e=true↔d=e)
 | _,_,.int i,.int j=>by rw [PyData.eqv];simp
 | _,_,.int i,.tup _=>by rw [PyData.eqv];simp
 | _,_,.int i,.lst _=>by rw [PyData.eqv];simp
 | _,_,.tup _,.int i=>by rw [PyData.eqv];simp
 | _,_,.lst _,.int i=>by rw [PyData.eqv];simp
 | _,_,.tup _,.lst _=>by rw [PyData.eqv];simp
 | _,_,.lst _,.tup _=>by rw [PyData.eqv];simp
 | _,_,.tup h,.tup k=>by rw [PyData.eqv,h.eqv k];simp
 | _,_,.lst h,.lst k=>by rw [PyData.eqv,h.eqv k];simp
theorem GDs.eqv:∀ {ds es:List PyData},GDs ds→GDs es→(PyData.eqvAll ds es=true↔ds=es)
 | _,_,.nil,.nil=>by simp [PyData.eqvAll]
 | _,_,.nil,.cons _ _=>by simp [PyData.eqvAll]
 | _,_,.cons _ _,.nil=>by simp [PyData.eqvAll]
 | _,_,.cons (d:=d) (ds:=ds) h hs,.cons (d:=e) (ds:=es) k ks=>by
  rw [PyData.eqvAll,Bool.and_eq_true,h.eqv k,hs.eqv ks]
  simp
end
mutual
inductive GLt:PyData→PyData→Prop
 | int {i j:Int}:i<j→GLt (.int i) (.int j)
 | it {i:Int} {ds:List PyData}:GLt (.int i) (.tuple ds)
 | il {i:Int} {ds:List PyData}:GLt (.int i) (.list ds)
 | tl {ds es:List PyData}:GLt (.tuple ds) (.list es)
 | tup {ds es:List PyData}:GLs ds es→GLt (.tuple ds) (.tuple es)
 | lst {ds es:List PyData}:GLs ds es→GLt (.list ds) (.list es)
inductive GLs:List PyData→List PyData→Prop
 | nil {e:PyData} {es:List PyData}:GLs [] (e::es)
 | here {d e:PyData} {ds es:List PyData}:GLt d e→GLs (d::ds) (e::es)
 | there {d:PyData} {ds es:List PyData}:GLs ds es→GLs (d::ds) (d::es)
end
mutual
theorem GLt.irr:∀ {d e:PyData},GLt d e→d=e→False
 | _,_,.int h,e=>by cases e;omega
 | _,_,.tup h,e=>by cases e;exact h.irr rfl
 | _,_,.lst h,e=>by cases e;exact h.irr rfl
theorem GLs.irr:∀ {ds es:List PyData},GLs ds es→ds=es→False
 | _,_,.here h,e=>by injection e with e1 e2;exact h.irr e1
 | _,_,.there h,e=>by injection e with e1 e2;exact h.irr e2
end
mutual
theorem GLt.trans:∀ {a b c:PyData},GLt a b→GLt b c→GLt a c
 | _,_,_,.int h,.int k => .int (by omega)
 | _,_,_,.int h,.it => .it
 | _,_,_,.int h,.il => .il
 | _,_,_,.it,.tup _ => .it
 | _,_,_,.it,.tl => .il
 | _,_,_,.il,.lst _ => .il
 | _,_,_,.tl,.lst _ => .tl
 | _,_,_,.tup h,.tup k => .tup (h.trans k)
 | _,_,_,.tup h,.tl => .tl
 | _,_,_,.lst h,.lst k => .lst (h.trans k)
theorem GLs.trans:∀ {a b c:List PyData},GLs a b→GLs b c→GLs a c
 | _,_,_,.nil,.here _ => .nil
 | _,_,_,.nil,.there _ => .nil
 | _,_,_,.here h,.here k => .here (h.trans k)
 | _,_,_,.here h,.there _ => .here h
 | _,_,_,.there _,.here k => .here k
 | _,_,_,.there h,.there k => .there (h.trans k)
end
mutual
theorem GD.tri:∀ {d e:PyData},GD d→GD e→GLt d e∨d=e∨GLt e d
 | _,_,.int i,.int j=>by
  rcases Int.lt_trichotomy i j with h | h | h
  ·exact .inl (.int h)
  ·exact .inr (.inl (by rw [h]))
  ·exact .inr (.inr (.int h))
 | _,_,.int i,.tup _ => .inl .it
 | _,_,.int i,.lst _ => .inl .il
 | _,_,.tup _,.int i => .inr (.inr .it)
 | _,_,.lst _,.int i => .inr (.inr .il)
 | _,_,.tup _,.lst _ => .inl .tl
 | _,_,.lst _,.tup _ => .inr (.inr .tl)
 | _,_,.tup h,.tup k=>by
  rcases h.tri k with h | h | h
  ·exact .inl (.tup h)
  ·exact .inr (.inl (by rw [h]))
  ·exact .inr (.inr (.tup h))
 | _,_,.lst h,.lst k=>by
  rcases h.tri k with h | h | h
  ·exact .inl (.lst h)
  ·exact .inr (.inl (by rw [h]))
  ·exact .inr (.inr (.lst h))
theorem GDs.tri:∀ {ds es:List PyData},GDs ds→GDs es→GLs ds es∨ds=es∨GLs es ds
 | _,_,.nil,.nil => .inr (.inl rfl)
 | _,_,.nil,.cons _ _ => .inl .nil
 | _,_,.cons _ _,.nil => .inr (.inr .nil)
 | _,_,.cons (d:=d) h hs,.cons (d:=e) k ks=>by
  rcases h.tri k with h | h | h
  ·exact .inl (.here h)
  ·subst h
   rcases hs.tri ks with h | h | h
   ·exact .inl (.there h)
   ·exact .inr (.inl (by rw [h]))
   ·exact .inr (.inr (.there h))
  ·exact .inr (.inr (.here h))
end
mutual
inductive SimG:PyData→PyData→Prop
 | int (i j:Int):SimG (.int i) (.int j)
 | tup {ds es:List PyData}:SimGs ds es→SimG (.tuple ds) (.tuple es)
 | lst {ds es:List PyData}:SimGs ds es→SimG (.list ds) (.list es)
inductive SimGs:List PyData→List PyData→Prop
 | nil {es:List PyData}:SimGs [] es
 | end_ {ds:List PyData}:SimGs ds []
 | cons {d e:PyData} {ds es:List PyData}:SimG d e→(d=e→SimGs ds es)→SimGs (d::ds) (e::es)
end
theorem YaX {d e:PyData} (hd:GD d) (he:GD e):(PyData.eqv d e=true∧d=e)∨(PyData.eqv d e=false∧d≠e):=by
 cases h:PyData.eqv d e with
 | true=>exact .inl ⟨rfl,(hd.eqv he).mp h⟩
 | false=>exact .inr ⟨rfl,fun z=>by rw [(hd.eqv he).mpr z] at h;cases h⟩
mutual
theorem SimG.co (gt:Bool):∀ {d e:PyData},SimG d e→GD d→GD e→∃ b,CoR gt d e b
 | _,_,.int i j,_,_=>⟨_,.int i j⟩
 | _,_,.tup h,.tup k,.tup l=>by obtain ⟨b,hb⟩:=h.co gt k l;exact ⟨b,.tup hb⟩
 | _,_,.lst h,.lst k,.lst l=>by obtain ⟨b,hb⟩:=h.co gt k l;exact ⟨b,.lst hb⟩
theorem SimGs.co (gt:Bool):∀ {ds es:List PyData},SimGs ds es→GDs ds→GDs es→∃ b,CoA gt ds es b
 | _,[],.nil,_,_=>⟨_,.nn⟩
 | _,_::_,.nil,_,_=>⟨_,.nc⟩
 | [],_,.end_,_,_=>⟨_,.nn⟩
 | _::_,_,.end_,_,_=>⟨_,.cn⟩
 | _,_,.cons h hs,.cons k ks,.cons l ls=>by
  rcases YaX k l with ⟨a,c⟩ | ⟨a,c⟩
  ·obtain ⟨b,hb⟩:=(hs c).co gt ks ls;exact ⟨b,.eq a hb⟩
  ·obtain ⟨b,hb⟩:=h.co gt k l;exact ⟨b,.ne a hb⟩
end
def GOr (gt:Bool) (d e:PyData):Prop:=if gt then GLt e d else GLt d e
def GOs (gt:Bool) (d e:List PyData):Prop:=if gt then GLs e d else GLs d e
mutual
theorem CoR.order {gt:Bool}:∀ {d e:PyData} {b:Bool},CoR gt d e b→GD d→GD e→(b=true↔GOr gt d e)
 | _,_,_,.int i j,_,_=>by
  cases gt with
  | false=>exact ⟨fun h => .int (of_decide_eq_true h),fun h=>decide_eq_true (by cases h;assumption)⟩
  | true=>exact ⟨fun h => .int (of_decide_eq_true h),fun h=>decide_eq_true (by cases h;assumption)⟩
 | _,_,_,.tup h,.tup k,.tup l=>by
  rw [h.order k l]
  cases gt with
  | false=>exact ⟨fun h => .tup h,fun h=>by cases h;assumption⟩
  | true=>exact ⟨fun h => .tup h,fun h=>by cases h;assumption⟩
 | _,_,_,.lst h,.lst k,.lst l=>by
  rw [h.order k l]
  cases gt with
  | false=>exact ⟨fun h => .lst h,fun h=>by cases h;assumption⟩
  | true=>exact ⟨fun h => .lst h,fun h=>by cases h;assumption⟩
theorem CoA.order {gt:Bool}:∀ {ds es:List PyData} {b:Bool},CoA gt ds es b→GDs ds→GDs es→(b=true↔GOs gt ds es)
 | _,_,_,.nn,_,_=>by cases gt<;>exact ⟨(fun h=>by cases h),(fun h=>by cases h)⟩
 | _,_,_,.nc,_,_=>by
  cases gt with
  | false=>exact ⟨fun _ => .nil,fun _=>rfl⟩
  | true=>exact ⟨(fun h=>by cases h),(fun h=>by cases h)⟩
 | _,_,_,.cn,_,_=>by
  cases gt with
  | false=>exact ⟨(fun h=>by cases h),(fun h=>by cases h)⟩
  | true=>exact ⟨fun _ => .nil,fun _=>rfl⟩
 | _,_,_,.eq he h,.cons k ks,.cons l ls=>by
  have e:=(k.eqv l).mp he
  subst e
  rw [h.order ks ls]
  cases gt with
  | false =>
   refine ⟨fun h => .there h,fun h=>?_⟩
   cases h with
   | here h=>exact (h.irr rfl).elim
   | there h=>exact h
  | true =>
   refine ⟨fun h => .there h,fun h=>?_⟩
   cases h with
   | here h=>exact (h.irr rfl).elim
   | there h=>exact h
 | _,_,_,.ne he h,.cons k ks,.cons l ls=>by
  have e:_≠_:=fun z=>Bool.eq_false_iff.mp he ((k.eqv l).mpr z)
  rw [h.order k l]
  cases gt with
  | false =>
   refine ⟨fun h => .here h,fun h=>?_⟩
   cases h with
   | here h=>exact h
   | there h=>exact (e rfl).elim
  | true =>
   refine ⟨fun h => .here h,fun h=>?_⟩
   cases h with
   | here h=>exact h
   | there h=>exact (e rfl).elim
end
theorem SimG.answer (gt:Bool) {d e:PyData} (h:SimG d e) (hd:GD d) (he:GD e):∃ b,CoR gt d e b∧(b=true↔GOr gt d e):=by
 obtain ⟨b,hb⟩:=h.co gt hd he
 exact ⟨b,hb,hb.order hd he⟩
end L2
set_option maxHeartbeats 4000000
namespace L2
open PySem PySem.Spec PyProof.Rows PySem.W
section
variable {prog:Program} {w:World} {A:Around} {E:Value→Shared→Prop} {s:Shared} {F:Nat→Nat→Bool} {κ:SortKind} {vs ks:List Value} {f:Value} {J:Shared→Prop} {a kS:Addr}
structure KeyJ (prog:Program) (w:World) (A:Around) (f:Value) (J:Shared→Prop) (a kS:Addr) (vs ks:List Value) (κ:SortKind) (F:Nat→Nat→Bool):Prop where
 ju:∀ s' h' it,it=a∨it=kS→J s'→(∀ b o,b≠it→s'.heap.get? b=some o→h'.get? b=some o)→J { s' with heap:=h' }
 jc:∀ (i:Nat) v k,vs[i]?=some v→ks[i]?=some k→∀ s',J s'→∀ xs n ys m,s'.heap.get? a=some (seqObj "list" xs n)→s'.heap.get? kS=some (seqObj "list" ys m)→∀ Q:Value→Shared→Prop,(∀ s'',J s''→s''.heap.get? a=some (seqObj "list" xs n)→s''.heap.get? kS=some (seqObj "list" ys m)→Q k s'')→wpAny (model prog w) A (call f [v]) Q (fun _ _=>False) s'
 hk:2≤vs.length→∀ s',J s'→∀ Q:SortKind→Shared→Prop,Q κ s'→wpAny (model prog w) A (keyKind' (List.toArray ks)) Q (fun _ _=>False) s'
 hc:∀ s',J s'→∀ i j (C:Bool→Shared→Prop),i<vs.length→j<vs.length→C (F i j) s'→kas_ask prog w A κ ks i j C s'
theorem Qt {n:Nat} {body:Value→PUnit→Sem (ForInStep PUnit)} {e1:Nat} (KJ:KeyJ prog w A f J a kS vs ks κ F) (hne:a≠kS) (hn:vs.length<64) (hkl:ks.length=vs.length)
  (hb:∀ x k (s':Shared) (ys:Array Value) (m:Nat) (R:ForInStep PUnit→Shared→Prop),ys.size<64→(∀ Q:Value→Shared→Prop,(∀ s'',J s''→s''.heap.get? a=some (seqObj "list" #[] e1)→s''.heap.get? kS=some (seqObj "list" ys m)→Q k s'')→wpAny (model prog w) A (call f [x]) Q (fun _ _=>False) s') →
   (∀ s'' c,J s''→s''.heap.get? a=some (seqObj "list" #[] e1)→s''.heap.get? kS=some (seqObj "list" (ys.push k) c)→R (.yield ⟨⟩) s'')→wpAny (model prog w) A (body x ⟨⟩) R E s') :
  ∀ (r:List Value) (j:Nat) (s':Shared),vs.drop j=r→j≤vs.length→J s'→s'.heap.get? a=some (seqObj "list" #[] e1)→(∃ e,s'.heap.get? kS=some (seqObj "list" (List.toArray (ks.take j)) e)) →
   wpAny (model prog w) A (forIn r PUnit.unit body) (fun _ s''=>J s''∧s''.heap.get? a=some (seqObj "list" #[] e1)∧∃ e,s''.heap.get? kS=some (seqObj "list" (List.toArray ks) e)) E s'
 | [],j,s',hr,hj,hJ,ha,⟨e,hk⟩=>by
  rw [List.forIn_nil]
  have:vs.length≤j:=by
   have:=congrArg List.length hr
   rw [List.length_drop,List.length_nil] at this
   omega
  rw [List.take_of_length_le (by omega)] at hk
  exact wpAny_pure ⟨hJ,ha,e,hk⟩
 | x::r,j,s',hr,hj,hJ,ha,⟨e,hk⟩=>by
  rw [List.forIn_cons]
  have hjl:j<vs.length:=by
   have:=congrArg List.length hr
   rw [List.length_drop,List.length_cons] at this
   omega
  have hx:vs[j]?=some x:=by
   have:(vs.drop j)[0]?=some x:=by rw [hr];rfl
   rw [List.getElem?_drop] at this
   simpa using this
  have hkj:ks[j]?=some (ks[j]'(by omega)):=List.getElem?_eq_getElem _
  generalize ks[j]'(by omega)=k at hkj
  have hdr:vs.drop (j+1)=r:=by
   have:=congrArg (List.drop 1) hr
   rw [List.drop_drop] at this
   simpa using this
  refine wpAny_bind (hb x k s' _ e _ (by rw [List.size_toArray,List.length_take];omega) (fun Q hq=>KJ.jc j x k hx hkj s' hJ _ _ _ _ ha hk Q hq) fun s'' c hJ' ha' hk'=>?_)
  show wpAny (model prog w) A (forIn r PUnit.unit body) _ E s''
  refine Qt (n:=n) KJ hne hn hkl hb r (j+1) s'' hdr (by omega) hJ' ha' ⟨c,?_⟩
  rw [Y5 hkj]
  simpa using hk'
theorem Q0 {n:Nat} {P:PySem.Fin→Shared→Prop} (ho:s.heap.get? a=some (seqObj "list" vs.toArray n)) (h64:vs.length<64) (hkl:ks.length=vs.length) (O:KOrd F vs.length) (hkS:kS=s.heap.objs.size+1)
  (j0:∀ h':Heap,(∀ b o,b≠a→s.heap.get? b=some o→h'.get? b=some o)→J { s with heap:=h' }) (KJ:KeyJ prog w A f J a kS vs ks κ F)
  (h:∀ (p:Array Nat) s3 c,KPm vs.length p→Xl F p vs.length→J s3→s3.heap.get? a=some (seqObj "list" (List.toArray (p.toList.map fun i=>vs.getD i Value.none)) c)→P (.done (.ret .none)) s3) :
  wpAny (model prog w) A (ksk_tree a f false) P E s:=by
 have ha:a<s.heap.objs.size:=Heap.lt_size ho
 have hne:a≠kS:=by rw [hkS];exact Nat.ne_of_lt (Nat.lt_succ_of_lt ha)
 obtain ⟨e1,ho1⟩:∃ e1,(s.heap.update a (Obj.mapSeq fun _=>(#[]:Array Value))).get? a=some (seqObj "list" #[] e1):=⟨_,get?_update_seq ho fun _=>#[]⟩
 have hz:((s.heap.update a (Obj.mapSeq fun _=>(#[]:Array Value))).push (seqObj "tuple" vs.toArray 0)).objs.size=kS:=by rw [size_push',Heap.size_update,hkS]
 unfold ksk_tree
 refine wpAny_bind (listItems_at ho rfl ?_)
 refine wpAny_bind (listUpdate_at ho rfl ?_ (by rw [List.size_toArray,sizeLine_eq];omega) (Nat.zero_le _))
 refine wpAny_bind (seqEpoch_at ho1 rfl ?_)
 refine wpAny_bind (wpAny_newTuple ?_ (by show vs.length≤_;rw [sizeLine_eq];omega))
 refine wpAny_bind (wpAny_newList ?_ (Nat.zero_le _))
 refine wpAny_holding ?_
 show wpAny (model prog w) A (ksk_rest a f false vs.toArray e1 (.ref ((s.heap.update a (Obj.mapSeq fun _=>(#[]:Array Value))).push (seqObj "tuple" vs.toArray 0)).objs.size)) P E { s with heap:=((s.heap.update a (Obj.mapSeq fun _=>(#[]:Array Value))).push (seqObj "tuple" vs.toArray 0)).push (seqObj "list" #[] 0) }
 rw [hz]
 have kp:∀ b o,b≠a→s.heap.get? b=some o→(((s.heap.update a (Obj.mapSeq fun _=>(#[]:Array Value))).push (seqObj "tuple" vs.toArray 0)).push (seqObj "list" #[] 0)).get? b=some o:=fun b o hb e=>by
  refine Heap.get?_push_of_some _ (Heap.get?_push_of_some _ ?_)
  rw [Heap.get?_update_ne _ _ _ _ hb]
  exact e
 have hJ:=j0 _ kp
 have ha6:(((s.heap.update a (Obj.mapSeq fun _=>(#[]:Array Value))).push (seqObj "tuple" vs.toArray 0)).push (seqObj "list" #[] 0)).get? a=some (seqObj "list" #[] e1):=Heap.get?_push_of_some _ (Heap.get?_push_of_some _ ho1)
 have hk6:(((s.heap.update a (Obj.mapSeq fun _=>(#[]:Array Value))).push (seqObj "tuple" vs.toArray 0)).push (seqObj "list" #[] 0)).get? kS=some (seqObj "list" #[] 0):=by rw [← hz];exact Heap.get?_push_size _ rfl
 unfold ksk_rest
 refine wpAny_bind (wpAny_rule ?_)
 first
  | rw [List.forIn_toArray]
  | (rw [← Array.forIn_toList];simp only [List.toList_toArray])
  | rw [← Array.forIn_toList]
 refine wpAny_bind (wpAny_mono (Qt (n:=n) (e1:=e1) KJ hne h64 hkl (fun x k s' ys m R hys hcall hR=>?_) vs 0 _ rfl (Nat.zero_le _) hJ ha6 ⟨0,by simpa using hk6⟩) (fun _ s' hd=>?_) fun _ _ x=>x)
 ·refine wpAny_bind (wpAny_attempt (wpAny_mono (hcall (fun k' s''=>k'=k∧J s''∧s''.heap.get? a=some (seqObj "list" #[] e1)∧s''.heap.get? kS=some (seqObj "list" ys m)) fun s'' h1 h2 h3=>⟨rfl,h1,h2,h3⟩) (fun k' s'' hq=>?_) fun _ _ hF=>hF.elim))
  obtain ⟨rfl,hJ'',ha'',hk''⟩:=hq
  have s1:=Heap.SameBut.update s''.heap kS (Obj.mapSeq (·.push k'))
  obtain ⟨c2,hc2⟩:∃ c2,(s''.heap.update kS (Obj.mapSeq (·.push k'))).get? kS=some (seqObj "list" (ys.push k') c2):=⟨_,get?_update_seq hk'' (·.push k')⟩
  try dsimp only
  refine wpAny_bind (listUpdate_at hk'' rfl ?_ (by rw [sizeLine_eq];omega) (Nat.le_trans (Nat.le_of_eq (Array.size_push ..)) (by rw [sizeLine_eq];omega)))
  refine wpAny_pure (hR _ c2 (KJ.ju s'' _ kS (.inr rfl) hJ'' fun b o hb e=>?_) ?_ hc2)
  ·rw [Heap.get?_update_ne _ _ _ _ hb];exact e
  ·show (s''.heap.update kS _).get? a=_
   rw [Heap.get?_update_ne _ _ _ _ hne];exact ha''
 ·obtain ⟨hJ',ha',e,hk'⟩:=hd
  try dsimp only
  refine wpAny_bind (listItems_at hk' rfl ?_)
  unfold ksk_end
  try dsimp only
  simp only [Bool.false_eq_true,if_false]
  have tail:∀ st,failedOf st=none→(∃ p:Array Nat,KPm vs.length p∧Xl F p vs.length∧(arrOf st).map (·.2)=List.toArray (p.toList.map fun i=>vs.getD i Value.none))→wpAny (model prog w) A (ksk_tail a false e1 (.ref kS) st) P E s':=fun st hf ⟨p,hp,hs,hout⟩=>by
   have hsz:(List.toArray (p.toList.map fun i=>vs.getD i Value.none)).size=vs.length:=by rw [List.size_toArray,List.length_map,Array.length_toList,hp.size]
   unfold ksk_tail
   try dsimp only
   rw [hout]
   refine wpAny_bind (listUpdate_at hk' rfl ?_ (by rw [List.size_toArray,sizeLine_eq];omega) (Nat.zero_le _))
   refine wpAny_bind (wpAny_letGo ?_)
   have ha2:(s'.heap.update kS (Obj.mapSeq fun _=>(#[]:Array Value))).get? a=some (seqObj "list" #[] e1):=by rw [Heap.get?_update_ne _ _ _ _ hne];exact ha'
   refine wpAny_bind (seqEpoch_at ha2 rfl ?_)
   refine wpAny_bind (listUpdate_at ha2 rfl ?_ (Nat.zero_le _) (Nat.le_trans (Nat.le_of_eq (by simp only [Bool.false_eq_true,if_false];exact hsz)) (by rw [sizeLine_eq];omega)))
   rw [hf]
   simp only [bne_self_eq_false,Bool.false_eq_true,if_false]
   obtain ⟨c2,hc2⟩:∃ c2,((s'.heap.update kS (Obj.mapSeq fun _=>(#[]:Array Value))).update a (Obj.mapSeq fun _=>List.toArray (p.toList.map fun i=>vs.getD i Value.none))).get? a=some (seqObj "list" (List.toArray (p.toList.map fun i=>vs.getD i Value.none)) c2):=⟨_,get?_update_seq ha2 fun _=>_⟩
   have hJ2:=KJ.ju s' (s'.heap.update kS (Obj.mapSeq fun _=>(#[]:Array Value))) kS (.inr rfl) hJ' fun b o hb e=>by rw [Heap.get?_update_ne _ _ _ _ hb];exact e
   refine wpAny_pure (h p _ c2 hp hs (KJ.ju { s' with heap:=s'.heap.update kS (Obj.mapSeq fun _=>(#[]:Array Value)) } _ a (.inl rfl) hJ2 fun b o h1 e=>?_) hc2)
   rw [Heap.get?_update_ne _ _ _ _ h1]
   exact e
  by_cases h2:vs.toArray.size<2
  ·rw [if_pos h2,if_pos h2]
   refine wpAny_bind (wpAny_pure ?_)
   rw [StateT.run_pure]
   refine wpAny_bind (wpAny_pure ?_)
   rw [List.size_toArray] at h2
   refine tail _ rfl ⟨List.toArray (List.range vs.length),Array.Perm.refl _,fun i j h1 h3=>?_,?_⟩
   ·have:i=j:=by omega
    subst this
    exact O.irr (KPm.lt (Array.Perm.refl _) (by omega) _)
   ·refine kat_snds hkl ?_
    have e:=kas_range ((List.toArray ks).zip vs.toArray)
    rw [show ((List.toArray ks).zip vs.toArray).size=vs.length by simp [hkl]] at e
    exact e.symm
  ·rw [if_neg h2,if_neg h2]
   rw [List.size_toArray] at h2
   have h2':2≤vs.length:=by omega
   refine wpAny_bind (wpAny_mono (KJ.hk h2' s' hJ' (fun κ' s''=>κ'=κ∧s''=s') ⟨rfl,rfl⟩) (fun κ' s0 hk=>?_) fun _ _ x=>x.elim)
   obtain ⟨rfl,rfl⟩:=hk
   refine wpAny_bind (wpAny_mono (kat_run (Q:=fun st' s''=>∃ p:Array Nat,KPm vs.length p∧Xl F p vs.length∧arrOf st'=p.map (kas_item ((List.toArray ks).zip vs.toArray))∧failedOf st'=none∧s''=s0) (G:=fun p s''=>KPm vs.length p∧Xl F p vs.length∧s''=s0)
    hkl h2' h64 (fun p' st' s' a1 a2 a3 a4=>⟨p',a4.1,a4.2.1,a2,a3,a4.2.2⟩) ((YdD O (by omega)).wp (KJ.hc s0 hJ') fun p hp=>⟨hp.1,hp.2,rfl⟩)) ?_ fun _ _ e=>e)
   rintro ⟨⟨⟩,st'⟩ s'' ⟨p,hp,hs,har,hf,rfl⟩
   exact tail st' hf ⟨p,hp,hs,kat_snds hkl har⟩
theorem YcB {l q:Addr} {Q:Value→Shared→Prop} (hl:s.heap.IsList l vs.toArray) (h64:vs.length<64) (hkl:ks.length=vs.length) (O:KOrd F vs.length)
  (j0:∀ h':Heap,(∀ b o,s.heap.get? b=some o→h'.get? b=some o)→J { s with heap:=h' }) (KJ:KeyJ prog w A.in1.in1 (.ref q) J (s.heap.objs.size+1) (s.heap.objs.size+3) vs ks κ F)
  (h:∀ (p:Array Nat) s3 c,KPm vs.length p→Xl F p vs.length→J s3→s3.heap.get? (s.heap.objs.size+1)=some (seqObj "list" (List.toArray (p.toList.map fun i=>vs.getD i Value.none)) c)→Q (.ref (s.heap.objs.size+1)) s3) :
  wpAny (model prog w) A (call (.builtin "sorted") [.ref l] [(Str.ofString "key",.ref q)]) Q E s:=by
 refine call_function_entry_kw kind_sorted plain_sorted entry_sorted (ksk_s1 _ _) ?_
 unfold Builtin.«sorted»
 refine wpAny_bind (m:=checkCount "sorted" 1 1 _) (wpAny_pure ?_)
 refine wpAny_bind (collect_list hl ?_ (by rw [sizeLine_eq];omega))
 refine wpAny_bind (wpAny_newList ?_ (by rw [sizeLine_eq];omega))
 have hsz:((s.heap.push (seqObj "list" #[] 0)).update s.heap.objs.size (Obj.mapSeq (·++vs.toArray))).objs.size=s.heap.objs.size+1:=by
  rw [Heap.size_update,size_push']
 have hoL:(((s.heap.push (seqObj "list" #[] 0)).update s.heap.objs.size (Obj.mapSeq (·++vs.toArray))).push (seqObj "list" vs.toArray 0)).get? (s.heap.objs.size+1)=some (seqObj "list" vs.toArray 0):=by
  rw [← hsz];exact Heap.get?_push_size _ rfl
 have keep:∀ b o,s.heap.get? b=some o→(((s.heap.push (seqObj "list" #[] 0)).update s.heap.objs.size (Obj.mapSeq (·++vs.toArray))).push (seqObj "list" vs.toArray 0)).get? b=some o:=fun b o q=>by
  have hlt:b<s.heap.objs.size:=Heap.lt_size q
  rw [Heap.get?_push_ne _ _ _ (by rw [hsz];exact Nat.ne_of_lt (Nat.lt_succ_of_lt hlt)),Heap.get?_update_ne _ _ _ _ (Nat.ne_of_lt hlt),Heap.get?_push_ne _ _ _ (Nat.ne_of_lt hlt)]
  exact q
 show wpAny _ _ _ _ _ { s with heap:=((s.heap.push (seqObj "list" #[] 0)).update s.heap.objs.size (Obj.mapSeq (·++vs.toArray))).push (seqObj "list" vs.toArray 0) }
 rw [hsz]
 refine wpAny_bind (wpAny_holding (wpAny_call_entry_kw slot_list_sort ⟨_,hoL,rfl⟩ entry_list_sort ?body (ksk_l1 _ _)))
 case body =>
  show wpAny (model prog w) A.in1.in1 (Builtin.«list.sort» ⟨[.ref (s.heap.objs.size+1)],[(Str.ofString "key",.ref q)]⟩) _ _ _
  rw [ksk_t1]
  refine Q0 (s:={ s with heap:=((s.heap.push (seqObj "list" #[] 0)).update s.heap.objs.size (Obj.mapSeq (·++vs.toArray))).push (seqObj "list" vs.toArray 0) }) (kS:=s.heap.objs.size+3) hoL h64 hkl O ?_
   (fun h' k=>j0 h' fun b o e=>k b o (Nat.ne_of_lt (Nat.lt_succ_of_lt (Heap.lt_size e))) (keep b o e)) KJ fun p s3 c hp hs hJ ho=>⟨_,rfl,wpAny_pure ⟨_,rfl,h p s3 c hp hs hJ ho⟩⟩
  rw [size_push',hsz]
end
end L2
set_option maxHeartbeats 4000000
namespace L2
open PySem PySem.Spec PyProof.Rows PySem.W
open PySem.SeqAt
section
variable {prog:Program} {w:World} {A:Around} {s:Shared}
theorem Uy {fin:Bool} {C:Bool→Shared→Prop}:∀ {ds es:List PyData} {r:Bool},CoA false ds es r→∀ (i:Nat) (us vs:List Value) (as bs:List Addr),i≠0→ReadsAll s.heap us ds as→ReadsAll s.heap vs es bs→PyData.canLayAll0 ds=true→PyData.canLayAll0 es=true→A.units+PyData.depthAll ds+1<cLine→fin=decide (us.length<vs.length)→C r s→KatLex prog w A true fin C (us.zip vs) i s
 | _,_,_,.nn,i,us,vs,as,bs,hi,r1,r2,_,_,_,hf,hC=>by
  cases r1;cases r2
  refine kat_nil ?_
  rw [hf]
  exact hC
 | _,_,_,.nc,i,us,vs,as,bs,hi,r1,r2,_,_,_,hf,hC=>by
  cases r1
  cases r2 with
  | cons q2 qs2 =>
  refine kat_nil ?_
  rw [hf,decide_eq_true (by simp)]
  exact hC
 | _,_,_,.cn,i,us,vs,as,bs,hi,r1,r2,_,_,_,hf,hC=>by
  cases r2
  cases r1 with
  | cons q1 qs1 =>
  refine kat_nil ?_
  rw [hf,decide_eq_false (by simp)]
  exact hC
 | _,_,b,.eq (d:=d) (e:=e) he hA,i,us,vs,as,bs,hi,r1,r2,l1,l2,hu,hf,hC=>by
  rw [PyData.canLayAll0,Bool.and_eq_true] at l1 l2
  rw [PyData.depthAll] at hu
  cases r1 with
  | cons q1 qs1 =>
  cases r2 with
  | cons q2 qs2 =>
  have h:=SeqAt.eqAt_reads d e A s _ _ _ _ q1 q2 l1.1 l2.1 (by omega)
  rw [he] at h
  rw [List.zip_cons_cons]
  refine kat_cons (h prog w _ _ (kat_yes (Uy hA (i+1) _ _ _ _ (by omega) qs1 qs2 l1.2 l2.2 (by omega) ?_ hC)))
  rw [hf]
  exact decide_eq_decide.mpr (by simp)
 | _,_,b,.ne (d:=d) (e:=e) he hR,i,us,vs,as,bs,hi,r1,r2,l1,l2,hu,hf,hC=>by
  rw [PyData.canLayAll0,Bool.and_eq_true] at l1 l2
  rw [PyData.depthAll] at hu
  cases r1 with
  | cons q1 qs1 =>
  cases r2 with
  | cons q2 qs2 =>
  have h:=SeqAt.eqAt_reads d e A s _ _ _ _ q1 q2 l1.1 l2.1 (by omega)
  rw [he] at h
  rw [List.zip_cons_cons]
  refine kat_cons (h prog w _ _ (kat_no ?_))
  rw [show (true&&i==0)=false from by simp [hi]]
  exact kat_one _ _ (Wh hR A s _ _ _ _ q1 q2 l1.1 l2.1 (by omega) prog w _ _ hC)
theorem Yeh {x y:Addr} {i j:Int} {ds es:List PyData} {as bs:List Addr} {r:Bool} {C:Bool→Shared→Prop} {E:Value→Shared→Prop} (hR:CoR false (.tuple (.int i::ds)) (.tuple (.int j::es)) r) (r1:Reads s.heap (.ref x) (.tuple (.int i::ds)) as) (r2:Reads s.heap (.ref y) (.tuple (.int j::es)) bs)
  (l1:(PyData.tuple (.int i::ds)).canLay0=true) (l2:(PyData.tuple (.int j::es)).canLay0=true) (hu:A.units+(PyData.tuple (.int i::ds)).depth+1<cLine) (hC:C r s):wpAny (model prog w) A (keyLt' (tuples' true) (.ref x) (.ref y)) C E s:=by
 rw [PyData.canLay0] at l1 l2
 rw [PyData.depth] at hu
 cases r1 with
 | @tuple a1 o1 vs1 n1 _ _ h1 c1 d1 q1 =>
 cases r2 with
 | @tuple a2 o2 vs2 n2 _ _ h2 c2 d2 q2 =>
 refine kat_lt h1 d1 h2 d2 ?_
 generalize hv1:vs1.toList=l1' at q1
 generalize hv2:vs2.toList=l2' at q2
 have z1:vs1.size=l1'.length:=by rw [← hv1];simp
 have z2:vs2.size=l2'.length:=by rw [← hv2];simp
 rw [z1,z2]
 rw [PyData.canLayAll0,Bool.and_eq_true] at l1 l2
 rw [PyData.depthAll] at hu
 cases q1 with
 | cons p1 ps1 =>
 cases q2 with
 | cons p2 ps2 =>
 cases p1
 cases p2
 rw [List.zip_cons_cons]
 cases hR with
 | tup hA =>
  cases hA with
  | eq he hA =>
   rw [PyData.eqv] at he
   refine kat_cons (wpAny_eqBool_int ?_)
   rw [he]
   exact kat_yes (Uy hA 1 _ _ _ _ (by decide) ps1 ps2 l1.2 l2.2 (by omega) (decide_eq_decide.mpr (by simp)) hC)
  | ne he hR =>
   rw [PyData.eqv] at he
   refine kat_cons (wpAny_eqBool_int ?_)
   rw [he]
   cases hR
   exact kat_no (oneLt_int hC)
end
end L2
set_option maxHeartbeats 4000000
namespace L2
open PySem PySem.Spec PyProof.Rows PySem.W
abbrev Cx.atA (X:Cx) (A:Around):Cx:={ X with A:=A,xe:=fun _ _=>False }
theorem Cx.Ok.atA {X:Cx} (ok:X.Ok) {A:Around} (h1:A.handled=X.A.handled) (h2:A.frames=X.A.frames):(X.atA A).Ok :=
 ⟨ok.mod,ok.kind,ok.glob,ok.blt,ok.above,ok.inj,ok.has,ok.cab,fun h=>h1.trans (ok.hd h),h2.trans ok.frames,ok.stk,ok.exf,ok.bs,ok.bsz,ok.noex,ok.exfs,ok.funs,ok.frf⟩
theorem Inv.atA {X:Cx} {pins:List (Addr×Obj)} {σ:St} {H:Hp} {s:Shared} (I:Inv X pins σ H s) {A:Around} (h1:A.handled=X.A.handled) (h2:A.frames=X.A.frames):Inv (X.atA A) pins σ H s :=
 ⟨I.ok.atA h1 h2,I.os,I.bare,I.base,I.loc,I.cell,I.free,I.freeC,I.pin,I.hok,I.len⟩
theorem Inv.unA {X:Cx} {pins:List (Addr×Obj)} {σ:St} {H:Hp} {s:Shared} {A:Around} (I:Inv (X.atA A) pins σ H s) (ok:X.Ok):Inv X pins σ H s :=
 ⟨ok,I.os,I.bare,I.base,I.loc,I.cell,I.free,I.freeC,I.pin,I.hok,I.len⟩
abbrev gr (q:Int×List PyData):PyData := .tuple (.int q.1::q.2)
open Classical in
noncomputable def gLt (gs:List (Int×List PyData)) (i j:Nat):Bool:=decide (GLt (gr (gs.getD i (0,[]))) (gr (gs.getD j (0,[]))))
theorem YdF {gs:List (Int×List PyData)} (hg:∀ q∈gs,GD (gr q)):KOrd (gLt gs) gs.length:=by
 have hm:∀ i,i<gs.length→GD (gr (gs.getD i (0,[]))):=fun i hi=>by
  refine hg _ ?_
  rw [List.getD_eq_getElem?_getD,List.getElem?_eq_getElem hi]
  exact List.getElem_mem _
 refine ⟨fun i j hi hj h=>?_,fun i j k hi hj hk h1 h2=>?_⟩
 ·have h:=(@decide_eq_true_iff _ (Classical.propDecidable _)).mp h
  exact (@decide_eq_false_iff_not _ (Classical.propDecidable _)).mpr fun z=>(h.trans z).irr rfl
 ·have h1:=(@decide_eq_false_iff_not _ (Classical.propDecidable _)).mp h1
  have h2:=(@decide_eq_false_iff_not _ (Classical.propDecidable _)).mp h2
  refine (@decide_eq_false_iff_not _ (Classical.propDecidable _)).mpr fun z=>?_
  rcases (hm i hi).tri (hm j hj) with h | h | h
  ·exact h2 (z.trans h)
  ·exact h2 (h▸z)
  ·exact h1 h
def V1 (g:Gx) (k:Nat) (vs:List V) (Q:VK):VK:=fun v H2=>∃ (l f:Addr) (fd:FuncData) (ps:List Str) (sp:Sp) (ys kv:List V) (gs:List (Int×List PyData)),
 vs=[.ref l]∧v = .ref f∧FnOk g.P g.w g.K g.mg g.base CX0 k f fd ps sp∧(∀ us:List Value,us.length=ps.length→bindArgs fd ⟨us,[]⟩=pure (ps.zip us))∧H2 f=some (FnO f fd)∧SqL g.K H2 l ys∧ys.length<64∧kv.length=ys.length∧gs.length=ys.length ∧
 (∀ (i:Nat) y u q,ys[i]?=some y→kv[i]?=some u→gs[i]?=some q→sp [y] H2 (fun v' H'=>v'=u∧H'=H2) E0∧(∃ a,u = .ref a)∧Den g.K H2 u (gr q)) ∧
 (∀ q∈gs,GD (gr q)∧(gr q).depth≤64∧∀ q'∈gs,SimG (gr q) (gr q')) ∧
 ∀ l' (p:Array Nat),H2 l'=none→KPm ys.length p→Xl (gLt gs) p ys.length→Q (.ref l') (upd H2 l' (.lst (p.toList.map fun i=>ys.getD i .non)))
def Yei (g:Gx) (k:Nat) (ta:TA) (tl:TE):TE:=fun σ H Q=>ta σ H fun vs H1=>tl σ H1 (V1 g k vs Q)
section
variable {X:Cx} {g:Gx}
theorem YaY {k:Nat} {pins:List (Addr×Obj)} {σ:St} {H:Hp} {s:Shared} {Q:VK} {l f:Addr} {fd:FuncData} {ps:List Str} {sp:Sp} {ys kv:List V} {gs:List (Int×List PyData)} (I:Inv X pins σ H s) (hr:Room (k+2) X.A) (F:FnOk X.prog X.w X.K X.mg X.base CX0 k f fd ps sp) (b:∀ us:List Value,us.length=ps.length→bindArgs fd ⟨us,[]⟩=pure (ps.zip us))
  (hS:SqL X.K H l ys) (h64:ys.length<64) (hkv:kv.length=ys.length) (hgs:gs.length=ys.length)
  (hy:∀ (i:Nat) y u q,ys[i]?=some y→kv[i]?=some u→gs[i]?=some q→sp [y] H (fun v' H'=>v'=u∧H'=H) E0∧(∃ a,u = .ref a)∧Den X.K H u (gr q))
  (hg:∀ q∈gs,GD (gr q)∧(gr q).depth≤64∧∀ q'∈gs,SimG (gr q) (gr q'))
  (q:∀ l' (p:Array Nat),H l'=none→KPm ys.length p→Xl (gLt gs) p ys.length→Q (.ref l') (upd H l' (.lst (p.toList.map fun i=>ys.getD i .non)))) :
  wpAny (model X.prog X.w) X.A (call (.builtin "sorted") [.ref l] [(Str.ofString "key",.ref f)]) (EP X pins σ Q) X.xe s:=by
 obtain ⟨its,r',pl,hz⟩:=I.list hS
 have hlen:=r'.length
 have hk':∀ i,i<ys.length→∃ a,kv[i]?=some (.ref a):=fun i hi=>by
  have e1:ys[i]?=some (ys[i]'hi):=List.getElem?_eq_getElem _
  have e2:kv[i]?=some (kv[i]'(by omega)):=List.getElem?_eq_getElem _
  have e3:gs[i]?=some (gs[i]'(by omega)):=List.getElem?_eq_getElem _
  obtain ⟨_,⟨a,ea⟩,_⟩:=hy i _ _ _ e1 e2 e3
  exact ⟨a,by rw [e2,ea]⟩
 let ks:List Value:=kv.map fun v=>match v with | .ref a=>Value.ref a | _=>Value.none
 have hks:ks.length=its.length:=by show (kv.map _).length=_;rw [List.length_map];omega
 have hkat:∀ (i:Nat) a,kv[i]?=some (.ref a)→ks[i]?=some (Value.ref a):=fun i a e=>by
  show (kv.map _)[i]?=_
  rw [List.getElem?_map,e]
  rfl
 have hord:KOrd (gLt gs) its.length:=by rw [← hlen,← hgs];exact YdF fun q hq=>(hg q hq).1
 have lt1:X.env.locals<s.heap.objs.size:=I.lt
 have fresh:∀ it,s.heap.objs.size≤it→H it=none:=fun it h=>I.hok.fresh h
 have rd:∀ s',Inv X pins σ H s'→∀ i,i<its.length→∃ a qq as,ks[i]?=some (Value.ref a)∧gs[i]?=some qq∧Reads s'.heap (Value.ref a) (gr qq) as∧(gr qq).canLay0=true:=fun s' I' i hi=>by
  have e1:ys[i]?=some (ys[i]'(by omega)):=List.getElem?_eq_getElem _
  have e3:gs[i]?=some (gs[i]'(by omega)):=List.getElem?_eq_getElem _
  obtain ⟨a,ea⟩:=hk' i (by omega)
  obtain ⟨_,_,hd⟩:=hy i _ _ _ e1 ea e3
  obtain ⟨as,ra⟩:=hd.reads I' (show Yr (.ref a) (.ref a) from rfl)
  exact ⟨a,_,as,hkat i a ea,e3,ra,hd.lay⟩
 refine YcB (J:=fun s'=>Inv X pins σ H s') (F:=gLt gs) (ks:=ks) (κ:=tuples' (Value.type "int" != Value.type "tuple")) pl.isList (by omega) hks hord (fun h' kp=>I.kept (t':=s.toks) kp) ⟨?_,?_,?_,?_⟩ fun p s3 c hp hs hJ ho=>?_
 ·intro s' h' it hit I' kp
  have hit':s.heap.objs.size≤it:=by rcases hit with rfl | rfl<;>omega
  refine I'.turned (t':=s'.toks) kp (fresh it hit') (Nat.ne_of_gt (Nat.lt_of_lt_of_le lt1 hit')) (.inr (Nat.le_trans I.sz hit')) (fun x c e z=>?_) (fun p hp z=>?_)
  ·obtain ⟨v,hc⟩:=I.cell x c e
   obtain ⟨o,ho,_⟩:=hc
   exact absurd z (Nat.ne_of_lt (Nat.lt_of_lt_of_le (Heap.lt_size ho) hit'))
  ·exact absurd z (Nat.ne_of_lt (Nat.lt_of_lt_of_le (Heap.lt_size (I.pin p hp).1) hit'))
 ·intro i v kk hv hkk s' I' xs n ys' m ha hks' Q' hQ
  have hi:i<its.length:=(List.getElem?_eq_some_iff.mp hv).1
  have e1:ys[i]?=some (ys[i]'(by omega)):=List.getElem?_eq_getElem _
  have e3:gs[i]?=some (gs[i]'(by omega)):=List.getElem?_eq_getElem _
  obtain ⟨a,ea⟩:=hk' i (by omega)
  obtain ⟨hsp,_,_⟩:=hy i _ _ _ e1 ea e3
  rw [hkat i a ea] at hkk
  cases hkk
  obtain ⟨u,eu,ru⟩:=r'.get e1
  rw [hv] at eu
  cases eu
  have h1:=(I'.atA (A:=X.A.in1.in1) rfl rfl).pins_of (pins':=pins++[(s.heap.objs.size+1,seqObj "list" xs n),(s.heap.objs.size+3,seqObj "list" ys' m)]) fun p hp=>by
   have nf:∀ it,s.heap.objs.size≤it→it≠X.env.locals∧it∉X.fs:=fun it h=>⟨Nat.ne_of_gt (Nat.lt_of_lt_of_le lt1 h),I.nofs h⟩
   rcases List.mem_append.mp hp with hp | hp
   ·exact I'.pin p (List.mem_append_right _ hp)
   ·rcases List.mem_cons.mp hp with rfl | hp
    ·exact ⟨ha,fresh _ (by omega),(nf _ (by omega)).1,(nf _ (by omega)).2,fun v z=>by cases z⟩
    ·rw [List.mem_singleton.mp hp]
     exact ⟨hks',fresh _ (by omega),(nf _ (by omega)).1,(nf _ (by omega)).2,fun v z=>by cases z⟩
  refine wpAny_mono (Ybn (X:=X.atA X.A.in1.in1) F (show Room k X.A.in1.in1 from hr.in1.in1) (.all b) .nil YcX h1 (.cons ru .nil) (by rw [List.append_nil];exact hsp)) (fun kk s'' hq=>?_) fun _ _ hF=>hF
  obtain ⟨v',H',I'',rv,rfl,rfl⟩:=hq
  obtain rfl:kk=Value.ref a:=rv
  have p1:=(I''.pin (s.heap.objs.size+1,seqObj "list" xs n) (List.mem_append_right _ (by simp))).1
  have p2:=(I''.pin (s.heap.objs.size+3,seqObj "list" ys' m) (List.mem_append_right _ (by simp))).1
  exact hQ s'' (I''.unpinned.unA I.ok) p1 p2
 ·intro h2 s' I' Q' hQ
  obtain ⟨fs,f1,f2,f3⟩:=VI (h:=s'.heap) (vs:=ks) fun v hv=>by
   obtain ⟨i,hi,rfl⟩:=List.getElem_of_mem hv
   obtain ⟨a,qq,as,e1,e2,e3,_⟩:=rd s' I' i (by omega)
   rw [List.getElem?_eq_getElem hi] at e1
   have e1:=Option.some.inj e1
   cases e3 with
   | @tuple a1 o1 vs1 n1 _ _ h1 c1 d1 q1 =>
   generalize hv1:vs1.toList=l1 at q1
   cases q1 with
   | @cons v0 _ _ _ _ _ p1 ps1 =>
   cases p1
   rename_i t0
   refine ⟨a,o1,vs1,n1,qq.1,t0,e1,h1,c1,d1,?_⟩
   rw [← Array.getElem?_toList,hv1]
   rfl
  exact kat_kind (T:=Value.type "int") f1 (by omega) (fun v hv=>by obtain ⟨x,t,rfl⟩:=f3 v hv;exact Looks.of_pure rfl) (by decide) hQ
 ·intro s' I' i j C hi hj hC
  obtain ⟨a1,q1,as1,e1,g1,r1,l1⟩:=rd s' I' i hi
  obtain ⟨a2,q2,as2,e2,g2,r2,l2⟩:=rd s' I' j hj
  have m1:=hg q1 (List.mem_of_getElem? g1)
  have m2:=hg q2 (List.mem_of_getElem? g2)
  obtain ⟨bb,hbb,hor⟩:=(m1.2.2 q2 (List.mem_of_getElem? g2)).answer false m1.1 m2.1
  show wpAny (model X.prog X.w) _ (keyLt' (tuples' true) (ks.getD i Value.none) (ks.getD j Value.none)) C _ _
  rw [List.getD_eq_getElem?_getD,List.getD_eq_getElem?_getD,e1,e2]
  have hu:=hr.un
  refine Yeh hbb r1 r2 l1 l2 (by have:X.A.in1.in1.units=X.A.units+1+1:=rfl;have h64:(PyData.tuple (.int q1.1::q1.2)).depth≤64:=m1.2.1;omega) ?_
  have:gLt gs i j=bb:=by
   unfold gLt
   rw [List.getD_eq_getElem?_getD,List.getD_eq_getElem?_getD,g1,g2]
   exact Bool.eq_iff_iff.mpr ((@decide_eq_true_iff _ (Classical.propDecidable _)).trans hor.symm)
  rw [← this]
  exact hC
 ·have pt:p.toList.Perm (List.range its.length):=by
   have:=Array.perm_iff_toList_perm.mp hp
   simpa using this
  have hin:∀ i∈p.toList,i<ys.length:=fun i hi=>by
   have:=List.mem_range.mp (pt.mem_iff.mp hi)
   omega
  have hpl:p.toList.length=its.length:=by rw [pt.length_eq,List.length_range]
  have hrv:=Uw r' hin
  have hlt:=Heap.lt_size ho
  refine ⟨.ref (s.heap.objs.size+1),_,?_,rfl,q _ p (fresh _ (by omega)) (by rw [hlen];exact hp) (by rw [hlen];exact hs)⟩
  have hit':s.heap.objs.size≤s.heap.objs.size+1:=Nat.le_succ _
  have hn:=fresh _ hit'
  have neH:∀ b o,H b=some o→b≠s.heap.objs.size+1:=fun b o e z=>by rw [z,hn] at e;cases e
  refine hJ.step (ch:=[s.heap.objs.size+1]) (h':=s3.heap) (g':=s3.gens) (t':=s3.toks) (d':=s3.drawn) (fun b hb=>?_) (fun b o _ _ _ e _=>e) (fun b o _ _ _ e _=>⟨o.slots,e⟩) (fun b o hb _ e=>?_) (fun b o _ e=>⟨o,e⟩) (fun b xs e=>?_) (fun b o u e=>?_) (fun b ps e=>⟨#[],?_⟩) (fun m hm=>hm) (fun b u e=>?_) hJ.bare
  ·rw [List.mem_singleton.mp hb]
   refine ⟨.inr (Nat.le_trans I.sz hit'),Nat.ne_of_gt (Nat.lt_of_lt_of_le lt1 hit'),fun x c e z=>?_,fun p hp z=>?_⟩
   ·obtain ⟨v,hc⟩:=I.cell x c e
    obtain ⟨o,ho,_⟩:=hc
    exact absurd z (Nat.ne_of_lt (Nat.lt_of_lt_of_le (Heap.lt_size ho) hit'))
   ·exact absurd z (Nat.ne_of_lt (Nat.lt_of_lt_of_le (Heap.lt_size (I.pin p hp).1) hit'))
  ·rw [Yh (fun z=>hb (by rw [z];simp))];exact e
  ·rw [Yh (neH b _ e)];exact e
  ·rw [Yh (neH b _ e)];exact e
  ·rw [Yh (neH b _ e),e];simp
  ·by_cases hb:b=s.heap.objs.size+1
   ·subst hb
    rw [Yc] at e
    cases e
    exact ⟨by rw [List.length_map,hpl];omega,_,c,hrv,ho⟩
   ·rw [Yh hb] at e
    exact (hJ.hok b u e).stay (fun c v _ q=>q) (fun c q=>by rw [Yh (neH c _ q)];exact q) fun c xs q=>by rw [Yh (neH c _ q)];exact q
theorem YaZ {j k:Nat} {a lam:Expr} {ta:TA} {tl:TE} {p pos kp:Pos} (hm:X.mg "sorted"=none) (hr:Room k X.A) (ha:PA X [a] ta) (hl:PE X lam tl) (hj:j+2≤k) (hX:X.gx=g) (hg:Gl X "sorted") (he:starEach [a] X.env=(false,eval a X.env)::starEach [] X.env) :
  PE X (.Call (.Name "sorted" p) [a] [⟨some "key",lam,kp⟩] pos) (Yei g j ta tl):=by
 subst hX
 intro pins s σ H Q I h
 refine wpAny_Call_ofName (XA I hg hm (by decide +kernel:bootBuiltins "sorted"=some (.builtin "sorted")) ?_)
 refine PySem.W.callWith_of (P:=fun _=>True) (by rw [he];rfl) (fun h _=>⟨_,.inr (.inl rfl),PySem.W.Looks.of_pure rfl⟩) (PyProof.Rows.evalArgs_kw2 rfl (thn (ha pos pins s σ H _ I h) fun us s1 hz=>?_) he)
 obtain ⟨vs,H1,I1,r1,h⟩:=hz
 refine thn (Ydg (X:=X) (nm:=some "key") (kpos:=kp) hl YdW pos pins s1 σ H1 (fun zs H2=>match zs with | [v]=>V1 X.gx j vs Q v H2 | _=>False) I1 h) fun ws s2 hz=>⟨trivial,?_⟩
 obtain ⟨zs,H2,I2,r2,hz⟩:=hz
 match zs,r2,hz with
 | [v],r2,hz =>
  obtain ⟨l,f,fd,ps,sp,ys,kv,gs,rfl,rfl,F,b,hf,hS,h64,hkv,hgs,hy,hgd,q⟩:=hz
  obtain ⟨u,rfl,ru⟩:=XF r1
  obtain rfl:u=Value.ref l:=ru
  obtain ⟨u2,rfl,ru2⟩:=XF r2
  obtain rfl:u2=Value.ref f:=ru2
  exact YaY I2 (hr.mono hj) F b hS h64 hkv hgs hy hgd q
end
end L2
namespace L2
open PySem
def sortE (st:Stmt):Expr:=match st with
 | .Assign _ (.Call _ _ [⟨_,e,_⟩] _) _=>e
 | _ => .Constant .none 0 ⟨0,0,0,0⟩
end L2
set_option maxHeartbeats 8000000
namespace KW
open PySem L2
def top (i:Nat):Stmt:=PySem.Challenge.pw_countgen_k24_lists_in_order_judged.main.body.getD i (.Pass ⟨0,0,0,0⟩)
abbrev Z0e:Stmt:=top 6
theorem Z0M:FnScope ["book","name","pair"] ["book","name"] (Yi Z0e):=⟨rfl,rfl,rfl,by decide +kernel,rfl,by decide +kernel,by decide +kernel⟩
abbrev Zd:Stmt:=top 8
theorem Z0x:FnScope ["thing"] ["thing"] (Yi Zd):=⟨rfl,rfl,rfl,by decide +kernel,rfl,by decide +kernel,by decide +kernel⟩
abbrev Zv:Stmt:=top 9
theorem Zp:FnScope ["branches","mark","place","branch"] ["branches","mark"] (Yi Zv):=⟨rfl,rfl,rfl,by decide +kernel,rfl,by decide +kernel,by decide +kernel⟩
abbrev Z0f:Stmt:=top 10
theorem Q1:FnScope ["branches","value"] ["branches","value"] (Yi Z0f):=⟨rfl,rfl,rfl,by decide +kernel,rfl,by decide +kernel,by decide +kernel⟩
abbrev Z0g:Stmt:=top 11
theorem Z0N:FnScope ["shape","value","kind"] ["shape","value"] (Yi Z0g):=⟨rfl,rfl,rfl,by decide +kernel,rfl,by decide +kernel,by decide +kernel⟩
abbrev Zq:Stmt:=top 12
theorem ZQ:FnScope ["book","shape","value","kind"] ["book","shape","value"] (Yi Zq):=⟨rfl,rfl,rfl,by decide +kernel,rfl,by decide +kernel,by decide +kernel⟩
abbrev Zw:Stmt:=top 13
theorem Z11:FnScope ["keys"] ["keys"] (Yi Zw):=⟨rfl,rfl,rfl,by decide +kernel,rfl,by decide +kernel,by decide +kernel⟩
abbrev ZR:Stmt:=top 14
theorem UM:FnScope ["keys"] ["keys"] (Yi ZR):=⟨rfl,rfl,rfl,by decide +kernel,rfl,by decide +kernel,by decide +kernel⟩
abbrev ZS:Stmt:=top 15
theorem UN:FnScope ["keys"] ["keys"] (Yi ZS):=⟨rfl,rfl,rfl,by decide +kernel,rfl,by decide +kernel,by decide +kernel⟩
abbrev Z01:Stmt:=top 16
theorem Qu:FnScope ["keys"] ["keys"] (Yi Z01):=⟨rfl,rfl,rfl,by decide +kernel,rfl,by decide +kernel,by decide +kernel⟩
abbrev Zk:Stmt:=top 17
theorem Ze:FnScope ["keys","groups","key"] ["keys"] (Yi Zk):=⟨rfl,rfl,rfl,by decide +kernel,rfl,by decide +kernel,by decide +kernel⟩
abbrev Z02:Stmt:=top 18
theorem ZT:FnScope ["size","keys","told","group"] ["size","keys"] (Yi Z02):=⟨rfl,rfl,rfl,by decide +kernel,rfl,by decide +kernel,by decide +kernel⟩
abbrev Z0h:Stmt:=top 19
theorem ZC:FnScope ["shape","keys","kind","size","rises"] ["shape","keys"] (Yi Z0h):=⟨rfl,rfl,rfl,by decide +kernel,rfl,by decide +kernel,by decide +kernel⟩
abbrev Z0i:Stmt:=top 20
theorem Z0O:FnScope ["shape","value","keys","kind"] ["shape","value","keys"] (Yi Z0i):=⟨rfl,rfl,rfl,by decide +kernel,rfl,by decide +kernel,by decide +kernel⟩
abbrev Z0y:Stmt:=top 21
theorem Zr:FnScope ["book","shape","value","keys","part","thing","key"] ["book","shape","value"] (Yi Z0y):=⟨rfl,rfl,rfl,by decide +kernel,rfl,by decide +kernel,by decide +kernel⟩
abbrev Zl:Stmt:=top 23
theorem ZK:FnScope ["book","shape","value","key"] ["book","shape","value"] (Yi Zl):=⟨rfl,rfl,rfl,by decide +kernel,rfl,by decide +kernel,by decide +kernel⟩
abbrev Qv:Stmt:=top 24
theorem YdG:FnScope ["book","shape","value"] ["book","shape","value"] (Yi Qv):=⟨rfl,rfl,rfl,by decide +kernel,rfl,by decide +kernel,by decide +kernel⟩
abbrev Z0z:Stmt:=top 25
theorem Ya0:FnScope ["book","shape","value"] ["book","shape","value"] (Yi Z0z):=⟨rfl,rfl,rfl,by decide +kernel,rfl,by decide +kernel,by decide +kernel⟩
abbrev Z03:Stmt:=top 27
theorem Qw:FnScope ["_law_found"] ["_law_found"] (Yi Z03):=⟨rfl,rfl,rfl,by decide +kernel,rfl,by decide +kernel,by decide +kernel⟩
abbrev ZH:Stmt:=top 28
theorem Z17:FnScope ["_law_script","_law_k"] ["_law_script","_law_k"] (Yi ZH):=⟨rfl,rfl,rfl,by decide +kernel,rfl,by decide +kernel,by decide +kernel⟩
abbrev Z0j:Stmt:=top 29
theorem Z3:FnScope ["_law_script","_law_cell","_law_low","_law_one","_law_letters","_law_start","_law_signs"] ["_law_script"] (Yi Z0j):=⟨rfl,rfl,rfl,by decide +kernel,rfl,by decide +kernel,by decide +kernel⟩
abbrev Z04:Stmt:=top 30
theorem Za:FnScope ["_law_part_here","_law_cell","_law_step","_law_places","_law_one","_law_other"] ["_law_part_here","_law_cell"] (Yi Z04):=⟨rfl,rfl,rfl,by decide +kernel,rfl,by decide +kernel,by decide +kernel⟩
abbrev ZD:Stmt:=top 31
theorem Z2:FnScope ["_law_some","_law_times","_law_cell","_law_found","_law_at","_law_lists_here","_law_once","_law_pair","_law_alikes","_law_place"] ["_law_some","_law_times","_law_cell"] (Yi ZD):=⟨rfl,rfl,rfl,by decide +kernel,rfl,by decide +kernel,by decide +kernel⟩
abbrev Z0k:Stmt:=top 32
theorem Z05:FnScope ["_law_pairs","_law_most","_law_one","_law_other"] ["_law_pairs","_law_most"] (Yi Z0k):=⟨rfl,rfl,rfl,by decide +kernel,rfl,by decide +kernel,by decide +kernel⟩
abbrev Z06:Stmt:=top 33
theorem Qx:FnScope ["_law_pairs","_law_times"] ["_law_pairs","_law_times"] (Yi Z06):=⟨rfl,rfl,rfl,by decide +kernel,rfl,by decide +kernel,by decide +kernel⟩
abbrev ZU:Stmt:=top 34
theorem Zi:FnScope ["_law_shape","_law_pairs","_law_good_here","_law_handed","_law_found","_law_told"] ["_law_shape","_law_pairs","_law_good_here"] (Yi ZU):=⟨rfl,rfl,rfl,by decide +kernel,rfl,by decide +kernel,by decide +kernel⟩
abbrev UV:Stmt:=top 35
theorem W5:FnScope ["_law_script","_law_part_here","_law_times","_law_some","_law_pairs"] ["_law_script"] (Yi UV):=⟨rfl,rfl,rfl,by decide +kernel,rfl,by decide +kernel,by decide +kernel⟩
abbrev Z6:Expr:=sortE (inDef ZD 0)
theorem Z0U:ClScope ["_law_pair"] ["_law_pair"] [] (Qp Z6):=⟨rfl,rfl,rfl,by decide +kernel,rfl,rfl,by decide,by decide +kernel,by decide +kernel,by decide +kernel,by decide +kernel⟩
abbrev Z7:Str:="_law_lists.<locals>.<lambda>"
theorem Vr:((("_law_lists":Str)++(".<locals>.":Str))++("<lambda>":Str))=Z7:=by decide +kernel
abbrev Zm (cl:List (Str×Addr)) (c:Addr) (pm ctv:Value):FuncData:=PySem.W.kla_fn "<lambda>" Z7 (YdA Z6) (YdB Z6) (Qp Z6) cl pm (.ref c) ctv
variable {g:Gx}
local macro_rules | `(tactic| walk_at "gn")=>`(tactic| simp only [Ys,List.set_cons_zero,List.set_cons_succ])
local macro_rules | `(tactic| walk_at "rd")=>`(tactic| simp (config:={ failIfUnchanged:=false,maxSteps:=10000000 }) only [L2.Xi,Yd2,nox_K,List.map_cons,List.map_nil,List.length_cons,List.length_nil,List.cons_append,List.nil_append,List.replicate_succ,List.replicate_zero,Nat.zero_add,Nat.reduceAdd,Nat.reduceSub,Nat.sub_self,Wa,tIfS,YcU,tOp,tC,tVar,rI0,rI,rU,tUn,tRet,tRetN,YcR,YcQ,YdV,tCont,tAsg,Ys,XQ,YU,YaH,tNil,tCB,YaI,tTry,Yd6,Yd5,sFld,tFld,tMake,tMeth,Ends.gone,Yco,tB,tAnd,tOr,tNot,YcO,tOrV,YcP,tIf,Ybi,Yag,YcW,tSl,Ybb,tAug,rIxL,rIxT,rSlL,tLst,tTup,XR,tRev,tLZ,Yc3,Yd3,Yc1,Yc2,rIn,tBM,tBM0,Yah,Yce,rEq,rNe,Yal,Ydn,rCat,rSetL,gSub,ipI,Yw,List.getD_cons_zero,List.getD_cons_succ,decide_true,not_true_eq_false,not_false_eq_true,
 exists_eq_left',exists_eq_left,exists_eq',exists_eq,exists_and_left,and_assoc,Option.some.injEq,V.int.injEq,V.bl.injEq,V.ref.injEq,V.str.injEq,List.getElem?_cons_zero,List.getElem?_cons_succ,List.set_cons_zero,List.set_cons_succ,List.cons.injEq,and_true,true_and,List.append_nil,decide_eq_true_eq,Bool.not_eq_true',decide_eq_false_iff_not,Bool.not_not,Bool.not_true,Bool.not_false,Bool.true_eq_false,Bool.false_eq_true,if_true,if_false,ite_true,ite_false])
theorem cm {i j:Int} {m n:Nat} (h1:i.natAbs<2^m) (h2:j.natAbs<2^n) (h:m+n≤100000000:=by decide):UT i j:=⟨m,n,h1,h2,h⟩
theorem cpow {i j:Int} (h:0≤j∧j≤1000000∧i.natAbs<2^64:=by decide):CPow i j:=h
theorem few {n:Nat} (h:n≤100000):n≤sizeLine:=Nat.le_trans h (by decide)
def Z0A:Sp:=fun vs H Q _=>∃ i:Int,vs=[.int i]∧Q (.bl true) H
def Zx (K:PySem.W.Frag):Sp:=fun vs H Q _=>∃ (a:Addr) (ns:List Int) (k:Nat),vs=[.ref a,.int k]∧SqL K H a (ns.map V.int)∧ns.length≤63∧Q (.int (ns.getD k 0)) H
theorem YdH {ns:List Int} {k:Nat} (h:k<ns.length):atI (ns.map V.int) (k:Int)=some (.int (ns.getD k 0)):=XS (by rw [List.getElem?_map,List.getElem?_eq_getElem h];simp [h])
theorem Qy  {c_law_lists P_law_lists:Addr} (R:g.Raw "_law_whole" "_law_whole" Z03 ["_law_found"]) (b_bool:g.mg "bool"=none) (b_int:g.mg "int"=none) (Z0:g.mg "isinstance"=none):g.Fn (1) "_law_whole" ["_law_found"] (Z0A):=by
 refine R.fn Qw (fun vs H Q E h=>by obtain ⟨i,rfl,q⟩:=h;rfl) fun f_ cdv A outer s H vs Q E hr h=>?_
 obtain ⟨i,rfl,q⟩:=h
 refine ⟨_,(@Yg _ _ _ (@Yk _ _ _ _ (@XD _ _ _ _ _ _ _ (@YF _ _ _ _ _ _ _ _ _ _ Z0 YS (@Ya _ _ _ _ _ (pv 0) (@Ya _ _ _ _ _ (@XM _ _ _ _ ("int") b_int (by decide +kernel) (by rfl) (by rfl) (by decide) (by decide)) Yd (by rfl)) (by rfl)) (by decide +kernel) (by rfl) (by rfl) (by decide) (by decide) (by rfl) (by rfl)) (@XC _ _ _ _ _ (@Yba _ _ _ _ (@YF _ _ _ _ _ _ _ _ _ _ Z0 YS (@Ya _ _ _ _ _ (pv 0) (@Ya _ _ _ _ _ (@XM _ _ _ _ ("bool") b_bool (by decide +kernel) (by rfl) (by rfl) (by decide) (by decide)) Yd (by rfl)) (by rfl)) (by decide +kernel) (by rfl) (by rfl) (by decide) (by decide) (by rfl) (by rfl))))))),?_⟩
 walk_at "rd"
 exact ⟨_,rfl,_,.int _,true,rfl,WG ⟨_,rfl,_,.int _,false,rfl,q⟩⟩
theorem Z18  {c_law_lists P_law_lists:Addr} (R:g.Raw "_law_cell_at" "_law_cell_at" ZH ["_law_script","_law_k"]) (b_len:g.mg "len"=none):g.Fn (1) "_law_cell_at" ["_law_script","_law_k"] (Zx g.K):=by
 refine R.fn Z17 (fun vs H Q E h=>by obtain ⟨a,ns,k,rfl,hS,hl,q⟩:=h;rfl) fun f_ cdv A outer s H vs Q E hr h=>?_
 obtain ⟨a,ns,k,rfl,hS,hl,q⟩:=h
 refine ⟨_,(@Yf _ _ _ _ _ (@YC _ _ _ _ _ _ _ _ (@Yp _ _ _ _ _ _ _ _ op_lt (pv 1) (@YF _ _ _ _ _ _ _ _ _ _ b_len YN (@Ya _ _ _ _ _ (pv 0) Yd (by rfl)) (by decide +kernel) (by rfl) (by rfl) (by decide) (by decide) (by rfl) (by rfl)) (Yo _)) (@Yg _ _ _ (@Yk _ _ _ _ (@Yj _ _ _ _ _ _ _ YY (pv 0) (pv 1) (fun _ _=>rfl)))) Yq) (@Yg _ _ _ (@Yk _ _ _ _ Ye))),?_⟩
 walk_at "rd"
 refine ⟨_,.inl hS,?_⟩
 refine Wn (fun c=>?_) (fun c=>?_)
 ·have c':=c
  rw [List.length_map] at c'
  exact ⟨_,hS,_,YdH (by omega),q⟩
 ·have c':=c
  rw [List.length_map] at c'
  rw [show ns.getD k 0=0 by simp [show ns.length≤k by omega]] at q
  exact q
mutual
inductive Vd (H:Hp):V→PyData→Prop
 | non:Vd H .non .none
 | bl (b:Bool):Vd H (.bl b) (.bool b)
 | int (i:Int):Vd H (.int i) (.int i)
 | str (l:List Nat) (h:PyData.strOk (S l)=true) (hl:l.length≤1000):Vd H (.str (S l)) (.str (S l))
 | lst {a:Addr} {vs:List V} {ds:List PyData}:H a=some (.lst vs)→vs.length≤1000→Vds H vs ds→Vd H (.ref a) (.list ds)
 | tup {a:Addr} {vs:List V} {ds:List PyData}:H a=some (.tup vs)→vs.length≤1000→Vds H vs ds→Vd H (.ref a) (.tuple ds)
inductive Vds (H:Hp):List V→List PyData→Prop
 | nil:Vds H [] []
 | cons {v:V} {d:PyData} {vs:List V} {ds:List PyData}:Vd H v d→Vds H vs ds→Vds H (v::vs) (d::ds)
end
mutual
theorem Vd.keep {H H':Hp} (e:Yb H H'):∀ {v:V} {d:PyData},Vd H v d→Vd H' v d
 | _,_,.non => .non
 | _,_,.bl b => .bl b
 | _,_,.int i => .int i
 | _,_,.str x h hl => .str x h hl
 | _,_,.lst h hn hs => .lst (e _ _ h) hn (hs.keep e)
 | _,_,.tup h hn hs => .tup (e _ _ h) hn (hs.keep e)
theorem Vds.keep {H H':Hp} (e:Yb H H'):∀ {vs:List V} {ds:List PyData},Vds H vs ds→Vds H' vs ds
 | _,_,.nil => .nil
 | _,_,.cons h hs => .cons (h.keep e) (hs.keep e)
end
mutual
theorem Vd.den {K:PySem.W.Frag} {H:Hp}:∀ {v:V} {d:PyData},Vd H v d→Den K H v d
 | _,_,.non => .non
 | _,_,.bl b => .bl b
 | _,_,.int i => .int i
 | _,_,.str x h hl => .str _ h
 | _,_,.lst h hn hs => .lst (SqL.of h) hs.den
 | _,_,.tup h hn hs => .tup (SqT.of h) hs.den
theorem Vds.den {K:PySem.W.Frag} {H:Hp}:∀ {vs:List V} {ds:List PyData},Vds H vs ds→Dens K H vs ds
 | _,_,.nil => .nil
 | _,_,.cons h hs => .cons h.den hs.den
end
theorem Vds.length {H:Hp}:∀ {vs:List V} {ds:List PyData},Vds H vs ds→vs.length=ds.length
 | _,_,.nil=>rfl
 | _,_,.cons _ hs=>congrArg (·+1) hs.length
theorem Vds.at {H:Hp}:∀ {vs:List V} {ds:List PyData} {i:Nat} {v:V},Vds H vs ds→vs[i]?=some v→∃ d,ds[i]?=some d∧Vd H v d
 | _,_,0,v,.cons a _,h=>by
  have:_=v:=Option.some.inj h
  subst this
  exact ⟨_,rfl,a⟩
 | _,_,i+1,v,.cons _ b,h=>b.at (i:=i) h
theorem Vds.append {H:Hp} {vs':List V} {ds':List PyData}:∀ {vs:List V} {ds:List PyData},Vds H vs ds→Vds H vs' ds'→Vds H (vs++vs') (ds++ds')
 | _,_,.nil,h=>h
 | _,_,.cons a b,h => .cons a (b.append h)
theorem Vds.take {H:Hp}:∀ {vs:List V} {ds:List PyData} (n:Nat),Vds H vs ds→Vds H (vs.take n) (ds.take n)
 | _,_,0,_=>by simp;exact .nil
 | _,_,n+1,.nil=>by simp;exact .nil
 | _,_,n+1,.cons a b => .cons a (b.take n)
def tn:PyData→String
 | .none=>"NoneType"
 | .bool _=>"bool"
 | .int _=>"int"
 | .str _=>"str"
 | .list _=>"list"
 | .tuple _=>"tuple"
 | _=>""
theorem Vd.ty {K:PySem.W.Frag} {H:Hp} {v:V} {d:PyData} (h:Vd H v d):TyOf K H v (.type (tn d)):=by
 cases h with
 | non=>exact .non
 | bl b=>exact .bl b
 | int i=>exact .int i
 | str l h hl=>exact .str _
 | lst h=>exact .lst h
 | tup h=>exact .tup h
inductive LK
 | many
 | rising
 | unlike
def LK.nm:LK→Str
 | .many=>"many"
 | .rising=>"rising"
 | .unlike=>"unlike"
inductive Sh
 | whole (lo hi:Int)
 | text (signs:List Nat)
 | row (ps:List Sh)
 | lst (k:LK) (p:Sh)
 | alike (p:Sh) (n:Nat)
 | pick (ms:List (List Nat)) (ps:List Sh)
 | use (nm:List Nat)
def Brs (K:PySem.W.Frag) (H:Hp) (as:List Addr) (ms:List (List Nat)) (vs:List V):Prop:=as.length=ms.length∧vs.length=ms.length∧∀ (j:Nat) a m v,as[j]?=some a→ms[j]?=some m→vs[j]?=some v→SqT K H a [.str (S m),v]
theorem Brs.keep {K:PySem.W.Frag} {H H':Hp} (e:Yb H H') {as:List Addr} {ms:List (List Nat)} {vs:List V} (h:Brs K H as ms vs):Brs K H' as ms vs:=⟨h.1,h.2.1,fun j a m v h1 h2 h3=>e.tup (h.2.2 j a m v h1 h2 h3)⟩
mutual
inductive ShAt (K:PySem.W.Frag) (H:Hp):V→Sh→Prop
 | whole {a:Addr} {lo hi:Int}:SqT K H a [.str "whole",.int lo,.int hi]→ShAt K H (.ref a) (.whole lo hi)
 | text {a:Addr} {signs:List Nat}:SqT K H a [.str "text",.str (S signs)]→signs.length≤1000→ShAt K H (.ref a) (.text signs)
 | row {a b:Addr} {vs:List V} {ps:List Sh}:SqT K H a [.str "row",.ref b]→SqT K H b vs→ShAts K H vs ps→vs.length≤1000→ShAt K H (.ref a) (.row ps)
 | lst {a:Addr} {v:V} {p:Sh} (k:LK):SqT K H a [.str k.nm,v]→ShAt K H v p→ShAt K H (.ref a) (.lst k p)
 | alike {a:Addr} {v:V} {p:Sh} (n:Nat):SqT K H a [.str "alike",v,.int n]→ShAt K H v p→ShAt K H (.ref a) (.alike p n)
 | pick {a b:Addr} {as:List Addr} {ms:List (List Nat)} {vs:List V} {ps:List Sh}:SqT K H a [.str "pick",.ref b]→SqT K H b (as.map V.ref)→Brs K H as ms vs→ShAts K H vs ps→as.length≤1000→ShAt K H (.ref a) (.pick ms ps)
 | use {a:Addr} {nm:List Nat}:SqT K H a [.str "use",.str (S nm)]→ShAt K H (.ref a) (.use nm)
inductive ShAts (K:PySem.W.Frag) (H:Hp):List V→List Sh→Prop
 | nil:ShAts K H [] []
 | cons {v:V} {p:Sh} {vs:List V} {ps:List Sh}:ShAt K H v p→ShAts K H vs ps→ShAts K H (v::vs) (p::ps)
end
mutual
theorem ShAt.keep {K:PySem.W.Frag} {H H':Hp} (e:Yb H H'):∀ {v:V} {d:Sh},ShAt K H v d→ShAt K H' v d
 | _,_,.whole h => .whole (e.tup h)
 | _,_,.text h hl => .text (e.tup h) hl
 | _,_,.row h h2 hs hl => .row (e.tup h) (e.tup h2) (hs.keep e) hl
 | _,_,.lst k h h2 => .lst k (e.tup h) (h2.keep e)
 | _,_,.alike n h h2 => .alike n (e.tup h) (h2.keep e)
 | _,_,.pick h h2 hb hs hl => .pick (e.tup h) (e.tup h2) (hb.keep e) (hs.keep e) hl
 | _,_,.use h => .use (e.tup h)
theorem ShAts.keep {K:PySem.W.Frag} {H H':Hp} (e:Yb H H'):∀ {vs:List V} {ds:List Sh},ShAts K H vs ds→ShAts K H' vs ds
 | _,_,.nil => .nil
 | _,_,.cons h hs => .cons (h.keep e) (hs.keep e)
end
theorem ShAts.length {K:PySem.W.Frag} {H:Hp}:∀ {vs:List V} {ds:List Sh},ShAts K H vs ds→vs.length=ds.length
 | _,_,.nil=>rfl
 | _,_,.cons _ hs=>congrArg (·+1) hs.length
theorem ShAts.at {K:PySem.W.Frag} {H:Hp}:∀ {vs:List V} {ds:List Sh} {i:Nat} {v:V},ShAts K H vs ds→vs[i]?=some v→∃ d,ds[i]?=some d∧ShAt K H v d
 | _,_,0,v,.cons a _,h=>by
  have:_=v:=Option.some.inj h
  subst this
  exact ⟨_,rfl,a⟩
 | _,_,i+1,v,.cons _ b,h=>b.at (i:=i) h
abbrev Bk:=List (List Nat×Sh)
def Wx (K:PySem.W.Frag) (H:Hp) (b:V) (bk:Bk):Prop:=∃ (a:Addr) (as:List Addr) (vs:List V),b = .ref a∧SqL K H a (as.map V.ref)∧Brs K H as (bk.map (·.1)) vs∧ShAts K H vs (bk.map (·.2))
theorem Wx.keep {K:PySem.W.Frag} {H H':Hp} (e:Yb H H') {b:V} {bk:Bk} (h:Wx K H b bk):Wx K H' b bk:=by
 obtain ⟨a,as,vs,h1,h2,h3,h4⟩:=h
 exact ⟨a,as,vs,h1,e.seq h2,h3.keep e,h4.keep e⟩
def plc (ms:List (List Nat)) (x:Str):Option Nat:=ms.findIdx? fun m=>decide (S m=x)
def WD (ms:List (List Nat)):PyData→Bool
 | .tuple [.str x,_]=>(plc ms x).isSome
 | _=>false
def X0 (ms:List (List Nat)) (ps:List Sh):PyData→List (Sh×PyData)
 | .tuple [.str x,d]=>((plc ms x).bind fun i=>ps[i]?).toList.map fun p=>(p,d)
 | _=>[]
theorem Wq {ms:List (List Nat)} {d:PyData} (h:WD ms d=true):∃ x d' i,d = .tuple [.str x,d']∧plc ms x=some i:=by
 unfold WD at h
 split at h
 ·exact ⟨_,_,_,rfl,(Option.some_get h).symm⟩
 ·cases h
theorem WE {ms:List (List Nat)} {x:Str} {i:Nat} (h:plc ms x=some i):i<ms.length:=by
 rw [plc,List.findIdx?_eq_some_iff_getElem] at h
 exact h.1
theorem Q2 {ms:List (List Nat)} {ps:List Sh} {d:PyData}:(X0 ms ps d).length≤1000:=by
 unfold X0
 split
 ·rw [List.length_map]
  exact Nat.le_trans (by cases (plc _ _).bind _<;>simp) (show 1≤1000 by decide)
 ·exact Nat.zero_le _
def YL:Sh→PyData→Bool
 | .whole lo hi,.int i=>decide (lo≤i)&&decide (i≤hi)
 | .text signs,.str x=>x.cps.toList.all fun c=>decide (c∈signs)
 | .row ps,.tuple ds=>decide (ds.length=ps.length)
 | .lst _ _,.list _=>true
 | .alike _ n,.list ds=>decide (ds.length=n)
 | .pick ms _,d=>WD ms d
 | .use _,_=>true
 | _,_=>false
def YE (bk:Bk):Sh→PyData→List (Sh×PyData)
 | .row ps,.tuple ds=>ps.zip ds
 | .lst _ p,.list ds=>ds.map fun d=>(p,d)
 | .alike p _,.list ds=>ds.map fun d=>(p,d)
 | .pick ms ps,d=>X0 ms ps d
 | .use nm,d=>((plc (bk.map (·.1)) (S nm)).bind fun i=>(bk.map (·.2))[i]?).toList.map fun p=>(p,d)
 | _,_=>[]
def Fnd (bk:Bk):Sh→Prop
 | .use nm=>∃ i,plc (bk.map (·.1)) (S nm)=some i
 | _=>True
def Enf (bk:Bk):Nat→Sh→PyData→Prop
 | 0,_,_=>False
 | n+1,sh,d=>YL sh d=true→Fnd bk sh∧∀ w∈YE bk sh d,Enf bk n w.1 w.2
theorem Wv (a b c:V):atI [a,b,c] 0=some a:=rfl
theorem VJ (a b c:V):atI [a,b,c] 1=some b:=rfl
theorem Ya1 (a b c:V):atI [a,b,c] 2=some c:=rfl
theorem YK (a b:V):atI [a,b] 0=some a:=rfl
theorem YH (a b:V):atI [a,b] 1=some b:=rfl
def ZF (K:PySem.W.Frag):Sp:=fun vs H Q _=>∃ v d,vs=[v]∧Vd H v d∧Q (.bl (match d with | .int _=>true | _=>false)) H
theorem Z0B  {c_law_lists P_law_lists:Addr} (R:g.Raw "is_whole_number" "is_whole_number" Zd ["thing"]) (b_bool:g.mg "bool"=none) (b_int:g.mg "int"=none) (Z0:g.mg "isinstance"=none):g.Fn (1) "is_whole_number" ["thing"] (ZF g.K):=by
 refine R.fn Z0x (fun vs H Q E h=>by obtain ⟨v,d,rfl,hd,q⟩:=h;rfl) fun f_ cdv A outer s H vs Q E hr h=>?_
 obtain ⟨v,d,rfl,hd,q⟩:=h
 refine ⟨_,(@Yg _ _ _ (@Yk _ _ _ _ (@XD _ _ _ _ _ _ _ (@YF _ _ _ _ _ _ _ _ _ _ Z0 YS (@Ya _ _ _ _ _ (pv 0) (@Ya _ _ _ _ _ (@XM _ _ _ _ ("int") b_int (by decide +kernel) (by rfl) (by rfl) (by decide) (by decide)) Yd (by rfl)) (by rfl)) (by decide +kernel) (by rfl) (by rfl) (by decide) (by decide) (by rfl) (by rfl)) (@XC _ _ _ _ _ (@Yba _ _ _ _ (@YF _ _ _ _ _ _ _ _ _ _ Z0 YS (@Ya _ _ _ _ _ (pv 0) (@Ya _ _ _ _ _ (@XM _ _ _ _ ("bool") b_bool (by decide +kernel) (by rfl) (by rfl) (by decide) (by decide)) Yd (by rfl)) (by rfl)) (by decide +kernel) (by rfl) (by rfl) (by decide) (by decide) (by rfl) (by rfl))))))),?_⟩
 walk_at "rd"
 cases hd with
 | non=>exact ⟨_,rfl,_,.non,false,rfl,Ww q⟩
 | bl b=>exact ⟨_,rfl,_,.bl b,true,rfl,WG ⟨_,rfl,_,.bl b,true,rfl,q⟩⟩
 | int i=>exact ⟨_,rfl,_,.int i,true,rfl,WG ⟨_,rfl,_,.int i,false,rfl,q⟩⟩
 | str l h hl=>exact ⟨_,rfl,_,.str _,false,rfl,Ww q⟩
 | lst h=>exact ⟨_,rfl,_,.lst h,false,rfl,Ww q⟩
 | tup h=>exact ⟨_,rfl,_,.tup h,false,rfl,Ww q⟩
def Z8 (K:PySem.W.Frag):Sp:=fun vs H Q _=>∃ (b:Addr) (as:List Addr) (ms:List (List Nat)) (us:List V) (x:Str),vs=[.ref b,.str x]∧SqT K H b (as.map V.ref)∧Brs K H as ms us∧∀ H',Yb H H'→Q (match plc ms x with | some i => .int (i:Nat) | none => .non) H'
theorem Z12  {c_law_lists P_law_lists:Addr} (R:g.Raw "branch_place" "branch_place" Zv ["branches","mark"]) (Zg:g.mg "enumerate"=none):g.Fn (1) "branch_place" ["branches","mark"] (Z8 g.K):=by
 refine R.fn Zp (fun vs H Q E h=>by obtain ⟨b,as,ms,us,x,rfl,hb,hbr,q⟩:=h;rfl) fun f_ cdv A outer s H vs Q E hr h=>?_
 obtain ⟨b,as,ms,us,x,rfl,hb,hbr,q⟩:=h
 refine ⟨_,(@Yf _ _ _ _ _ (@X7 _ _ _ _ _ _ _ _ PassesOwn.never rfl (@Ycm _ _ _ _ _ _ _ _ rfl Zg (@Ya _ _ _ _ _ (pv 0) Yd (by rfl)) (by rfl)) (@X6 _ _ _ _ _ (2) rfl (@YO _ _ _ _ _ (@Yu _ _ (2) _ Zp.nd rfl (.inl rfl) (by first | exact .inl rfl | exact .inr rfl | assumption)) (@YO _ _ _ _ _ (@Yu _ _ (3) _ Zp.nd rfl (.inl rfl) (by first | exact .inl rfl | exact .inr rfl | assumption)) Xx (by rfl)) (by rfl)) (by rfl) (by rfl)) (@Yg _ _ _ (@YC _ _ _ _ _ _ _ _ (@Yp _ _ _ _ _ _ _ _ YQ (@Yj _ _ _ _ _ _ _ Yl (pv 3) Ye (fun _ _=>rfl)) (pv 1) (Yo _)) (@Yg _ _ _ (@Yk _ _ _ _ (pv 2))) Yq)) (by intro _;rfl)) (@Yg _ _ _ (@Yk _ _ _ _ Xz))),?_⟩
 walk_at "rd"
 refine YaU (K:=g.K) (xs:=as.map V.ref) (fun i σ H'=>∃ o2 o3,σ=[some (.ref b),some (.str x),o2,o3]∧Yb H H'∧∀ j m,j<i→ms[j]?=some m→S m≠x) (fun R r=>by walk_at "rd";exact r) ⟨_,_,rfl,.refl H,fun j m h=>by omega⟩ (fun i σ H' hi ⟨o2,o3,_,sm,_⟩=>sm.tup hb) ?_ ?_
 ·rintro i v σ H' T hv ⟨o2,o3,rfl,sm,hno⟩ hT
  obtain ⟨b1,b2,b3⟩:=hbr
  have hi:i<as.length:=by simpa using (List.getElem?_eq_some_iff.mp hv).1
  have ha:as[i]?=some as[i]:=List.getElem?_eq_getElem hi
  rw [List.getElem?_map,ha] at hv
  have:V.ref as[i]=v:=Option.some.inj hv
  subst this
  have hm:ms[i]?=some (ms[i]'(by omega)):=List.getElem?_eq_getElem _
  have hu:us[i]?=some (us[i]'(by omega)):=List.getElem?_eq_getElem _
  have ht:=b3 i _ _ _ ha hm hu
  have s2:=sm.trans (.upd_new hT (.tup [.int (i:Int),.ref as[i]]))
  generalize hme:ms[i]'(by omega)=m at hm ht
  walk_at "rd"
  refine ⟨_,SqT.of Yc,rfl,_,_,rfl,_,_,rfl,rfl,_,rfl,_,s2.tup ht,_,YK _ _,rfl,?_⟩
  by_cases c:S m=x
  ·have hp:plc ms x=some i:=by
    rw [plc,List.findIdx?_eq_some_iff_getElem]
    refine ⟨by omega,decide_eq_true (by rw [hme];exact c),fun j hj=>?_⟩
    have:=hno j (ms[j]'(by omega)) hj (List.getElem?_eq_getElem _)
    simpa using this
   rw [if_pos (congrArg V.str c)]
   have q:=q _ s2
   rw [hp] at q
   exact q
  ·rw [if_neg (fun e=>c (V.str.inj e))]
   refine ⟨s2,fun j m' hj hm'=>?_⟩
   rcases Nat.lt_or_ge j i with h | h
   ·exact hno j m' h hm'
   ·have:j=i:=by omega
    subst this
    rw [hm] at hm'
    have:=Option.some.inj hm'
    subst this
    exact c
 ·rintro σ H' ⟨o2,o3,rfl,sm,hno⟩
  walk_at "rd"
  have:plc ms x=none:=by
   rw [plc,List.findIdx?_eq_none_iff]
   intro m hm
   obtain ⟨j,hj⟩:=List.mem_iff_getElem?.mp hm
   have hjl:=(List.getElem?_eq_some_iff.mp hj).1
   exact decide_eq_false (hno j m (by rw [List.length_map,hbr.1];exact hjl) hj)
  have q:=q H' sm
  rw [this] at q
  exact q
theorem Xg {ms:List (List Nat)} (ps:List Sh) (d:PyData):WD ms d=YL (.pick ms ps) d:=by cases d<;>rfl
theorem XO (bk:Bk) (nm:List Nat) (d:PyData):YE bk (.use nm) d=((plc (bk.map (·.1)) (S nm)).bind fun i=>(bk.map (·.2))[i]?).toList.map fun p=>(p,d):=by cases d<;>rfl
theorem Xh (bk:Bk) (ms:List (List Nat)) (ps:List Sh) (d:PyData):YE bk (.pick ms ps) d=X0 ms ps d:=by cases d<;>rfl
def Z0P (K:PySem.W.Frag):Sp:=fun vs H Q _=>∃ (b:V) (bk:Bk) (x:Str) (i:Nat) (H0:Hp),vs=[b,.str x]∧Yb H0 H∧Wx K H0 b bk∧plc (bk.map (·.1)) x=some i∧∀ v sh,(bk.map (·.2))[i]?=some sh→ShAt K H0 v sh→Q v H
theorem Q3  {c_law_lists P_law_lists:Addr} (R:g.Raw "shape_of" "shape_of" Z0e ["book","name"]):g.Fn (1) "shape_of" ["book","name"] (Z0P g.K):=by
 refine R.fn Z0M (fun vs H Q E h=>by obtain ⟨b,bk,x,i,H0,rfl,s0,hb,hi,q⟩:=h;rfl) fun f_ cdv A outer s H vs Q E hr h=>?_
 obtain ⟨b,bk,x,i,H0,rfl,s0,hb,hi,q⟩:=h
 refine ⟨_,(@Yf _ _ _ _ _ (@X7 _ _ _ _ _ _ _ _ PassesOwn.never rfl (@YW _ _ _ _ (pv 0)) (@Yu _ _ (2) _ Z0M.nd rfl (.inl rfl) (by first | exact .inl rfl | exact .inr rfl | assumption)) (@Yg _ _ _ (@YC _ _ _ _ _ _ _ _ (@Yp _ _ _ _ _ _ _ _ YQ (@Yj _ _ _ _ _ _ _ Yl (pv 2) Ye (fun _ _=>rfl)) (pv 1) (Yo _)) (@Yg _ _ _ (@Yk _ _ _ _ (@Yj _ _ _ _ _ _ _ Yl (pv 2) Ye (fun _ _=>rfl)))) Yq)) (by intro _;rfl)) (@Yg _ _ _ U0)),?_⟩
 obtain ⟨a,as,vs,rfl,hS,⟨b1,b2,b3⟩,hsh⟩:=hb
 have hil:=WE hi
 walk_at "rd"
 refine W1 (K:=g.K) (a:=a) (xs:=as.map V.ref) (fun j σ H'=>∃ o2,σ=[some (.ref a),some (.str x),o2]∧H'=H∧j≤i) (fun R r=>by walk_at "rd";exact r) ⟨_,rfl,rfl,Nat.zero_le _⟩ (fun j σ H' _ ⟨o2,_,e,_⟩=>by rw [e];exact s0.seq hS) ?_ ?_
 ·rintro j v σ H' hv ⟨o2,rfl,rfl,hj⟩
  have hjl:j<as.length:=by simpa using (List.getElem?_eq_some_iff.mp hv).1
  have ha:as[j]?=some as[j]:=List.getElem?_eq_getElem hjl
  rw [List.getElem?_map,ha] at hv
  have:V.ref as[j]=v:=Option.some.inj hv
  subst this
  have hm:(bk.map (·.1))[j]?=some ((bk.map (·.1))[j]'(by omega)):=List.getElem?_eq_getElem _
  have hu:vs[j]?=some (vs[j]'(by omega)):=List.getElem?_eq_getElem _
  have ht:=b3 j _ _ _ ha hm hu
  obtain ⟨sh,g1,s1⟩:=hsh.at hu
  have hpl:=hi
  rw [plc,List.findIdx?_eq_some_iff_getElem] at hpl
  obtain ⟨_,p1,p2⟩:=hpl
  walk_at "rd"
  refine ⟨_,s0.tup ht,_,YK _ _,rfl,?_⟩
  by_cases c:S ((bk.map (·.1))[j]'(by omega))=x
  ·have:j=i:=by
    rcases Nat.lt_or_ge j i with h | h
    ·exact ((p2 j h) (decide_eq_true c)).elim
    ·omega
   subst this
   rw [if_pos (congrArg V.str c)]
   exact ⟨_,s0.tup ht,_,YH _ _,q _ _ g1 s1⟩
  ·rw [if_neg (fun e=>c (V.str.inj e))]
   have:j≠i:=fun e=>by subst e;exact c (of_decide_eq_true p1)
   omega
 ·rintro σ H' ⟨o2,rfl,rfl,hj⟩
  rw [List.length_map] at hj
  rw [List.length_map] at hil b1
  omega
def Z0Q (K:PySem.W.Frag):Sp:=fun vs H Q _=>∃ (b:Addr) (as:List Addr) (ms:List (List Nat)) (us:List V) (v:V) (d:PyData),vs=[.ref b,v]∧SqT K H b (as.map V.ref)∧Brs K H as ms us∧Vd H v d∧∀ H',Yb H H'→Q (.bl (WD ms d)) H'
theorem Q4 {k:Nat}  {c_law_lists P_law_lists:Addr} (R:g.Raw "has_mark" "has_mark" Z0f ["branches","value"]) (Z4:g.Fn k "branch_place" ["branches","mark"] (Z8 g.K)) (Z0:g.mg "isinstance"=none) (b_len:g.mg "len"=none) (b_str:g.mg "str"=none) (Z1:g.mg "tuple"=none):g.Fn (k+1) "has_mark" ["branches","value"] (Z0Q g.K):=by
 refine R.fn Q1 (fun vs H Q E h=>by obtain ⟨b,as,ms,us,v,d,rfl,hb,hbr,hv,q⟩:=h;rfl) fun f_ cdv A outer s H vs Q E hr h=>?_
 obtain ⟨b,as,ms,us,v,d,rfl,hb,hbr,hv,q⟩:=h
 refine ⟨_,(@Yf _ _ _ _ _ (@YC _ _ _ _ _ _ _ _ (@W8 _ _ _ _ _ _ _ (@Wl _ _ _ _ (@XB _ _ _ (@YF _ _ _ _ _ _ _ _ _ _ Z0 YS (@Ya _ _ _ _ _ (pv 1) (@Ya _ _ _ _ _ (@XM _ _ _ _ ("tuple") Z1 (by decide +kernel) (by rfl) (by rfl) (by decide) (by decide)) Yd (by rfl)) (by rfl)) (by decide +kernel) (by rfl) (by rfl) (by decide) (by decide) (by rfl) (by rfl)) (by intro _;rfl))) (@WW _ _ _ _ (@Yp _ _ _ _ _ _ _ _ YaG (@YF _ _ _ _ _ _ _ _ _ _ b_len YN (@Ya _ _ _ _ _ (pv 1) Yd (by rfl)) (by decide +kernel) (by rfl) (by rfl) (by decide) (by decide) (by rfl) (by rfl)) Ye (Yo _)))).pt (@Yg _ _ _ (@Yk _ _ _ _ X5)) Yq) (@Yg _ _ _ (@Yk _ _ _ _ (@XD _ _ _ _ _ _ _ (@YF _ _ _ _ _ _ _ _ _ _ Z0 YS (@Ya _ _ _ _ _ (@Yj _ _ _ _ _ _ _ Yl (pv 1) Ye (fun _ _=>rfl)) (@Ya _ _ _ _ _ (@XM _ _ _ _ ("str") b_str (by decide +kernel) (by rfl) (by rfl) (by decide) (by decide)) Yd (by rfl)) (by rfl)) (by decide +kernel) (by rfl) (by rfl) (by decide) (by decide) (by rfl) (by rfl)) (@XC _ _ _ _ _ (@Y6 _ _ _ _ _ _ _ _ Yaf (@Yz _ _ _ _ _ _ _ _ _ _ _ _ Z4 hr (@Ya _ _ _ _ _ (pv 0) (@Ya _ _ _ _ _ (@Yj _ _ _ _ _ _ _ Yl (pv 1) Ye (fun _ _=>rfl)) Yd (by rfl)) (by rfl)) (by omega) (by rfl) (by rfl) (by decide) (by rfl) (by rfl)) Xz (Yo _))))))),?_⟩
 have q0:=q H (.refl H)
 have ty:=hv.ty (K:=g.K)
 walk_at "rd"
 cases hv with
 | @tup a vs ds h hl hds =>
  refine ⟨_,rfl,_,ty,true,rfl,Ym (by simp) ⟨a,rfl,_,.inr (SqT.of h),?_⟩⟩
  cases hds with
  | nil=>exact XT (by simp) q0
  | @cons v1 d1 vs1 ds1 h1 hds1 =>
  cases hds1 with
  | nil=>cases d1<;>exact XT (by simp) q0
  | @cons v2 d2 vs2 ds2 h2 hds2 =>
  cases hds2 with
  | @cons v3 d3 vs3 ds3 h3 hds3=>cases d1<;>exact XT (by simp;omega) q0
  | nil =>
  refine Ym (by simp) ⟨a,rfl,_,SqT.of h,_,YK _ _,_,rfl,_,h1.ty,?_⟩
  cases h1 with
  | str l hs hl =>
   refine ⟨true,rfl,WG ⟨a,rfl,_,SqT.of h,_,YK _ _,b,as,ms,us,S l,rfl,hb,hbr,fun H' s'=>?_⟩⟩
   have q:=q H' s'
   simp only [WD] at q
   cases e:plc ms (S l) with
   | none=>rw [e] at q;exact q
   | some i=>rw [e] at q;exact q
  | _=>exact ⟨false,rfl,Ww q0⟩
 | _=>exact ⟨_,rfl,_,ty,false,rfl,XT rfl q0⟩
variable {bk:Bk}
variable {m:Nat}
def Z0R (K:PySem.W.Frag):Sp:=fun vs H Q _=>∃ (x v:V) (sh:Sh) (d:PyData),vs=[x,v]∧ShAt K H x sh∧Vd H v d∧∀ H',Yb H H'→Q (.bl (YL sh d)) H'
theorem Q5 {k:Nat}  {c_law_lists P_law_lists:Addr} (R:g.Raw "has_form" "has_form" Z0g ["shape","value"]) (Z0I:g.Fn k "is_whole_number" ["thing"] (ZF g.K)) (F_has_mark:g.Fn k "has_mark" ["branches","value"] (Z0Q g.K)) (b_all:g.mg "all"=none) (Z0:g.mg "isinstance"=none) (b_len:g.mg "len"=none) (b_list:g.mg "list"=none) (b_str:g.mg "str"=none) (Z1:g.mg "tuple"=none) (ZJ:g.ConT "OF_ONE_PART" ([.str "many",.str "rising",.str "unlike"])):g.Fn (k+1) "has_form" ["shape","value"] (Z0R g.K):=by
 refine R.fn Z0N (fun vs H Q E h=>by obtain ⟨x,v,sh,d,rfl,hx,hv,q⟩:=h;rfl) fun f_ cdv A outer s H vs Q E hr h=>?_
 obtain ⟨x,v,sh,d,rfl,hx,hv,q⟩:=h
 refine ⟨_,(@Yf _ _ _ _ _ (@YD _ _ (2) _ _ _ _ Z0N.nd rfl (.inl rfl) (@Yj _ _ _ _ _ _ _ Yl (pv 0) Ye (fun _ _=>rfl)) (by rfl) (by first | exact .inl rfl | exact .inr rfl | assumption)) (@Yf _ _ _ _ _ (@YC _ _ _ _ _ _ _ _ (@Yp _ _ _ _ _ _ _ _ YQ (pv 2) YA (Yo _)) (@Yg _ _ _ (@Yk _ _ _ _ (@XD _ _ _ _ _ _ _ (@Yz _ _ _ _ _ _ _ _ _ _ _ _ Z0I hr (@Ya _ _ _ _ _ (pv 1) Yd (by rfl)) (by omega) (by rfl) (by rfl) (by decide) (by rfl) (by rfl)) (@XC _ _ _ _ _ (@Ycb _ _ _ _ _ _ _ _ _ _ _ _ YcT YcT (@Yj _ _ _ _ _ _ _ Yl (pv 0) Ye (fun _ _=>rfl)) (pv 1) (@Yj _ _ _ _ _ _ _ Yl (pv 0) Ye (fun _ _=>rfl)) (by with_unfolding_all rfl)))))) Yq) (@Yf _ _ _ _ _ (@YC _ _ _ _ _ _ _ _ (@Yp _ _ _ _ _ _ _ _ YQ (pv 2) YA (Yo _)) (@Yg _ _ _ (@Yk _ _ _ _ (@XD _ _ _ _ _ _ _ (@YF _ _ _ _ _ _ _ _ _ _ Z0 YS (@Ya _ _ _ _ _ (pv 1) (@Ya _ _ _ _ _ (@XM _ _ _ _ ("str") b_str (by decide +kernel) (by rfl) (by rfl) (by decide) (by decide)) Yd (by rfl)) (by rfl)) (by decide +kernel) (by rfl) (by rfl) (by decide) (by decide) (by rfl) (by rfl)) (@XC _ _ _ _ _ (@YF _ _ _ _ _ _ _ _ _ _ b_all (Xp rfl) (@Ya _ _ _ _ _ (@XI _ _ _ _ _ _ _ ([none,some 0]) ((["sign","shape"]:List Str)) _ (Ys 0) _ _ (.own (.cap (i:=0) rfl rfl (by first | exact .inl rfl | exact .inr rfl) .nil)) rfl (@Ybu _ _ _ _ (pv 1)) (fun cl C s₀ H₀ fp pn=>(@Yu _ _ (0) _ (show List.Nodup (["sign","shape"]:List Str) by decide +kernel) rfl (.inl rfl) (.inr rfl))) (fun cl C s₀ H₀ fp pn=>Y2) (fun cl C s₀ H₀ fp pn=>(@Y6 _ _ _ _ _ _ _ _ Ybg (pv 0) (@Yj _ _ _ _ _ _ _ (Xq (K:=g.K)) (pv 1) Ye (fun _ _=>rfl)) rfl)) (by intro x hx;simp at hx;first | (subst hx;exact .inl rfl) | (rcases hx with rfl | rfl<;>exact .inl rfl) | (rcases hx with rfl | rfl | rfl<;>exact .inl rfl) | (rcases hx with rfl | rfl | rfl | rfl<;>exact .inl rfl) | (rcases hx with rfl | rfl | rfl | rfl | rfl<;>exact .inl rfl)) (by rfl) (by decide) (by decide +kernel) (by intro _;rfl)) Yd (by rfl)) (by decide +kernel) (by rfl) (by rfl) (by decide) (by decide) (by rfl) (by rfl)))))) Yq) (@Yf _ _ _ _ _ (@YC _ _ _ _ _ _ _ _ (@Yp _ _ _ _ _ _ _ _ YQ (pv 2) YA (Yo _)) (@Yg _ _ _ (@Yk _ _ _ _ (@XD _ _ _ _ _ _ _ (@YF _ _ _ _ _ _ _ _ _ _ Z0 YS (@Ya _ _ _ _ _ (pv 1) (@Ya _ _ _ _ _ (@XM _ _ _ _ ("tuple") Z1 (by decide +kernel) (by rfl) (by rfl) (by decide) (by decide)) Yd (by rfl)) (by rfl)) (by decide +kernel) (by rfl) (by rfl) (by decide) (by decide) (by rfl) (by rfl)) (@XC _ _ _ _ _ (@Y6 _ _ _ _ _ _ _ _ YQ (@YF _ _ _ _ _ _ _ _ _ _ b_len YN (@Ya _ _ _ _ _ (pv 1) Yd (by rfl)) (by decide +kernel) (by rfl) (by rfl) (by decide) (by decide) (by rfl) (by rfl)) (@YF _ _ _ _ _ _ _ _ _ _ b_len YN (@Ya _ _ _ _ _ (@Yj _ _ _ _ _ _ _ Yl (pv 0) Ye (fun _ _=>rfl)) Yd (by rfl)) (by decide +kernel) (by rfl) (by rfl) (by decide) (by decide) (by rfl) (by rfl)) (Yo _)))))) Yq) (@Yf _ _ _ _ _ (@YC _ _ _ _ _ _ _ _ (@Yp _ _ _ _ _ _ _ _ YQ (pv 2) YA (Yo _)) (@Yg _ _ _ (@Yk _ _ _ _ (@Yz _ _ _ _ _ _ _ _ _ _ _ _ F_has_mark hr (@Ya _ _ _ _ _ (@Yj _ _ _ _ _ _ _ Yl (pv 0) Ye (fun _ _=>rfl)) (@Ya _ _ _ _ _ (pv 1) Yd (by rfl)) (by rfl)) (by omega) (by rfl) (by rfl) (by decide) (by rfl) (by rfl)))) Yq) (@Yf _ _ _ _ _ (@YC _ _ _ _ _ _ _ _ (@Yp _ _ _ _ _ _ _ _ YQ (pv 2) YA (Yo _)) (@Yg _ _ _ (@Yk _ _ _ _ (@XD _ _ _ _ _ _ _ (@YF _ _ _ _ _ _ _ _ _ _ Z0 YS (@Ya _ _ _ _ _ (pv 1) (@Ya _ _ _ _ _ (@XM _ _ _ _ ("list") b_list (by decide +kernel) (by rfl) (by rfl) (by decide) (by decide)) Yd (by rfl)) (by rfl)) (by decide +kernel) (by rfl) (by rfl) (by decide) (by decide) (by rfl) (by rfl)) (@XC _ _ _ _ _ (@Y6 _ _ _ _ _ _ _ _ YQ (@YF _ _ _ _ _ _ _ _ _ _ b_len YN (@Ya _ _ _ _ _ (pv 1) Yd (by rfl)) (by decide +kernel) (by rfl) (by rfl) (by decide) (by decide) (by rfl) (by rfl)) (@Yj _ _ _ _ _ _ _ Yl (pv 0) Ye (fun _ _=>rfl)) (Yo _)))))) Yq) (@Yf _ _ _ _ _ (@YC _ _ _ _ _ _ _ _ (@Yp _ _ _ _ _ _ _ _ Ul (pv 2) (@Yc4 _ _ _ _ _ ZJ (by rfl) (by rfl) (by decide)) rfl) (@Yg _ _ _ (@Yk _ _ _ _ (@YF _ _ _ _ _ _ _ _ _ _ Z0 YS (@Ya _ _ _ _ _ (pv 1) (@Ya _ _ _ _ _ (@XM _ _ _ _ ("list") b_list (by decide +kernel) (by rfl) (by rfl) (by decide) (by decide)) Yd (by rfl)) (by rfl)) (by decide +kernel) (by rfl) (by rfl) (by decide) (by decide) (by rfl) (by rfl)))) Yq) (@Yg _ _ _ (@Yk _ _ _ _ X5))))))))),?_⟩
 have q0:=q H (.refl H)
 have ty:=hv.ty (K:=g.K)
 cases hx with
 | @whole a lo hi ha =>
  walk_at "rd"
  refine ⟨_,ha,_,Wv _ _ _,?_⟩
  walk_at "rd"
  refine ⟨v,d,rfl,hv,_,rfl,?_⟩
  cases hv with
  | int i =>
   refine WG ⟨_,ha,_,VJ _ _ _,_,rfl,_,rfl,?_⟩
   refine Wn (fun c=>?_) (fun c=>?_)
   ·refine ⟨_,ha,_,Ya1 _ _ _,_,rfl,_,rfl,?_⟩
    simp only [YL,decide_eq_true c,Bool.true_and] at q0;exact q0
   ·simp only [YL,decide_eq_false c,Bool.false_and] at q0;exact q0
  | _=>exact Ww q0
 | @text a signs ha hn =>
  walk_at "rd"
  refine ⟨_,ha,_,YK _ _,?_⟩
  walk_at "rd"
  refine Ym (by decide) ?_
  cases hv with
  | str l h hl =>
   refine ⟨_,rfl,_,.str _,true,rfl,WG ?_⟩
   refine Yao (l:=l) ((l.map fun c=>decide (c∈signs)).map V.bl) (fun R r=>by walk_at "rd";exact r) (by simp) (by omega) ?_ ?_
   ·intro i c y H' hc hy sm R r
    rw [List.getElem?_map,List.getElem?_map,hc] at hy
    have:V.bl (decide (c∈signs))=y:=Option.some.inj hy
    subst this
    walk_at "rd"
    refine ⟨_,sm.tup ha,_,YH _ _,?_⟩
    walk_at "rd"
    rw [Yds]
    exact r H' (.refl H')
   ·intro D H' hD sm hd
    refine ⟨D,rfl,_,SqL.of hd,?_⟩
    have:=q H' sm
    simp only [YL,Xt] at this
    simpa [List.all_map] using this
  | _=>exact ⟨_,rfl,_,ty,false,rfl,Ww q0⟩
 | @row a b vs ps ha hb hs hn =>
  walk_at "rd"
  refine ⟨_,ha,_,YK _ _,?_⟩
  walk_at "rd"
  refine Ym (by decide) (Ym (by decide) ?_)
  cases hv with
  | @tup c us ds h hl hds =>
   refine ⟨_,rfl,_,ty,true,rfl,WG ⟨_,rfl,_,.inr (SqT.of h),_,ha,_,YH _ _,_,rfl,_,.inr hb,?_⟩⟩
   have e1:=hds.length
   have e2:=hs.length
   rw [show decide ((us.length:Int)=(vs.length:Int))=YL (.row ps) (.tuple ds) from decide_eq_decide.mpr (by omega)]
   exact q0
  | _=>exact ⟨_,rfl,_,ty,false,rfl,Ww q0⟩
 | @lst a v' p k ha hp =>
  walk_at "rd"
  refine ⟨_,ha,_,YK _ _,?_⟩
  walk_at "rd"
  refine Ym (by cases k<;>decide) (Ym (by cases k<;>decide) (Ym (by cases k<;>decide) (Ym (by cases k<;>decide) (Ym (by cases k<;>decide) fun c hc=>⟨_,.inr hc,rfl,rfl,XT (by cases k<;>decide +kernel) ?_⟩))))
  cases hv with
  | lst h hl hds=>exact ⟨_,rfl,_,ty,true,rfl,q0⟩
  | _=>exact ⟨_,rfl,_,ty,false,rfl,q0⟩
 | @alike a v' p n ha hp =>
  walk_at "rd"
  refine ⟨_,ha,_,Wv _ _ _,?_⟩
  walk_at "rd"
  refine Ym (by decide) (Ym (by decide) (Ym (by decide) (Ym (by decide) ?_)))
  cases hv with
  | @lst c us ds h hl hds =>
   refine ⟨_,rfl,_,ty,true,rfl,WG ⟨_,rfl,_,.inl (SqL.of h),_,ha,_,Ya1 _ _ _,?_⟩⟩
   have e1:=hds.length
   refine ⟨rfl,?_⟩
   rw [show decide (V.int (us.length:Int)=V.int (n:Int))=YL (.alike p n) (.list ds) from decide_eq_decide.mpr ⟨fun z=>by have:=V.int.inj z;omega,fun z=>by rw [show us.length=n by omega]⟩]
   exact q0
  | _=>exact ⟨_,rfl,_,ty,false,rfl,Ww q0⟩
 | @pick a b as ms us ps ha hb hbr hs hn =>
  walk_at "rd"
  refine ⟨_,ha,_,YK _ _,?_⟩
  walk_at "rd"
  refine Ym (by decide) (Ym (by decide) (Ym (by decide) ?_))
  refine ⟨_,ha,_,YH _ _,b,as,ms,us,v,d,rfl,hb,hbr,hv,fun H' s'=>?_⟩
  rw [Xg ps]
  exact q H' s'
 | @use a nm ha =>
  walk_at "rd"
  refine ⟨_,ha,_,YK _ _,?_⟩
  walk_at "rd"
  refine Ym (by decide) (Ym (by decide) (Ym (by decide) (Ym (by decide) (Ym (by decide) fun c hc=>⟨_,.inr hc,rfl,rfl,Ym (by decide +kernel) ?_⟩))))
  exact q0
def UW (K:PySem.W.Frag) (H0 H:Hp) (as:List Addr) (ws:List (Sh×PyData)):Prop:=as.length=ws.length∧∀ (j:Nat) a w,as[j]?=some a→ws[j]?=some w→∃ y z,H a=some (.tup [y,z])∧ShAt K H0 y w.1∧Vd H0 z w.2
def ZV (K:PySem.W.Frag):Sp:=fun vs H Q _=>∃ (bk:Bk) (b x v:V) (sh:Sh) (d:PyData) (H0:Hp),vs=[b,x,v]∧Yb H0 H∧Wx K H0 b bk∧Fnd bk sh∧ShAt K H0 x sh∧Vd H0 v d∧YL sh d=true∧∀ l as H',Yb H H'→H l=none→H' l=some (.lst (as.map V.ref))→UW K H0 H' as (YE bk sh d)→Q (.ref l) H'
theorem Qz (bk:Bk) (lo hi:Int) (d:PyData):YE bk (.whole lo hi) d=[]:=by cases d<;>rfl
theorem Q6 (bk:Bk) (s:List Nat) (d:PyData):YE bk (.text s) d=[]:=by cases d<;>rfl
theorem Uz (K:PySem.W.Frag) (H0 H:Hp):UW K H0 H [] []:=⟨rfl,fun j a w h=>by simp at h⟩
variable {bk:Bk}
theorem Z0V {k:Nat}  {c_law_lists P_law_lists:Addr} (R:g.Raw "things_within" "things_within" Zq ["book","shape","value"]) (F_shape_of:g.Fn k "shape_of" ["book","name"] (Z0P g.K)) (Z4:g.Fn k "branch_place" ["branches","mark"] (Z8 g.K)) (b_list:g.mg "list"=none) (b_zip:g.mg "zip"=none) (ZJ:g.ConT "OF_ONE_PART" ([.str "many",.str "rising",.str "unlike"])):g.Fn (k+1) "things_within" ["book","shape","value"] (ZV g.K):=by
 refine R.fn ZQ (fun vs H Q E h=>by obtain ⟨bk,b,x,v,sh,d,H0,rfl,s0,hbk,hfd,hx,hv,hf,q⟩:=h;rfl) fun f_ cdv A outer s H vs Q E hr h=>?_
 obtain ⟨bk,b,x,v,sh,d,H0,rfl,s0,hbk,hfd,hx,hv,hf,q⟩:=h
 refine ⟨_,(@Yf _ _ _ _ _ (@YD _ _ (3) _ _ _ _ ZQ.nd rfl (.inl rfl) (@Yj _ _ _ _ _ _ _ Yl (pv 1) Ye (fun _ _=>rfl)) (by rfl) (by first | exact .inl rfl | exact .inr rfl | assumption)) (@Yf _ _ _ _ _ (@YC _ _ _ _ _ _ _ _ (@Yp _ _ _ _ _ _ _ _ YQ (pv 3) YA (Yo _)) (@Yg _ _ _ (@Yk _ _ _ _ (@QY _ _ _ _ _ _ _ _ rfl b_list rfl b_zip (@Ya _ _ _ _ _ (@Yj _ _ _ _ _ _ _ Yl (pv 1) Ye (fun _ _=>rfl)) (@Ya _ _ _ _ _ (pv 2) Yd (by rfl)) (by rfl)) (by rfl) (by rfl) (by rfl)))) Yq) (@Yf _ _ _ _ _ (@YC _ _ _ _ _ _ _ _ (@Yp _ _ _ _ _ _ _ _ YQ (pv 3) YA (Yo _)) (@Yg _ _ _ (@Yk _ _ _ _ (@YM _ _ _ _ (@Ya _ _ _ _ _ (@YR _ _ _ _ _ (@Ya _ _ _ _ _ (@Yj _ _ _ _ _ _ _ Yl (@Yj _ _ _ _ _ _ _ Yl (@Yj _ _ _ _ _ _ _ Yl (pv 1) Ye (fun _ _=>rfl)) (@Yz _ _ _ _ _ _ _ _ _ _ _ _ Z4 hr (@Ya _ _ _ _ _ (@Yj _ _ _ _ _ _ _ Yl (pv 1) Ye (fun _ _=>rfl)) (@Ya _ _ _ _ _ (@Yj _ _ _ _ _ _ _ Yl (pv 2) Ye (fun _ _=>rfl)) Yd (by rfl)) (by rfl)) (by omega) (by rfl) (by rfl) (by decide) (by rfl) (by rfl)) (fun _ _=>rfl)) Ye (fun _ _=>rfl)) (@Ya _ _ _ _ _ (@Yj _ _ _ _ _ _ _ Yl (pv 2) Ye (fun _ _=>rfl)) Yd (by rfl)) (by rfl))) Yd (Y0 _ _ _ _ _))))) Yq) (@Yf _ _ _ _ _ (@YC _ _ _ _ _ _ _ _ (@Yp _ _ _ _ _ _ _ _ YQ (pv 3) YA (Yo _)) (@Yg _ _ _ (@Yk _ _ _ _ (@YM _ _ _ _ (@Ya _ _ _ _ _ (@YR _ _ _ _ _ (@Ya _ _ _ _ _ (@Yz _ _ _ _ _ _ _ _ _ _ _ _ F_shape_of hr (@Ya _ _ _ _ _ (pv 0) (@Ya _ _ _ _ _ (@Yj _ _ _ _ _ _ _ Yl (pv 1) Ye (fun _ _=>rfl)) Yd (by rfl)) (by rfl)) (by omega) (by rfl) (by rfl) (by decide) (by rfl) (by rfl)) (@Ya _ _ _ _ _ (pv 2) Yd (by rfl)) (by rfl))) Yd (Y0 _ _ _ _ _))))) Yq) (@Yf _ _ _ _ _ (@YC _ _ _ _ _ _ _ _ (@W8 _ _ _ _ _ _ _ (@Yp _ _ _ _ _ _ _ _ YQ (pv 3) YA (Yo _)) (@WW _ _ _ _ (@Yp _ _ _ _ _ _ _ _ Ul (pv 3) (@Yc4 _ _ _ _ _ ZJ (by rfl) (by rfl) (by decide)) rfl))).pt (@Yg _ _ _ (@Yk _ _ _ _ (@XI _ _ _ _ _ _ _ ([none,some 1]) ((["thing","shape"]:List Str)) _ (Ys 0) _ _ (.own (.cap (i:=1) rfl rfl (by first | exact .inl rfl | exact .inr rfl) .nil)) rfl (@YW _ _ _ _ (pv 2)) (fun cl C s₀ H₀ fp pn=>(@Yu _ _ (0) _ (show List.Nodup (["thing","shape"]:List Str) by decide +kernel) rfl (.inl rfl) (.inr rfl))) (fun cl C s₀ H₀ fp pn=>Y2) (fun cl C s₀ H₀ fp pn=>(@YR _ _ _ _ _ (@Ya _ _ _ _ _ (@Yj _ _ _ _ _ _ _ (Xq (K:=g.K)) (pv 1) Ye (fun _ _=>rfl)) (@Ya _ _ _ _ _ (pv 0) Yd (by rfl)) (by rfl)))) (by intro x hx;simp at hx;first | (subst hx;exact .inl rfl) | (rcases hx with rfl | rfl<;>exact .inl rfl) | (rcases hx with rfl | rfl | rfl<;>exact .inl rfl) | (rcases hx with rfl | rfl | rfl | rfl<;>exact .inl rfl) | (rcases hx with rfl | rfl | rfl | rfl | rfl<;>exact .inl rfl)) (by rfl) (by decide) (by decide +kernel) (by intro _;rfl)))) Yq) (@Yg _ _ _ (@Yk _ _ _ _ (@YM _ _ _ _ Yd)))))))),?_⟩
 cases hx with
 | @whole a lo hi ha =>
  walk_at "rd"
  refine ⟨_,s0.tup ha,_,Wv _ _ _,?_⟩
  walk_at "rd"
  rw [Qz] at q
  exact Ym (by decide) (Ym (by decide) (Ym (by decide) (Ym (by decide) fun c hc=>⟨_,.inr hc,rfl,rfl,Ym (by decide +kernel) ⟨few (by decide),fun p hp=>q p [] _ (.upd_new hp _) hp Yc (Uz _ _ _)⟩⟩)))
 | @text a signs ha hn =>
  walk_at "rd"
  refine ⟨_,s0.tup ha,_,YK _ _,?_⟩
  walk_at "rd"
  rw [Q6] at q
  exact Ym (by decide) (Ym (by decide) (Ym (by decide) (Ym (by decide) fun c hc=>⟨_,.inr hc,rfl,rfl,Ym (by decide +kernel) ⟨few (by decide),fun p hp=>q p [] _ (.upd_new hp _) hp Yc (Uz _ _ _)⟩⟩)))
 | @row a b vs ps ha hb hs hn =>
  walk_at "rd"
  refine ⟨_,s0.tup ha,_,YK _ _,?_⟩
  walk_at "rd"
  cases hv with
  | @tup c us ds h hl hds =>
   have e1:=hds.length
   have e2:=hs.length
   have e3:ds.length=ps.length:=of_decide_eq_true hf
   refine ⟨_,s0.tup ha,_,YH _ _,_,rfl,_,rfl,_,s0.tup hb,_,SqT.of (s0 _ _ h),by omega,fun l as H2 hl' sm hlst hal hpr=>q l as H2 sm hl' hlst ⟨?_,fun j a w h1 h2=>?_⟩⟩
   ·show as.length=(ps.zip ds).length
    rw [List.length_zip];omega
   ·obtain ⟨k1,k2⟩:=List.getElem?_zip_eq_some.mp (show (ps.zip ds)[j]?=some w from h2)
    have hj:=(List.getElem?_eq_some_iff.mp h1).1
    have f1:vs[j]?=some (vs[j]'(by omega)):=List.getElem?_eq_getElem _
    have f2:us[j]?=some (us[j]'(by omega)):=List.getElem?_eq_getElem _
    obtain ⟨p1,g1,s1⟩:=hs.at f1
    obtain ⟨d1,g2,s2⟩:=hds.at f2
    rw [k1] at g1
    rw [k2] at g2
    cases g1
    cases g2
    exact ⟨_,_,(hpr j a _ _ h1 f1 f2).2,s1,s2⟩
  | _=>cases hf
 | @lst a v' p k ha hp =>
  walk_at "rd"
  refine ⟨_,s0.tup ha,_,YK _ _,?_⟩
  walk_at "rd"
  refine Ym (by cases k<;>decide) (Ym (by cases k<;>decide) (Ym (by cases k<;>decide) (Ym (by cases k<;>decide) fun c hc=>⟨_,.inr hc,rfl,rfl,XT (by cases k<;>decide +kernel) ?_⟩)))
  cases hv with
  | @lst c' us ds h hl hds =>
   have e1:=hds.length
   refine Qi (K:=g.K) (xs:=us) (us.map fun u=>[v',u]) (fun R r=>by walk_at "rd";exact r c' H (.refl H) (SqL.of (s0 _ _ h))) (by simp) (by omega) ?_ ?_
   ·intro i x t H' hx ht sm R r
    rw [List.getElem?_map,hx] at ht
    have:[v',x]=t:=Option.some.inj ht
    subst this
    walk_at "rd"
    exact ⟨_,(s0.trans sm).tup ha,_,YH _ _,few (by decide),fun a' ha'=>r a' _ (.upd_new ha' _) Yc⟩
   ·intro D as H' hD sm hd hal hts
    refine q D as H' sm hD hd ⟨?_,fun j a w h1 h2=>?_⟩
    ·show as.length=(ds.map fun d=>(p,d)).length
     rw [List.length_map];omega
    ·have h2':(ds.map fun d=>(p,d))[j]?=some w:=h2
     have hj:=(List.getElem?_eq_some_iff.mp h1).1
     have f2:us[j]?=some (us[j]'(by omega)):=List.getElem?_eq_getElem _
     obtain ⟨d1,g2,s2⟩:=hds.at f2
     rw [List.getElem?_map,g2] at h2'
     have:(p,d1)=w:=Option.some.inj h2'
     subst this
     exact ⟨v',_,hts j a [v',us[j]'(by omega)] h1 (by rw [List.getElem?_map,f2];rfl),hp,s2⟩
  | _=>cases hf
 | @alike a v' p n ha hp =>
  walk_at "rd"
  refine ⟨_,s0.tup ha,_,Wv _ _ _,?_⟩
  walk_at "rd"
  refine Ym (by decide) (Ym (by decide) (Ym (by decide) ?_))
  cases hv with
  | @lst c' us ds h hl hds =>
   have e1:=hds.length
   refine Qi (K:=g.K) (xs:=us) (us.map fun u=>[v',u]) (fun R r=>by walk_at "rd";exact r c' H (.refl H) (SqL.of (s0 _ _ h))) (by simp) (by omega) ?_ ?_
   ·intro i x t H' hx ht sm R r
    rw [List.getElem?_map,hx] at ht
    have:[v',x]=t:=Option.some.inj ht
    subst this
    walk_at "rd"
    exact ⟨_,(s0.trans sm).tup ha,_,VJ _ _ _,few (by decide),fun a' ha'=>r a' _ (.upd_new ha' _) Yc⟩
   ·intro D as H' hD sm hd hal hts
    refine q D as H' sm hD hd ⟨?_,fun j a w h1 h2=>?_⟩
    ·show as.length=(ds.map fun d=>(p,d)).length
     rw [List.length_map];omega
    ·have h2':(ds.map fun d=>(p,d))[j]?=some w:=h2
     have hj:=(List.getElem?_eq_some_iff.mp h1).1
     have f2:us[j]?=some (us[j]'(by omega)):=List.getElem?_eq_getElem _
     obtain ⟨d1,g2,s2⟩:=hds.at f2
     rw [List.getElem?_map,g2] at h2'
     have:(p,d1)=w:=Option.some.inj h2'
     subst this
     exact ⟨v',_,hts j a [v',us[j]'(by omega)] h1 (by rw [List.getElem?_map,f2];rfl),hp,s2⟩
  | _=>cases hf
 | @pick a b' as ms us ps ha hb hbr hs hn =>
  walk_at "rd"
  refine ⟨_,s0.tup ha,_,YK _ _,?_⟩
  walk_at "rd"
  rw [← Xg] at hf
  rw [Xh] at q
  obtain ⟨x,d',i,rfl,hi⟩:=Wq hf
  cases hv with
  | @tup c vs _ h hl hds =>
  cases hds with
  | @cons v1 _ vs1 _ h1 hds1 =>
  cases hds1 with
  | @cons v2 _ vs2 _ h2 hds2 =>
  cases hds2 with
  | nil =>
  cases h1 with
  | str l hs1 hl1 =>
  have hil:=WE hi
  have e2:=hs.length
  obtain ⟨b1,b2,b3⟩:=hbr
  have fa:as[i]?=some (as[i]'(by omega)):=List.getElem?_eq_getElem _
  have fm:ms[i]?=some (ms[i]'(by omega)):=List.getElem?_eq_getElem _
  have fu:us[i]?=some (us[i]'(by omega)):=List.getElem?_eq_getElem _
  have fp:ps[i]?=some (ps[i]'(by omega)):=List.getElem?_eq_getElem _
  obtain ⟨p1,g1,s1⟩:=hs.at fu
  have ht:=b3 i _ _ _ fa fm fu
  have ew:X0 ms ps (.tuple [.str (S l),d'])=[(p1,d')]:=by
   show (((plc ms (S l)).bind fun i=>ps[i]?).toList.map fun p=>(p,d'))=_
   rw [hi,Option.bind_some,g1]
   rfl
  refine Ym (by decide) ⟨_,s0.tup ha,_,YH _ _,_,s0.tup ha,_,YH _ _,c,rfl,_,SqT.of (s0 _ _ h),_,YK _ _,b',as,ms,us,S l,rfl,s0.tup hb,⟨b1,b2,fun j a m v h1 h2 h3=>s0.tup (b3 j a m v h1 h2 h3)⟩,fun H' s'=>?_⟩
  have s02:=s0.trans s'
  rw [hi]
  refine ⟨b',rfl,_,_,rfl,s02.tup hb,.ref (as[i]'(by omega)),XS (by rw [List.getElem?_map,fa];rfl),_,rfl,_,s02.tup ht,_,YH _ _,c,rfl,_,SqT.of (s02 _ _ h),_,YH _ _,few (by decide),fun p hp=>⟨few (by decide),fun p2 hp2=>?_⟩⟩
  refine q p2 [p] _ ((s'.trans (.upd_new hp _)).trans (.upd_new hp2 _)) (s'.free ((Yb.upd_new hp _).free hp2)) Yc ?_
  rw [ew]
  refine ⟨rfl,fun j a w h1' h2'=>?_⟩
  cases j with
  | succ j=>simp at h1'
  | zero =>
   have e1:p=a:=Option.some.inj h1'
   have e2:(p1,d')=w:=Option.some.inj h2'
   subst e1 e2
   exact ⟨_,_,(Yb.upd_new hp2 _) _ _ Yc,s1,h2⟩
 | @use a nm ha =>
  walk_at "rd"
  refine ⟨_,s0.tup ha,_,YK _ _,?_⟩
  walk_at "rd"
  obtain ⟨i,hi⟩:=hfd
  refine Ym (by decide) (Ym (by decide) ⟨_,s0.tup ha,_,YH _ _,b,bk,S nm,i,H0,rfl,s0,hbk,hi,fun y sh hsh hy=>⟨few (by decide),fun p hp=>⟨few (by decide),fun p2 hp2=>?_⟩⟩⟩)
  refine q p2 [p] _ ((Yb.upd_new hp _).trans (.upd_new hp2 _)) ((Yb.upd_new hp _).free hp2) Yc ?_
  rw [XO,hi,Option.bind_some,hsh]
  refine ⟨rfl,fun j a w h1' h2'=>?_⟩
  cases j with
  | succ j=>simp at h1'
  | zero =>
   have e1:p=a:=Option.some.inj h1'
   have e2:(sh,d)=w:=Option.some.inj h2'
   subst e1 e2
   exact ⟨_,_,(Yb.upd_new hp2 _) _ _ Yc,hy,hv⟩
def VM (H:Hp) (ks:List V) (ns:List Nat):Prop:=ks.length=ns.length∧ks.length≤1000∧∀ (j:Nat) k n,ks[j]?=some k→ns[j]?=some n→∃ a r,k = .ref a∧H a=some (.tup (.int (n:Nat)::r))
theorem VM.keep {H H':Hp} (e:Yb H H') {ks:List V} {ns:List Nat} (h:VM H ks ns):VM H' ks ns :=
 ⟨h.1,h.2.1,fun j k n h1 h2=>by obtain ⟨a,r,e1,e2⟩:=h.2.2 j k n h1 h2;exact ⟨a,r,e1,e _ _ e2⟩⟩
theorem Y4 (x:V) (r:List V):atI (x::r) 0=some x:=by
 have:=XS (xs:=x::r) (j:=0) (show (x::r)[0]?=some x from rfl)
 simpa using this
theorem YcC (ns:List Nat):(ns.map fun (n:Nat)=>(n:Int)).sum=((ns.sum:Nat):Int):=by
 induction ns with
 | nil=>rfl
 | cons n ns ih=>simp [ih]
def Zs (K:PySem.W.Frag):Sp:=fun vs H Q _=>∃ b ks ns,vs=[.ref b]∧H b=some (.lst ks)∧VM H ks ns∧∀ H',Yb H H'→Q (.int (ns.sum:Nat)) H'
theorem Z13  {c_law_lists P_law_lists:Addr} (R:g.Raw "sum_of_sizes" "sum_of_sizes" Zw ["keys"]) (b_sum:g.mg "sum"=none):g.Fn (1) "sum_of_sizes" ["keys"] (Zs g.K):=by
 refine R.fn Z11 (fun vs H Q E h=>by obtain ⟨b,ks,ns,rfl,hb,hk,q⟩:=h;rfl) fun f_ cdv A outer s H vs Q E hr h=>?_
 obtain ⟨b,ks,ns,rfl,hb,hk,q⟩:=h
 refine ⟨_,(@Yg _ _ _ (@Yk _ _ _ _ (@YF _ _ _ _ _ _ _ _ _ _ b_sum WU (@Ya _ _ _ _ _ (@XI _ _ _ _ _ _ _ ([none]) ((["key"]:List Str)) _ (Ys 0) _ _ (.own .nil) rfl (@YW _ _ _ _ (pv 0)) (fun cl C s₀ H₀ fp pn=>(@Yu _ _ (0) _ (show List.Nodup (["key"]:List Str) by decide +kernel) rfl (.inl rfl) (.inr rfl))) (fun cl C s₀ H₀ fp pn=>Y2) (fun cl C s₀ H₀ fp pn=>(@Yj _ _ _ _ _ _ _ (Xq (K:=g.K)) (pv 0) Ye (fun _ _=>rfl))) (by intro x hx;simp at hx) (by rfl) (by decide) (by decide +kernel) (by intro _;rfl)) Yd (by rfl)) (by decide +kernel) (by rfl) (by rfl) (by decide) (by decide) (by rfl) (by rfl)))),?_⟩
 walk_at "rd"
 obtain ⟨hk1,hk2,hk3⟩:=hk
 refine W2 (K:=g.K) (xs:=ks) ((ns.map fun (n:Nat)=>(n:Int)).map V.int) (fun R r=>by walk_at "rd";exact r b H (.refl H) (SqL.of hb)) (by simp [hk1]) (by omega) ?_ ?_
 ·intro i x y H' hx hy sm R r
  have hj:=(List.getElem?_eq_some_iff.mp hx).1
  have f2:ns[i]?=some (ns[i]'(by omega)):=List.getElem?_eq_getElem _
  obtain ⟨a,r',rfl,e2⟩:=hk3 i x _ hx f2
  rw [List.getElem?_map,List.getElem?_map,f2] at hy
  have:V.int ((ns[i]'(by omega):Nat):Int)=y:=Option.some.inj hy
  subst this
  walk_at "rd"
  exact ⟨_,SqT.of (sm _ _ e2),_,Y4 _ _,r H' (.refl H')⟩
 ·intro D H' hD sm hd
  refine ⟨D,rfl,_,SqL.of hd,?_⟩
  rw [YcC]
  exact q H' sm
abbrev Ky:=Nat×List PyData
def kt (k:Ky):PyData := .tuple (.int (k.1:Nat)::k.2)
theorem YbQ {k k':Ky} (h:kt k=kt k'):k=k':=by
 obtain ⟨a,l⟩:=k
 obtain ⟨b,m⟩:=k'
 simp only [kt,PyData.tuple.injEq,List.cons.injEq,PyData.int.injEq] at h
 obtain ⟨h1,h2⟩:=h
 have:a=b:=by omega
 rw [this,h2]
def grp {α:Type} (f:α→Nat):List α→List (List α)
 | []=>[]
 | k::ks=>match grp f ks with
  | (x::g)::gs=>if f x=f k then (k::x::g)::gs else [k]::(x::g)::gs
  | r=>[k]::r
theorem WF {α:Type} {f:α→Nat}:∀ {ks:List α} {g:List α},g∈grp f ks→g≠[]
 | [],g,h=>by cases h
 | k::ks,g,h=>by
  have ih:=fun g=>WF (f:=f) (ks:=ks) (g:=g)
  unfold grp at h
  split at h
  ·rename_i x g' gs e
   rw [e] at ih
   split at h
   ·rcases List.mem_cons.mp h with rfl | h
    ·simp
    ·exact ih g (.tail _ h)
   ·rcases List.mem_cons.mp h with rfl | h
    ·simp
    ·exact ih g h
  ·rcases List.mem_cons.mp h with rfl | h
   ·simp
   ·exact ih g h
theorem Xw {α:Type} {f:α→Nat}:∀ (ks:List α),(grp f ks).flatten=ks
 | []=>rfl
 | k::ks=>by
  have ih:=Xw (f:=f) ks
  unfold grp
  split
  ·rename_i x g gs e
   rw [e] at ih
   split
   ·simp only [List.flatten_cons,List.cons_append] at ih ⊢
    rw [ih]
   ·simp only [List.flatten_cons,List.cons_append,List.nil_append] at ih ⊢
    rw [ih]
  ·simp only [List.flatten_cons,List.cons_append,List.nil_append]
   rw [ih]
theorem QA {α:Type} {f:α→Nat} (k:α):∀ (ks:List α),(ks=[]∧grp f (ks++[k])=[[k]])∨(∃ gs x g,grp f ks=gs++[x::g]∧f x=f k∧grp f (ks++[k])=gs++[x::g++[k]])∨∃ gs x g,grp f ks=gs++[x::g]∧f x≠f k∧grp f (ks++[k])=gs++[x::g]++[[k]]
 | [] => .inl ⟨rfl,rfl⟩
 | j::ks=>by
  rcases QA (f:=f) k ks with ⟨rfl,e⟩ | ⟨gs,x,g,e1,e2,e3⟩ | ⟨gs,x,g,e1,e2,e3⟩
  ·by_cases c:f k=f j
   ·refine .inr (.inl ⟨[],j,[],rfl,c.symm,?_⟩)
    show grp f [j,k]=_
    simp [grp,c]
   ·refine .inr (.inr ⟨[],j,[],rfl,fun z=>c z.symm,?_⟩)
    show grp f [j,k]=_
    simp [grp,c]
  ·cases gs with
   | nil =>
    simp only [List.nil_append] at e1 e3
    by_cases c:f x=f j
    ·refine .inr (.inl ⟨[],j,x::g,?_,c.symm.trans e2,?_⟩)
     ·rw [grp,e1];simp [c]
     ·rw [List.cons_append,grp,e3];simp [c]
    ·refine .inr (.inl ⟨[[j]],x,g,?_,e2,?_⟩)
     ·rw [grp,e1];simp [c]
     ·rw [List.cons_append,grp,e3];simp [c]
   | cons g0 gs =>
    cases g0 with
    | nil=>exact (WF (f:=f) (ks:=ks) (by rw [e1];exact .head _) rfl).elim
    | cons y g0 =>
     by_cases c:f y=f j
     ·refine .inr (.inl ⟨(j::y::g0)::gs,x,g,?_,e2,?_⟩)
      ·rw [grp,e1];simp [c]
      ·rw [List.cons_append,grp,e3];simp [c]
     ·refine .inr (.inl ⟨[j]::(y::g0)::gs,x,g,?_,e2,?_⟩)
      ·rw [grp,e1];simp [c]
      ·rw [List.cons_append,grp,e3];simp [c]
  ·cases gs with
   | nil =>
    simp only [List.nil_append] at e1 e3
    by_cases c:f x=f j
    ·refine .inr (.inr ⟨[],j,x::g,?_,fun z=>e2 (c.trans z),?_⟩)
     ·rw [grp,e1];simp [c]
     ·rw [List.cons_append,grp,e3];simp [c]
    ·refine .inr (.inr ⟨[[j]],x,g,?_,e2,?_⟩)
     ·rw [grp,e1];simp [c]
     ·rw [List.cons_append,grp,e3];simp [c]
   | cons g0 gs =>
    cases g0 with
    | nil=>exact (WF (f:=f) (ks:=ks) (by rw [e1];exact .head _) rfl).elim
    | cons y g0 =>
     by_cases c:f y=f j
     ·refine .inr (.inr ⟨(j::y::g0)::gs,x,g,?_,e2,?_⟩)
      ·rw [grp,e1];simp [c]
      ·rw [List.cons_append,grp,e3];simp [c]
     ·refine .inr (.inr ⟨[j]::(y::g0)::gs,x,g,?_,e2,?_⟩)
      ·rw [grp,e1];simp [c]
      ·rw [List.cons_append,grp,e3];simp [c]
theorem Yas {α β:Type} {f:β→Nat} (h:α→β):∀ (ks:List α),grp f (ks.map h)=(grp (fun a=>f (h a)) ks).map (List.map h)
 | []=>rfl
 | k::ks=>by
  rw [List.map_cons,grp,grp,Yas h ks]
  cases e:grp (fun a=>f (h a)) ks with
  | nil=>rfl
  | cons g gs =>
   cases g with
   | nil=>rfl
   | cons x g =>
    show (if f (h x)=f (h k) then _ else _)=_
    by_cases c:f (h x)=f (h k)
    ·rw [if_pos c];simp [c]
    ·rw [if_neg c];simp [c]
def blk:List Ky→List PyData
 | []=>[]
 | k::g => .int (-(k.1:Int)) :: .int ((g.length+1:Nat):Int)::((k::g).map kt).reverse
def ris (ks:List Ky):List PyData:=(grp (fun k:Ky=>k.1) ks).flatMap blk
def Adj {α:Type} (R:α→α→Prop):List α→Prop
 | []=>True
 | [_]=>True
 | a::b::l=>R a b∧Adj R (b::l)
theorem V2 {α:Type} {R:α→α→Prop}:∀ {l:List α},Adj R l↔∀ (i:Nat) a b,l[i]?=some a→l[i+1]?=some b→R a b
 | []=>⟨fun _ i a b h=>by simp at h,fun _=>trivial⟩
 | [x]=>⟨fun _ i a b h h'=>by simp at h',fun _=>trivial⟩
 | x::y::l=>by
  have ih:=V2 (R:=R) (l:=y::l)
  refine ⟨fun h i a b h1 h2=>?_,fun h=>⟨h 0 x y rfl rfl,ih.mpr fun i a b h1 h2=>h (i+1) a b (by simpa using h1) (by simpa using h2)⟩⟩
  cases i with
  | zero =>
   have e1:x=a:=Option.some.inj h1
   have e2:y=b:=Option.some.inj h2
   subst e1 e2
   exact h.1
  | succ i=>exact ih.mp h.2 i a b (by simpa using h1) (by simpa using h2)
open Classical in
noncomputable def kz:Sh→PyData→List Ky→Option Ky
 | .whole lo _,.int i,_=>some (Builtin.Int.intBits (i - lo),[.int i])
 | .text signs,.str x,_=>some (x.length,x.cps.toList.map fun c => .int (Txt.find (S signs) (S [c])))
 | .row _,_,ks=>some ((ks.map (·.1)).sum,ks.map kt)
 | .lst .many _,_,ks=>some (ks.length+(ks.map (·.1)).sum,ks.map kt)
 | .lst .rising _,_,ks=>if Adj (fun a b=>¬ KLt (kt b) (kt a)) ks then some (ks.length+(ks.map (·.1)).sum,ris ks) else none
 | .lst .unlike _,_,ks=>if Adj (fun a b=>KLt (kt a) (kt b)) ks then some (ks.length+(ks.map (·.1)).sum,ris ks) else none
 | .alike _ _,_,ks=>if ∀ k∈ks,ks.head?=some k then some (ks.length+(ks.map (·.1)).sum,(ks.take 1).map kt) else none
 | .pick ms _,.tuple [.str x,_],k::_=>some (k.1,[.int ((plc ms x).getD 0:Nat),kt k])
 | .use _,_,k::_=>some (1+k.1,[kt k])
 | _,_,_=>some (0,[])
def fnd (bk:Bk) (sh:Sh) (d:PyData):Bool:=match sh with
 | .use _ => !(YE bk sh d).isEmpty
 | .pick _ _ => !(YE bk sh d).isEmpty
 | _=>true
noncomputable def ky (bk:Bk):Nat→Sh→PyData→Option Ky
 | 0,_,_=>none
 | n+1,sh,d=>if (YL sh d&&fnd bk sh d)=true then ((YE bk sh d).mapM fun w=>ky bk n w.1 w.2).bind (kz sh d) else none
theorem Wr {α β:Type} {f:α→Option β} {P:β→Prop}:∀ {l:List α} {r:List β},l.mapM f=some r→(∀ a∈l,∀ b,f a=some b→P b)→∀ b∈r,P b
 | [],r,h,_=>by
  rw [List.mapM_nil] at h
  cases h
  intro b hb
  cases hb
 | a::l,r,h,hp=>by
  rw [List.mapM_cons] at h
  cases e1:f a with
  | none=>rw [e1] at h;cases h
  | some b =>
   cases e2:l.mapM f with
   | none=>rw [e1,e2] at h;cases h
   | some bs =>
    rw [e1,e2] at h
    cases h
    intro c hc
    rcases List.mem_cons.mp hc with rfl | hc
    ·exact hp a (.head _) _ e1
    ·exact Wr e2 (fun a ha=>hp a (.tail _ ha)) c hc
theorem X1 {α β:Type} {f:α→Option β} {a:α} {l:List α} {r:List β} (h:(a::l).mapM f=some r):∃ b bs,f a=some b∧l.mapM f=some bs∧r=b::bs:=by
 rw [List.mapM_cons] at h
 cases e1:f a with
 | none=>rw [e1] at h;cases h
 | some b =>
  cases e2:l.mapM f with
  | none=>rw [e1,e2] at h;cases h
  | some bs =>
   rw [e1,e2] at h
   cases h
   exact ⟨b,bs,rfl,rfl,rfl⟩
theorem Wc {α β:Type} {f:α→Option β} {r:List β} (h:([]:List α).mapM f=some r):r=[]:=by
 rw [List.mapM_nil] at h
 cases h
 rfl
theorem YbR:∀ {ds:List PyData},(∀ d∈ds,KD d)→KDs ds
 | [],_ => .nil
 | d::ds,h => .cons (h d (.head _)) (YbR fun d hd=>h d (.tail _ hd))
theorem Yat {P:PyData→Prop} {ks:List Ky} (hi:∀ i:Int,P (.int i)) (hk:∀ k∈ks,P (kt k)):∀ d∈ris ks,P d:=fun d hd=>by
 unfold ris at hd
 obtain ⟨g,hg,hd⟩:=List.mem_flatMap.mp hd
 have hin:∀ k∈g,k∈ks:=fun k h=>by
  have:=List.mem_flatten.mpr ⟨g,hg,h⟩
  rw [Xw] at this
  exact this
 cases g with
 | nil=>cases hd
 | cons k g =>
  rcases List.mem_cons.mp hd with rfl | hd
  ·exact hi _
  ·rcases List.mem_cons.mp hd with rfl | hd
   ·exact hi _
   ·obtain ⟨k',hk',rfl⟩:=List.mem_map.mp (List.mem_reverse.mp hd)
    exact hk k' (hin k' hk')
theorem YbS {P:PyData→Prop} {sh:Sh} {d:PyData} {ks:List Ky} {k:Ky} (h:kz sh d ks=some k) (hi:∀ i:Int,P (.int i)) (hk:∀ k∈ks,P (kt k)):∀ e∈k.2,P e:=by
 unfold kz at h
 have keys:∀ e∈ks.map kt,P e:=fun e he=>by obtain ⟨c,hc,rfl⟩:=List.mem_map.mp he;exact hk c hc
 split at h
 ·cases h;intro e he;rw [List.mem_singleton.mp he];exact hi _
 ·cases h;intro e he;obtain ⟨c,_,rfl⟩:=List.mem_map.mp he;exact hi _
 ·cases h;exact keys
 ·cases h;exact keys
 ·split at h
  ·cases h;exact Yat hi hk
  ·cases h
 ·split at h
  ·cases h;exact Yat hi hk
  ·cases h
 ·split at h
  ·cases h
   intro e he
   obtain ⟨c,hc,rfl⟩:=List.mem_map.mp he
   exact hk c (List.mem_of_mem_take hc)
  ·cases h
 ·cases h
  intro e he
  rcases List.mem_cons.mp he with rfl | he
  ·exact hi _
  ·rw [List.mem_singleton.mp he];exact hk _ (.head _)
 ·cases h;intro e he;rw [List.mem_singleton.mp he];exact hk _ (.head _)
 ·cases h;intro e he;cases he
theorem Ve {bk:Bk} {n:Nat} {sh:Sh} {d:PyData} {k:Ky} (h:ky bk (n+1) sh d=some k):YL sh d=true∧fnd bk sh d=true∧∃ ks,(YE bk sh d).mapM (fun w=>ky bk n w.1 w.2)=some ks∧kz sh d ks=some k:=by
 rw [ky] at h
 by_cases hf:(YL sh d&&fnd bk sh d)=true
 ·rw [if_pos hf] at h
  rw [Bool.and_eq_true] at hf
  obtain ⟨ks,h1,h2⟩:=Option.bind_eq_some_iff.mp h
  exact ⟨hf.1,hf.2,ks,h1,h2⟩
 ·rw [if_neg hf] at h;cases h
theorem Yc8 {bk:Bk}:∀ {n:Nat} {sh:Sh} {d:PyData} {k:Ky},ky bk n sh d=some k→KD (kt k)
 | 0,_,_,_,h=>by cases h
 | n+1,sh,d,k,h=>by
  obtain ⟨_,_,ks,hks,hz⟩:=Ve h
  have hall:=Wr (P:=fun k=>KD (kt k)) hks fun w _ b hb=>Yc8 hb
  exact .tup (.cons (.int _) (YbR (YbS hz .int hall)))
theorem UA {ds:List PyData} {n:Nat} (h:∀ d∈ds,d.depth≤n):PyData.depthAll ds≤n:=by
 induction ds with
 | nil=>simp [PyData.depthAll]
 | cons d ds ih =>
  have h1:=h d (.head _)
  have h2:=ih fun d hd=>h d (.tail _ hd)
  simp only [PyData.depthAll]
  omega
theorem QB {bk:Bk}:∀ {n:Nat} {sh:Sh} {d:PyData} {k:Ky},ky bk n sh d=some k→(kt k).depth≤n+1
 | 0,_,_,_,h=>by cases h
 | n+1,sh,d,k,h=>by
  obtain ⟨_,_,ks,hks,hz⟩:=Ve h
  have hall:=Wr (P:=fun k=>(kt k).depth≤n+1) hks fun w _ b hb=>QB hb
  have hi:∀ i:Int,(PyData.int i).depth≤n+1:=fun i=>by simp [PyData.depth]
  rw [kt,PyData.depth]
  have key:PyData.depthAll (.int (k.1:Nat)::k.2)≤n+1:=UA fun e he=>by
   rcases List.mem_cons.mp he with rfl | he
   ·exact hi _
   ·exact YbS (P:=fun e=>e.depth≤n+1) hz hi hall e he
  omega
theorem QC:∀ {as bs xs ys:List PyData},as.length=bs.length→(∀ a∈as,∀ b∈bs,Sim a b)→(as=bs→Sims xs ys)→Sims (as++xs) (bs++ys)
 | [],[],_,_,_,_,h=>h rfl
 | a::as,b::bs,_,_,hl,hs,h => .cons (hs a (.head _) b (.head _)) fun e=>QC (Nat.succ.inj hl) (fun a' h1 b' h2=>hs a' (.tail _ h1) b' (.tail _ h2)) fun e'=>h (by rw [e,e'])
 | [],_::_,_,_,hl,_,_=>by cases hl
 | _::_,[],_,_,hl,_,_=>by cases hl
theorem UB {ks ks':List Ky}:∀ (hs:∀ k∈ks,∀ k'∈ks',Sim (kt k) (kt k')),Sims (ks.map kt) (ks'.map kt):=by
 induction ks generalizing ks' with
 | nil=>exact fun _ => .nil
 | cons k ks ih =>
  intro hs
  cases ks' with
  | nil=>exact .end_
  | cons k' ks'=>exact .cons (hs k (.head _) k' (.head _)) fun _=>ih fun a h1 b h2=>hs a (.tail _ h1) b (.tail _ h2)
theorem UC:∀ {gs gs':List (List Ky)},(∀ g∈gs,g≠[])→(∀ g∈gs',g≠[])→(∀ g∈gs,∀ k∈g,∀ g'∈gs',∀ k'∈g',Sim (kt k) (kt k'))→Sims (gs.flatMap blk) (gs'.flatMap blk)
 | [],_,_,_,_ => .nil
 | _::_,[],_,_,_ => .end_
 | g::gs,g'::gs',h1,h2,hs=>by
  rw [List.flatMap_cons,List.flatMap_cons]
  cases g with
  | nil=>exact (h1 [] (.head _) rfl).elim
  | cons k g =>
  cases g' with
  | nil=>exact (h2 [] (.head _) rfl).elim
  | cons k' g' =>
  refine .cons (.int _ _) fun _ => .cons (.int _ _) fun e=>QC ?_ (fun a ha b hb=>?_) fun _=>UC (fun g h=>h1 g (.tail _ h)) (fun g h=>h2 g (.tail _ h)) fun g h k hk g' h' k' hk'=>hs g (.tail _ h) k hk g' (.tail _ h') k' hk'
  ·have:=PyData.int.inj e
   simp only [List.length_reverse,List.length_map,List.length_cons]
   omega
  ·obtain ⟨x,hx,rfl⟩:=List.mem_map.mp (List.mem_reverse.mp ha)
   obtain ⟨y,hy,rfl⟩:=List.mem_map.mp (List.mem_reverse.mp hb)
   exact hs _ (.head _) x hx _ (.head _) y hy
theorem YcD {ks ks':List Ky} (hs:∀ k∈ks,∀ k'∈ks',Sim (kt k) (kt k')):Sims (ris ks) (ris ks'):=by
 have hin:∀ {ks:List Ky} {g:List Ky},g∈grp (fun k:Ky=>k.1) ks→∀ k∈g,k∈ks:=fun {ks g} hg k h=>by
  have:=List.mem_flatten.mpr ⟨g,hg,h⟩
  rw [Xw] at this
  exact this
 exact UC (fun g h=>WF h) (fun g h=>WF h) fun g h k hk g' h' k' hk'=>hs k (hin h k hk) k' (hin h' k' hk')
theorem YbT {ks ks':List Ky} (hs:∀ k∈ks,∀ k'∈ks',Sim (kt k) (kt k')):Sims ((ks.take 1).map kt) ((ks'.take 1).map kt) :=
 UB fun k h k' h'=>hs k (List.mem_of_mem_take h) k' (List.mem_of_mem_take h')
theorem UD:∀ (as bs:List Int),Sims (as.map PyData.int) (bs.map PyData.int)
 | [],_ => .nil
 | _::_,[] => .end_
 | a::as,b::bs => .cons (.int a b) fun _=>UD as bs
theorem QD {f:Sh×PyData→Option Ky} (ih:∀ sh d d' k k',f (sh,d)=some k→f (sh,d')=some k'→Sim (kt k) (kt k')):∀ {ws ws':List (Sh×PyData)} {ks ks':List Ky},ws.mapM f=some ks→ws'.mapM f=some ks'→(∀ (i:Nat) w w',ws[i]?=some w→ws'[i]?=some w'→w.1=w'.1)→Sims (ks.map kt) (ks'.map kt)
 | [],_,ks,ks',h,h',_=>by
  cases Wc h
  exact .nil
 | w::ws,[],ks,ks',h,h',_=>by
  cases Wc h'
  exact .end_
 | w::ws,w'::ws',ks,ks',h,h',hs=>by
  obtain ⟨b,bs,e1,e2,rfl⟩:=X1 h
  obtain ⟨b',bs',e1',e2',rfl⟩:=X1 h'
  have hw:w.1=w'.1:=hs 0 w w' rfl rfl
  obtain ⟨sh,d⟩:=w
  obtain ⟨sh',d'⟩:=w'
  cases (show sh=sh' from hw)
  exact .cons (ih sh d d' b b' e1 e1') fun _=>QD ih e2 e2' fun i w w' a c=>hs (i+1) w w' (by simpa using a) (by simpa using c)
theorem UE {f:Sh×PyData→Option Ky} {p:Sh} (ih:∀ sh d d' k k',f (sh,d)=some k→f (sh,d')=some k'→Sim (kt k) (kt k')) {ds ds':List PyData} {ks ks':List Ky} (h:(ds.map fun d=>(p,d)).mapM f=some ks) (h':(ds'.map fun d=>(p,d)).mapM f=some ks'):∀ k∈ks,∀ k'∈ks',Sim (kt k) (kt k'):=by
 have ex:∀ {ds:List PyData} {ks:List Ky},(ds.map fun d=>(p,d)).mapM f=some ks→∀ k∈ks,∃ d,f (p,d)=some k:=fun {ds ks} h=>Wr (P:=fun k=>∃ d,f (p,d)=some k) h fun a ha b hb=>by
  obtain ⟨d,_,rfl⟩:=List.mem_map.mp ha
  exact ⟨d,hb⟩
 intro k hk k' hk'
 obtain ⟨d,hd⟩:=ex h k hk
 obtain ⟨d',hd'⟩:=ex h' k' hk'
 exact ih p d d' k k' hd hd'
theorem WO {f:Sh×PyData→Option Ky} {w:Sh×PyData} {ks:List Ky} (h:[w].mapM f=some ks):∃ b,f w=some b∧ks=[b]:=by
 obtain ⟨b,bs,e1,e2,rfl⟩:=X1 h
 cases Wc e2
 exact ⟨b,e1,rfl⟩
theorem YbU {nm:List Nat} {d:PyData} {k:Ky} {ks:List Ky}:kz (.use nm) d (k::ks)=some (1+k.1,[kt k]):=by cases d<;>rfl
theorem YbV {c:LK} {p:Sh} {ds:List PyData} {ks:List Ky} {k:Ky} (h:kz (.lst c p) (.list ds) ks=some k):k.2=ks.map kt∧c = .many∨k.2=ris ks∧c ≠ .many:=by
 cases c with
 | many=>cases h;exact .inl ⟨rfl,rfl⟩
 | rising =>
  unfold kz at h
  dsimp only at h
  split at h
  ·cases h;exact .inr ⟨rfl,by simp⟩
  ·cases h
 | unlike =>
  unfold kz at h
  dsimp only at h
  split at h
  ·cases h;exact .inr ⟨rfl,by simp⟩
  ·cases h
theorem YbW {bk:Bk}:∀ {n:Nat} (sh:Sh) (d d':PyData) (k k':Ky),ky bk n sh d=some k→ky bk n sh d'=some k'→Sim (kt k) (kt k')
 | 0,_,_,_,_,_,h,_=>by cases h
 | n+1,sh,d,d',k,k',h,h'=>by
  obtain ⟨hf,hn,ks,hks,hz⟩:=Ve h
  obtain ⟨hf',hn',ks',hks',hz'⟩:=Ve h'
  have ih:=fun sh d d' k k'=>YbW (bk:=bk) (n:=n) sh d d' k k'
  refine .tup (.cons (.int _ _) fun _=>?_)
  cases sh with
  | whole lo hi =>
   cases d<;>simp only [YL,Bool.false_eq_true] at hf
   cases d'<;>simp only [YL,Bool.false_eq_true] at hf'
   cases hz
   cases hz'
   exact .cons (.int _ _) fun _ => .nil
  | lst c p =>
   cases d<;>simp only [YL,Bool.false_eq_true] at hf
   cases d'<;>simp only [YL,Bool.false_eq_true] at hf'
   have ks:=UE ih hks hks'
   rcases YbV hz with ⟨e,c1⟩ | ⟨e,c1⟩<;>rcases YbV hz' with ⟨e',c2⟩ | ⟨e',c2⟩
   ·rw [e,e'];exact UB ks
   ·exact (c2 c1).elim
   ·exact (c1 c2).elim
   ·rw [e,e'];exact YcD ks
  | alike p m =>
   cases d<;>simp only [YL,Bool.false_eq_true] at hf
   cases d'<;>simp only [YL,Bool.false_eq_true] at hf'
   have ks:=UE ih hks hks'
   unfold kz at hz hz'
   dsimp only at hz hz'
   split at hz<;>cases hz
   split at hz'<;>cases hz'
   exact YbT ks
  | row ps =>
   cases d<;>simp only [YL,Bool.false_eq_true] at hf
   cases d'<;>simp only [YL,Bool.false_eq_true] at hf'
   cases hz
   cases hz'
   exact QD ih hks hks' fun i w w' a b=>by
    simp only [YE,List.getElem?_zip_eq_some] at a b
    exact Option.some.inj (a.1.symm.trans b.1)
  | text signs =>
   cases d<;>simp only [YL,Bool.false_eq_true] at hf
   cases d'<;>simp only [YL,Bool.false_eq_true] at hf'
   cases hz
   cases hz'
   have e1:∀ y:Str,(y.cps.toList.map fun c=>PyData.int (Txt.find (S signs) (S [c])))=(y.cps.toList.map fun c=>Txt.find (S signs) (S [c])).map PyData.int:=fun y=>by rw [List.map_map];rfl
   dsimp only
   rw [e1,e1]
   exact UD _ _
  | use nm =>
   cases ho:(plc (bk.map (·.1)) (S nm)).bind fun i=>(bk.map (·.2))[i]? with
   | none =>
    simp only [fnd] at hn
    rw [XO,ho] at hn
    simp at hn
   | some p =>
    rw [XO,ho] at hks hks'
    obtain ⟨b,e1,rfl⟩:=WO (w:=(p,d)) hks
    obtain ⟨b',e1',rfl⟩:=WO (w:=(p,d')) hks'
    rw [YbU] at hz hz'
    cases hz
    cases hz'
    exact .cons (ih p d d' b b' e1 e1') fun _ => .nil
  | pick ms ps =>
   obtain ⟨x,e,i,rfl,hx⟩:=Wq (ms:=ms) (d:=d) (by rw [Xg ps];exact hf)
   obtain ⟨x',e',i',rfl,hx'⟩:=Wq (ms:=ms) (d:=d') (by rw [Xg ps];exact hf')
   have w1:YE bk (.pick ms ps) (.tuple [.str x,e])=(ps[i]?).toList.map fun p=>(p,e):=by
    rw [Xh];show (((plc ms x).bind fun i=>ps[i]?).toList.map fun p=>(p,e))=_;rw [hx];rfl
   have w2:YE bk (.pick ms ps) (.tuple [.str x',e'])=(ps[i']?).toList.map fun p=>(p,e'):=by
    rw [Xh];show (((plc ms x').bind fun i=>ps[i]?).toList.map fun p=>(p,e'))=_;rw [hx'];rfl
   simp only [fnd] at hn hn'
   rw [w1] at hn hks
   rw [w2] at hn' hks'
   cases hp:ps[i]? with
   | none=>rw [hp] at hn;simp at hn
   | some p =>
   cases hp':ps[i']? with
   | none=>rw [hp'] at hn';simp at hn'
   | some p' =>
   rw [hp] at hks
   rw [hp'] at hks'
   obtain ⟨b,e1,rfl⟩:=WO (w:=(p,e)) hks
   obtain ⟨b',e1',rfl⟩:=WO (w:=(p',e')) hks'
   simp only [kz,hx,hx',Option.getD_some,Option.some.injEq] at hz hz'
   subst hz hz'
   refine .cons (.int _ _) fun z => .cons ?_ fun _ => .nil
   have hi:i=i':=by have:=PyData.int.inj z;omega
   subst hi
   rw [hp] at hp'
   cases hp'
   exact ih p e e' b b' e1 e1'
mutual
inductive KAt (H:Hp):V→PyData→Prop
 | int (i:Int):KAt H (.int i) (.int i)
 | tup {a:Addr} {vs:List V} {ds:List PyData}:H a=some (.tup vs)→KAts H vs ds→KAt H (.ref a) (.tuple ds)
inductive KAts (H:Hp):List V→List PyData→Prop
 | nil:KAts H [] []
 | cons {v:V} {d:PyData} {vs:List V} {ds:List PyData}:KAt H v d→KAts H vs ds→KAts H (v::vs) (d::ds)
end
def Tps (H H':Hp):Prop:=∀ a vs,H a=some (.tup vs)→H' a=some (.tup vs)
theorem YT {H H':Hp} (s:Yb H H'):Tps H H':=fun a vs h=>s a _ h
theorem Tps.trans {H H' H'':Hp} (s:Tps H H') (t:Tps H' H''):Tps H H'':=fun a vs h=>t a vs (s a vs h)
theorem Tps.upd_lst {H:Hp} {p:Addr} {xs ys:List V} (h:H p=some (.lst xs)):Tps H (upd H p (.lst ys)):=fun a vs ha=>by
 rw [Yh (X4 ha h (by intro z;cases z))];exact ha
mutual
theorem KAt.keep {H H':Hp} (e:Tps H H'):∀ {v:V} {d:PyData},KAt H v d→KAt H' v d
 | _,_,.int i => .int i
 | _,_,.tup h hs => .tup (e _ _ h) (hs.keep e)
theorem KAts.keep {H H':Hp} (e:Tps H H'):∀ {vs:List V} {ds:List PyData},KAts H vs ds→KAts H' vs ds
 | _,_,.nil => .nil
 | _,_,.cons h hs => .cons (h.keep e) (hs.keep e)
end
mutual
theorem KAt.den {K:PySem.W.Frag} {H:Hp}:∀ {v:V} {d:PyData},KAt H v d→Den K H v d
 | _,_,.int i => .int i
 | _,_,.tup h hs => .tup (SqT.of h) hs.den
theorem KAts.den {K:PySem.W.Frag} {H:Hp}:∀ {vs:List V} {ds:List PyData},KAts H vs ds→Dens K H vs ds
 | _,_,.nil => .nil
 | _,_,.cons h hs => .cons h.den hs.den
end
theorem KAts.length {H:Hp}:∀ {vs:List V} {ds:List PyData},KAts H vs ds→vs.length=ds.length
 | _,_,.nil=>rfl
 | _,_,.cons _ hs=>congrArg (·+1) hs.length
theorem KAts.append {H:Hp} {vs':List V} {ds':List PyData}:∀ {vs:List V} {ds:List PyData},KAts H vs ds→KAts H vs' ds'→KAts H (vs++vs') (ds++ds')
 | _,_,.nil,h=>h
 | _,_,.cons a b,h => .cons a (b.append h)
abbrev Wd (H:Hp) (ks:List V) (kk:List Ky):Prop:=KAts H ks (kk.map kt)
theorem X2 {H:Hp} {v:V} {k:Ky} (h:KAt H v (kt k)):∃ a r,v = .ref a∧H a=some (.tup (.int (k.1:Nat)::r)):=by
 generalize hd:kt k=d at h
 cases h with
 | int i=>simp [kt] at hd
 | @tup a vs ds h hs =>
  have:ds = .int (k.1:Nat)::k.2:=by simpa [kt] using hd.symm
  subst this
  cases hs with
  | cons h1 h2 =>
   cases h1
   exact ⟨a,_,rfl,h⟩
theorem Wd.keyed {H:Hp}:∀ {ks:List V} {kk:List Ky},Wd H ks kk→ks.length≤1000→VM H ks (kk.map (·.1))
 | ks,kk,h,hl=>by
  have hlen:=h.length
  rw [List.length_map] at hlen
  refine ⟨by rw [List.length_map];exact hlen,hl,fun j k n h1 h2=>?_⟩
  clear hl hlen
  induction kk generalizing ks j with
  | nil=>simp at h2
  | cons k0 kk ih =>
   cases h with
   | cons a b =>
    cases j with
    | zero =>
     have e1:_=k:=Option.some.inj h1
     have e2:k0.1=n:=Option.some.inj h2
     subst e1 e2
     exact X2 a
    | succ j=>exact ih _ b j (by simpa using h1) (by simpa using h2)
theorem Yej {bk:Bk} {K:PySem.W.Frag} {H:Hp} {x:V} {sh:Sh} {d:PyData} (hx:ShAt K H x sh) (hf:YL sh d=true) (hF:Fnd bk sh):fnd bk sh d=true:=by
 cases hx with
 | whole | text | row | lst | alike=>rfl
 | @pick a b' as ms us ps ha hb' hbr hs hn =>
  rw [← Xg] at hf
  obtain ⟨x,d',i,rfl,hi⟩:=Wq hf
  have hil:=WE hi
  have e2:=hs.length
  have b2:=hbr.2.1
  have fp:ps[i]?=some (ps[i]'(by omega)):=List.getElem?_eq_getElem _
  unfold fnd
  dsimp only
  rw [Xh,show X0 ms ps (.tuple [.str x,d'])=[(ps[i]'(by omega),d')] from by
   show (((plc ms x).bind fun i=>ps[i]?).toList.map fun p=>(p,d'))=_
   rw [hi,Option.bind_some,fp]
   rfl]
  rfl
 | @use a nm ha =>
  obtain ⟨i,hi⟩:=hF
  have hil:=WE hi
  rw [List.length_map] at hil
  have fp:(bk.map (·.2))[i]?=some ((bk.map (·.2))[i]'(by rw [List.length_map];exact hil)):=List.getElem?_eq_getElem _
  unfold fnd
  dsimp only
  rw [XO,hi,Option.bind_some,fp]
  rfl
theorem KAts.at {H:Hp}:∀ {vs:List V} {ds:List PyData} {i:Nat} {v:V},KAts H vs ds→vs[i]?=some v→∃ d,ds[i]?=some d∧KAt H v d
 | _,_,0,v,.cons a _,h=>by
  have:_=v:=Option.some.inj h
  subst this
  exact ⟨_,rfl,a⟩
 | _,_,i+1,v,.cons _ b,h=>b.at (i:=i) h
def Cmp (kk:List Ky):Prop:=∀ k∈kk,KD (kt k)∧(kt k).depth≤64∧∀ k'∈kk,Sim (kt k) (kt k')
open Classical in
noncomputable def bz {α:Type} (R:α→α→Prop) (l:List α):List Bool:=(l.zip l.tail).map fun p=>decide (R p.1 p.2)
open Classical in
theorem QE {α:Type} {R:α→α→Prop}:∀ (l:List α),(bz R l).all id=decide (Adj R l)
 | []=>(@decide_eq_true (Adj R []) (propDecidable _) trivial).symm
 | [x]=>(@decide_eq_true (Adj R [x]) (propDecidable _) trivial).symm
 | x::y::l=>by
  have ih:=QE (R:=R) (y::l)
  unfold bz at ih ⊢
  rw [List.tail_cons,List.zip_cons_cons,List.map_cons,List.all_cons]
  rw [List.tail_cons] at ih
  rw [ih,Bool.eq_iff_iff]
  simp only [Bool.and_eq_true,decide_eq_true_eq,id]
  exact Iff.rfl
theorem YbX {α:Type} {R:α→α→Prop} (l:List α):(bz R l).length=l.length - 1:=by
 unfold bz
 rw [List.length_map,List.length_zip,List.length_tail]
 omega
open Classical in
theorem Yc9 {α:Type} {R:α→α→Prop} {l:List α} {i:Nat} {a b:α} (h1:l[i]?=some a) (h2:l[i+1]?=some b):(bz R l)[i]?=some (decide (R a b)):=by
 unfold bz
 rw [List.getElem?_map,(List.getElem?_zip_eq_some (z:=(a,b))).mpr ⟨h1,by rw [List.getElem?_tail];exact h2⟩]
 rfl
theorem UF (xs:List V):YB xs (some 1) none=xs.drop 1:=VU xs 1
open Classical in
def Z0s (K:PySem.W.Frag):Sp:=fun vs H Q _=>∃ b ks kk,vs=[.ref b]∧H b=some (.lst ks)∧ks.length≤1000∧Wd H ks kk∧Cmp kk∧∀ H',Yb H H'→Q (.bl (decide (Adj (fun a b=>¬ KLt (kt b) (kt a)) kk))) H'
theorem UO  {c_law_lists P_law_lists:Addr} (R:g.Raw "none_ahead" "none_ahead" ZR ["keys"]) (b_all:g.mg "all"=none) (b_zip:g.mg "zip"=none):g.Fn (1) "none_ahead" ["keys"] (Z0s g.K):=by
 refine R.fn UM (fun vs H Q E h=>by obtain ⟨b,ks,kk,rfl,hb,hl,hkd,hc,q⟩:=h;rfl) fun f_ cdv A outer s H vs Q E hr h=>?_
 obtain ⟨b,ks,kk,rfl,hb,hl,hkd,hc,q⟩:=h
 refine ⟨_,(@Yg _ _ _ (@Yk _ _ _ _ (@YF _ _ _ _ _ _ _ _ _ _ b_all (Xp rfl) (@Ya _ _ _ _ _ (@XI _ _ _ _ _ _ _ ([none,none]) ((["one","other"]:List Str)) _ (XR g.K 2 (YU (Ys 0) (YU (Ys 1) XQ))) _ _ (.own (.own .nil)) rfl (@VS _ _ _ _ _ _ _ _ _ rfl b_zip (@Ya _ _ _ _ _ (pv 0) (@Ya _ _ _ _ _ (@Y3 _ _ _ _ _ _ _ _ _ _ Y9 (pv 0) (@YX _ _ _ Ye) Xo) Yd (by rfl)) (by rfl)) (by rfl) (by rfl)) (fun cl C s₀ H₀ fp pn=>(@X6 _ _ _ _ _ (2) rfl (@YO _ _ _ _ _ (@Yu _ _ (0) _ (show List.Nodup (["one","other"]:List Str) by decide +kernel) rfl (.inl rfl) (.inr rfl)) (@YO _ _ _ _ _ (@Yu _ _ (1) _ (show List.Nodup (["one","other"]:List Str) by decide +kernel) rfl (.inl rfl) (.inr rfl)) Xx (by rfl)) (by rfl)) (by rfl) (by rfl))) (fun cl C s₀ H₀ fp pn=>Y2) (fun cl C s₀ H₀ fp pn=>(@Y6 _ _ _ _ _ _ _ _ (Ydv (K:=g.K) hr.units66) (pv 0) (pv 1) (Yo _))) (by intro x hx;simp at hx) (by rfl) (by decide) (by decide +kernel) (by intro _;rfl)) Yd (by rfl)) (by decide +kernel) (by rfl) (by rfl) (by decide) (by decide) (by rfl) (by rfl)))),?_⟩
 walk_at "rd"
 have hlen:=hkd.length
 rw [List.length_map] at hlen
 refine Ux (K:=g.K) (xs:=ks) (ys:=ks.drop 1) ((bz (fun a b=>¬ KLt (kt b) (kt a)) kk).map V.bl) (fun R r=>?_) (by rw [List.length_map,YbX,List.length_drop];omega) (by omega) ?_ ?_
 ·walk_at "rd"
  exact ⟨ks,SqL.of hb,fun p hp=>r b p _ (.upd_new hp _) (SqL.of ((Yb.upd_new hp _) _ _ hb)) (SqL.of (by rw [Yc,UF]))⟩
 ·intro i x y z H' hx hy hz sm R r
  rw [List.getElem?_drop,Nat.add_comm] at hy
  obtain ⟨d1,e1,k1⟩:=hkd.at hx
  obtain ⟨d2,e2,k2⟩:=hkd.at hy
  rw [List.getElem?_map] at e1 e2
  obtain ⟨a1,f1,rfl⟩:=Option.map_eq_some_iff.mp e1
  obtain ⟨a2,f2,rfl⟩:=Option.map_eq_some_iff.mp e2
  rw [List.getElem?_map,Yc9 f1 f2] at hz
  have:V.bl _=z:=Option.some.inj hz
  subst this
  walk_at "rd"
  obtain ⟨c1,c2,c3⟩:=hc a1 (List.mem_of_getElem? f1)
  obtain ⟨c4,c5,c6⟩:=hc a2 (List.mem_of_getElem? f2)
  obtain ⟨bb,hle,hbb⟩:=(c3 a2 (List.mem_of_getElem? f2)).answerLe c1 c4
  refine ⟨_,(k1.keep (YT sm)).den,_,(k2.keep (YT sm)).den,_,hle,c2,?_⟩
  rw [show bb=@decide (¬ KLt (kt a2) (kt a1)) (Classical.propDecidable _) from Bool.eq_iff_iff.mpr (hbb.trans (@decide_eq_true_iff _ (Classical.propDecidable _)).symm)]
  exact r H' (.refl H')
 ·intro D H' hD sm hd
  refine ⟨D,rfl,_,SqL.of hd,?_⟩
  rw [QE]
  exact q H' sm
open Classical in
def Z0t (K:PySem.W.Frag):Sp:=fun vs H Q _=>∃ b ks kk,vs=[.ref b]∧H b=some (.lst ks)∧ks.length≤1000∧Wd H ks kk∧Cmp kk∧∀ H',Yb H H'→Q (.bl (decide (Adj (fun a b=>KLt (kt a) (kt b)) kk))) H'
theorem UP  {c_law_lists P_law_lists:Addr} (R:g.Raw "all_behind" "all_behind" ZS ["keys"]) (b_all:g.mg "all"=none) (b_zip:g.mg "zip"=none):g.Fn (1) "all_behind" ["keys"] (Z0t g.K):=by
 refine R.fn UN (fun vs H Q E h=>by obtain ⟨b,ks,kk,rfl,hb,hl,hkd,hc,q⟩:=h;rfl) fun f_ cdv A outer s H vs Q E hr h=>?_
 obtain ⟨b,ks,kk,rfl,hb,hl,hkd,hc,q⟩:=h
 refine ⟨_,(@Yg _ _ _ (@Yk _ _ _ _ (@YF _ _ _ _ _ _ _ _ _ _ b_all (Xp rfl) (@Ya _ _ _ _ _ (@XI _ _ _ _ _ _ _ ([none,none]) ((["one","other"]:List Str)) _ (XR g.K 2 (YU (Ys 0) (YU (Ys 1) XQ))) _ _ (.own (.own .nil)) rfl (@VS _ _ _ _ _ _ _ _ _ rfl b_zip (@Ya _ _ _ _ _ (pv 0) (@Ya _ _ _ _ _ (@Y3 _ _ _ _ _ _ _ _ _ _ Y9 (pv 0) (@YX _ _ _ Ye) Xo) Yd (by rfl)) (by rfl)) (by rfl) (by rfl)) (fun cl C s₀ H₀ fp pn=>(@X6 _ _ _ _ _ (2) rfl (@YO _ _ _ _ _ (@Yu _ _ (0) _ (show List.Nodup (["one","other"]:List Str) by decide +kernel) rfl (.inl rfl) (.inr rfl)) (@YO _ _ _ _ _ (@Yu _ _ (1) _ (show List.Nodup (["one","other"]:List Str) by decide +kernel) rfl (.inl rfl) (.inr rfl)) Xx (by rfl)) (by rfl)) (by rfl) (by rfl))) (fun cl C s₀ H₀ fp pn=>Y2) (fun cl C s₀ H₀ fp pn=>(@Y6 _ _ _ _ _ _ _ _ (Ydu (K:=g.K) hr.units66) (pv 0) (pv 1) (Yo _))) (by intro x hx;simp at hx) (by rfl) (by decide) (by decide +kernel) (by intro _;rfl)) Yd (by rfl)) (by decide +kernel) (by rfl) (by rfl) (by decide) (by decide) (by rfl) (by rfl)))),?_⟩
 walk_at "rd"
 have hltn:=hkd.length
 rw [List.length_map] at hltn
 refine Ux (K:=g.K) (xs:=ks) (ys:=ks.drop 1) ((bz (fun a b=>KLt (kt a) (kt b)) kk).map V.bl) (fun R r=>?_) (by rw [List.length_map,YbX,List.length_drop];omega) (by omega) ?_ ?_
 ·walk_at "rd"
  exact ⟨ks,SqL.of hb,fun p hp=>r b p _ (.upd_new hp _) (SqL.of ((Yb.upd_new hp _) _ _ hb)) (SqL.of (by rw [Yc,UF]))⟩
 ·intro i x y z H' hx hy hz sm R r
  rw [List.getElem?_drop,Nat.add_comm] at hy
  obtain ⟨d1,e1,k1⟩:=hkd.at hx
  obtain ⟨d2,e2,k2⟩:=hkd.at hy
  rw [List.getElem?_map] at e1 e2
  obtain ⟨a1,f1,rfl⟩:=Option.map_eq_some_iff.mp e1
  obtain ⟨a2,f2,rfl⟩:=Option.map_eq_some_iff.mp e2
  rw [List.getElem?_map,Yc9 f1 f2] at hz
  have:V.bl _=z:=Option.some.inj hz
  subst this
  walk_at "rd"
  obtain ⟨c1,c2,c3⟩:=hc a1 (List.mem_of_getElem? f1)
  obtain ⟨c4,c5,c6⟩:=hc a2 (List.mem_of_getElem? f2)
  obtain ⟨bb,hlt,hbb⟩:=(c3 a2 (List.mem_of_getElem? f2)).answer c1 c4
  refine ⟨_,(k1.keep (YT sm)).den,_,(k2.keep (YT sm)).den,_,hlt,c2,?_⟩
  rw [show bb=@decide (KLt (kt a1) (kt a2)) (Classical.propDecidable _) from Bool.eq_iff_iff.mpr (hbb.trans (@decide_eq_true_iff _ (Classical.propDecidable _)).symm)]
  exact r H' (.refl H')
 ·intro D H' hD sm hd
  refine ⟨D,rfl,_,SqL.of hd,?_⟩
  rw [QE]
  exact q H' sm
open Classical in
def Z0C (K:PySem.W.Frag):Sp:=fun vs H Q _=>∃ b ks kk,vs=[.ref b]∧H b=some (.lst ks)∧ks.length≤1000∧Wd H ks kk∧Cmp kk∧∀ H',Yb H H'→Q (.bl (@decide (∀ k∈kk,kk.head?=some k) (Classical.propDecidable _))) H'
theorem QF  {c_law_lists P_law_lists:Addr} (R:g.Raw "all_alike" "all_alike" Z01 ["keys"]) (b_all:g.mg "all"=none):g.Fn (1) "all_alike" ["keys"] (Z0C g.K):=by
 refine R.fn Qu (fun vs H Q E h=>by obtain ⟨b,ks,kk,rfl,hb,hl,hkd,hc,q⟩:=h;rfl) fun f_ cdv A outer s H vs Q E hr h=>?_
 obtain ⟨b,ks,kk,rfl,hb,hl,hkd,hc,q⟩:=h
 refine ⟨_,(@Yg _ _ _ (@Yk _ _ _ _ (@YF _ _ _ _ _ _ _ _ _ _ b_all (Xp rfl) (@Ya _ _ _ _ _ (@XI _ _ _ _ _ _ _ ([none,some 0]) ((["key","keys"]:List Str)) _ (Ys 0) _ _ (.own (.cap (i:=0) rfl rfl (by first | exact .inl rfl | exact .inr rfl) .nil)) rfl (@YW _ _ _ _ (pv 0)) (fun cl C s₀ H₀ fp pn=>(@Yu _ _ (0) _ (show List.Nodup (["key","keys"]:List Str) by decide +kernel) rfl (.inl rfl) (.inr rfl))) (fun cl C s₀ H₀ fp pn=>Y2) (fun cl C s₀ H₀ fp pn=>(@Y6 _ _ _ _ _ _ _ _ (Ydo (K:=g.K) hr.units) (pv 0) (@Yj _ _ _ _ _ _ _ (Vp (K:=g.K)) (pv 1) Ye (fun _ _=>rfl)) (Yo _))) (by intro x hx;simp at hx;first | (subst hx;exact .inl rfl) | (rcases hx with rfl | rfl<;>exact .inl rfl) | (rcases hx with rfl | rfl | rfl<;>exact .inl rfl) | (rcases hx with rfl | rfl | rfl | rfl<;>exact .inl rfl) | (rcases hx with rfl | rfl | rfl | rfl | rfl<;>exact .inl rfl)) (by rfl) (by decide) (by decide +kernel) (by intro _;rfl)) Yd (by rfl)) (by decide +kernel) (by rfl) (by rfl) (by decide) (by decide) (by rfl) (by rfl)))),?_⟩
 walk_at "rd"
 have hlen:=hkd.length
 rw [List.length_map] at hlen
 refine W2 (K:=g.K) (xs:=ks) ((kk.map fun k=>@decide (kk.head?=some k) (Classical.propDecidable _)).map V.bl) (fun R r=>by walk_at "rd";exact r b H (.refl H) (SqL.of hb)) (by simp [hlen]) (by omega) ?_ ?_
 ·intro i x y H' hx hy sm R r
  obtain ⟨d1,e1,k1⟩:=hkd.at hx
  rw [List.getElem?_map] at e1
  obtain ⟨a1,f1,rfl⟩:=Option.map_eq_some_iff.mp e1
  rw [List.getElem?_map,List.getElem?_map,f1] at hy
  have:V.bl _=y:=Option.some.inj hy
  subst this
  walk_at "rd"
  have hi:=(List.getElem?_eq_some_iff.mp hx).1
  have h0:ks[0]?=some (ks[0]'(by omega)):=List.getElem?_eq_getElem _
  obtain ⟨d0,e0,k0⟩:=hkd.at h0
  rw [List.getElem?_map] at e0
  obtain ⟨a0,f0,rfl⟩:=Option.map_eq_some_iff.mp e0
  have hh:kk.head?=some a0:=by rw [List.head?_eq_getElem?];exact f0
  refine ⟨ks,SqL.of (sm _ _ hb),_,XS (j:=0) h0,_,(k1.keep (YT sm)).den,_,(k0.keep (YT sm)).den,(hc a1 (List.mem_of_getElem? f1)).2.1,?_⟩
  have e:PyData.eqv (kt a1) (kt a0)=@decide (kk.head?=some a1) (Classical.propDecidable _):=Bool.eq_iff_iff.mpr (((hc a1 (List.mem_of_getElem? f1)).1.eqv (hc a0 (List.mem_of_getElem? f0)).1).trans (Iff.trans ⟨fun z=>by rw [hh,YbQ z],fun z=>by rw [hh] at z;cases z;rfl⟩ (@decide_eq_true_iff _ (Classical.propDecidable _)).symm))
  rw [e]
  exact r H' (.refl H')
 ·intro D H' hD sm hd
  refine ⟨D,rfl,_,SqL.of hd,?_⟩
  have e:((kk.map fun k=>@decide (kk.head?=some k) (Classical.propDecidable _)).all id)=@decide (∀ k∈kk,kk.head?=some k) (Classical.propDecidable _):=by
   refine Bool.eq_iff_iff.mpr (Iff.trans ?_ (@decide_eq_true_iff _ (Classical.propDecidable _)).symm)
   rw [List.all_map,List.all_eq_true]
   exact ⟨fun z k hk=>(@decide_eq_true_iff _ (Classical.propDecidable _)).mp (z k hk),fun z k hk=>(@decide_eq_true_iff _ (Classical.propDecidable _)).mpr (z k hk)⟩
  rw [e]
  exact q H' sm
theorem Vs {H:Hp}:∀ {ks:List V} {kk:List Ky},Wd H ks kk→∀ x∈ks.zip kk,KAt H x.1 (kt x.2)
 | [],_,_,x,hx=>by simp at hx
 | v::ks,[],h,x,hx=>by simp at hx
 | v::ks,k::kk,h,x,hx=>by
  cases h with
  | cons a b =>
   rcases List.mem_cons.mp hx with rfl | hx
   ·exact a
   ·exact Vs b x hx
def WP (H:Hp) (gs:List Addr) (G:List (List (V×Ky))):Prop:=gs.length=G.length∧∀ (j:Nat) a g,gs[j]?=some a→G[j]?=some g→H a=some (.lst (g.map (·.1)))
theorem W6 (xs:List V) (x:V):atI (xs++[x]) (-1)=some x:=by
 have:ixN (xs++[x]).length (-1)=some xs.length:=by
  rw [List.length_append,List.length_singleton]
  unfold ixN
  rw [if_neg (by omega)]
  split
  ·congr 1;omega
  ·omega
 rw [atI,this,Option.bind_some,List.getElem?_append_right (Nat.le_refl _),Nat.sub_self]
 rfl
theorem YbY {α:Type} {f:α→Nat} {ks:List α} {g:List α} (h:g∈grp f ks):g.length≤ks.length:=by
 have:=(List.sublist_flatten_of_mem h).length_le
 rw [Xw] at this
 exact this
theorem Yau {α:Type} {f:α→Nat}:∀ (ks:List α),(grp f ks).length≤ks.length
 | []=>Nat.le_refl _
 | k::ks=>by
  have ih:=Yau (f:=f) ks
  unfold grp
  split
  ·rename_i e
   rw [e] at ih
   split<;>simp only [List.length_cons] at ih ⊢<;>omega
  ·simp only [List.length_cons];omega
theorem WP.mem {H:Hp} {gs:List Addr} {G:List (List (V×Ky))} (h:WP H gs G) {a:Addr} (ha:a∈gs):∃ ys,H a=some (.lst ys):=by
 obtain ⟨j,hj,rfl⟩:=List.getElem_of_mem ha
 exact ⟨_,h.2 j _ _ (List.getElem?_eq_getElem hj) (List.getElem?_eq_getElem (by rw [← h.1];exact hj))⟩
theorem Yek {H H':Hp} {p p1:Addr} {gs:List Addr} {G:List (List (V×Ky))} (sm:Yb H H') (hp:H' p=some (.lst (gs.map V.ref))) (hp0:H p=none) (hpn:p∉gs) (hnd:gs.Nodup) (hnew:∀ a∈gs,H a=none) (hgr:WP H' gs G) (h1:H' p1=none) :
  Yb H (upd (upd H' p1 (.lst [])) p (.lst (gs.map V.ref++[.ref p1])))∧upd (upd H' p1 (.lst [])) p (.lst (gs.map V.ref++[.ref p1])) p=some (.lst ((gs++[p1]).map V.ref))∧p∉gs++[p1]∧(gs++[p1]).Nodup∧(∀ x∈gs++[p1],H x=none)∧WP (upd (upd H' p1 (.lst [])) p (.lst (gs.map V.ref++[.ref p1]))) (gs++[p1]) (G++[[]]):=by
 have hpp:p≠p1:=fun e=>by rw [e,h1] at hp;cases hp
 have hng:p1∉gs:=fun z=>by obtain ⟨ys,e⟩:=hgr.mem z;rw [h1] at e;cases e
 refine ⟨.upd_over hp0 (sm.trans (.upd_new h1 _)) _,by rw [Yc,List.map_append];rfl,?_,?_,?_,?_⟩
 ·simp only [List.mem_append,List.mem_singleton,not_or]
  exact ⟨hpn,hpp⟩
 ·refine List.nodup_append.mpr ⟨hnd,by simp,fun a ha b hb=>?_⟩
  rw [List.mem_singleton.mp hb]
  exact fun e=>hng (e▸ha)
 ·intro x hx
  rcases List.mem_append.mp hx with hx | hx
  ·exact hnew x hx
  ·rw [List.mem_singleton.mp hx];exact sm.free h1
 ·refine ⟨by simp [hgr.1],fun j a g ha hg=>?_⟩
  rcases Nat.lt_or_ge j gs.length with c | c
  ·rw [List.getElem?_append_left c] at ha
   rw [List.getElem?_append_left (by rw [← hgr.1];exact c)] at hg
   have ham:=List.mem_of_getElem? ha
   have q1:a≠p:=fun e=>hpn (e▸ham)
   have q2:a≠p1:=fun e=>hng (e▸ham)
   rw [Yh q1,Yh q2]
   exact hgr.2 j a g ha hg
  ·have hjl:=(List.getElem?_eq_some_iff.mp ha).1
   simp only [List.length_append,List.length_singleton] at hjl
   have hj:j=gs.length:=by omega
   subst hj
   rw [List.getElem?_append_right (Nat.le_refl _),Nat.sub_self] at ha
   have ea:p1=a:=Option.some.inj ha
   rw [hgr.1,List.getElem?_append_right (Nat.le_refl _),Nat.sub_self] at hg
   have eg:[]=g:=Option.some.inj hg
   subst ea eg
   rw [Yh hpp.symm,Yc]
   rfl
def ZL (K:PySem.W.Frag):Sp:=fun vs H Q _=>∃ b ks kk,vs=[.ref b]∧H b=some (.lst ks)∧ks.length≤1000∧Wd H ks kk∧∀ p gs H',H p=none→(∀ a∈gs,H a=none)→Yb H H'→H' p=some (.lst (gs.map V.ref))→WP H' gs (grp (fun x:V×Ky=>x.2.1) (ks.zip kk))→Q (.ref p) H'
theorem Z0J  {c_law_lists P_law_lists:Addr} (R:g.Raw "groups_by_size" "groups_by_size" Zk ["keys"]) (b_len:g.mg "len"=none):g.Fn (1) "groups_by_size" ["keys"] (ZL g.K):=by
 refine R.fn Ze (fun vs H Q E h=>by obtain ⟨b,ks,kk,rfl,hb,hl,hkd,q⟩:=h;rfl) fun f_ cdv A outer s H vs Q E hr h=>?_
 obtain ⟨b,ks,kk,rfl,hb,hl,hkd,q⟩:=h
 refine ⟨_,(@Yf _ _ _ _ _ (@YD _ _ (1) _ _ _ _ Ze.nd rfl (.inl rfl) (@YM _ _ _ _ Yd) (by rfl) (by first | exact .inl rfl | exact .inr rfl | assumption)) (@Yf _ _ _ _ _ (@X7 _ _ _ _ _ _ _ _ PassesOwn.never rfl (@YW _ _ _ _ (pv 0)) (@Yu _ _ (2) _ Ze.nd rfl (.inl rfl) (by first | exact .inl rfl | exact .inr rfl | assumption)) (@Yf _ _ _ _ _ (@YC _ _ _ _ _ _ _ _ (@W8 _ _ _ _ _ _ _ (@Yp _ _ _ _ _ _ _ _ YQ (@YF _ _ _ _ _ _ _ _ _ _ b_len YN (@Ya _ _ _ _ _ (pv 1) Yd (by rfl)) (by decide +kernel) (by rfl) (by rfl) (by decide) (by decide) (by rfl) (by rfl)) Ye (Yo _)) (@WW _ _ _ _ (@Yp _ _ _ _ _ _ _ _ YaG (@Yj _ _ _ _ _ _ _ Yl (@Yj _ _ _ _ _ _ _ YY (@Yj _ _ _ _ _ _ _ YY (pv 1) (@Wf _ _ _ _ _ _ XE Ye) (fun _ _=>rfl)) Ye (fun _ _=>rfl)) Ye (fun _ _=>rfl)) (@Yj _ _ _ _ _ _ _ Yl (pv 2) Ye (fun _ _=>rfl)) (Yo _)))).pt (@Yg _ _ _ (@Xn _ _ _ _ (@XH _ _ _ _ _ _ _ _ _ _ _ _ PySem.F.plainAttrs_list PySem.F.slot_list_append PySem.F.type_list_append Y7 (pv 1) (@Ya _ _ _ _ _ (@YM _ _ _ _ Yd) Yd (WL _ _ _ _)) (by rfl) (by rfl) (by rfl) (by rfl) (by rfl)) (by rfl))) Yq) (@Yg _ _ _ (@Xn _ _ _ _ (@XH _ _ _ _ _ _ _ _ _ _ _ _ PySem.F.plainAttrs_list PySem.F.slot_list_append PySem.F.type_list_append Y7 (@Yj _ _ _ _ _ _ _ YY (pv 1) (@Wf _ _ _ _ _ _ XE Ye) (fun _ _=>rfl)) (@Ya _ _ _ _ _ (pv 2) Yd (by rfl)) (by rfl) (by rfl) (by rfl) (by rfl) (by rfl)) (by rfl)))) (by intro _;rfl)) (@Yg _ _ _ (@Yk _ _ _ _ (pv 1))))),?_⟩
 walk_at "rd"
 refine ⟨few (by decide),fun p hp=>?_⟩
 have s1:=Yb.upd_new hp (.lst [])
 have hlen:=hkd.length
 rw [List.length_map] at hlen
 refine W1 (K:=g.K) (a:=b) (xs:=ks) (fun i σ H'=>∃ o2 gs,σ=[some (.ref b),some (.ref p),o2]∧Yb H H'∧H' p=some (.lst (gs.map V.ref))∧p∉gs∧gs.Nodup∧(∀ a∈gs,H a=none)∧WP H' gs (grp (fun x:V×Ky=>x.2.1) ((ks.zip kk).take i))) (fun R r=>by walk_at "rd";exact r) ⟨none,[],rfl,s1,Yc,by simp,.nil,by simp,rfl,by simp⟩ (fun i σ H' _ ⟨o2,gs,_,e,_⟩=>SqL.of (e _ _ hb)) ?_ ?_
 ·rintro i v σ H' hv ⟨o2,gs,rfl,sm,hp',hpn,hnd,hnew,hgr⟩
  have hi:=(List.getElem?_eq_some_iff.mp hv).1
  have hk:kk[i]?=some (kk[i]'(by omega)):=List.getElem?_eq_getElem _
  generalize kk[i]'(by omega)=k at hk
  have hz:(ks.zip kk)[i]?=some (v,k):=(List.getElem?_zip_eq_some (z:=(v,k))).mpr ⟨hv,hk⟩
  have hall:∀ x∈ks.zip kk,KAt H x.1 (kt x.2):=Vs hkd
  have hvk:=hall _ (List.mem_of_getElem? hz)
  obtain ⟨va,vr,rfl,hva⟩:=X2 hvk
  walk_at "gn"
  refine WK (fun σ H2=>σ=[some (.ref b),some (.ref p),some (.ref va)]∧∃ gs a G' g',Yb H H2∧H2 p=some (.lst ((gs++[a]).map V.ref))∧p∉gs++[a]∧(gs++[a]).Nodup∧(∀ x∈gs++[a],H x=none)∧WP H2 (gs++[a]) (G'++[g'])∧grp (fun x:V×Ky=>x.2.1) ((ks.zip kk).take (i+1))=G'++[g'++[(.ref va,k)]]) ?_ ?_
  ·rintro σ H2 ⟨rfl,gs,a,G',g',sm2,hp2,hpn2,hnd2,hnew2,hgr2,hgq⟩
   walk_at "rd"
   have hla:gs.length=G'.length:=by have:=hgr2.1;simpa using this
   have ha:H2 a=some (.lst (g'.map (·.1))):=hgr2.2 gs.length a g' (by simp) (by rw [hla];simp)
   have hgl:(g'++[(V.ref va,k)]).length≤((ks.zip kk).take (i+1)).length:=YbY (f:=fun x:V×Ky=>x.2.1) (by rw [hgq];simp)
   rw [List.length_take,List.length_append,List.length_singleton] at hgl
   have h6:10000<sizeLine:=by decide
   have hap:p≠a:=fun e=>hpn2 (by rw [e];simp)
   refine ⟨_,SqL.of hp2,.ref a,by rw [List.map_append];exact W6 _ _,.inl ⟨rfl,_,SqL.of ha⟩,a,rfl,_,ha,by rw [List.length_map];omega,.upd_over (hnew2 a (by simp)) sm2 _,gs++[a],by rw [Yh hap];exact hp2,hpn2,hnd2,hnew2,?_⟩
   rw [hgq]
   refine ⟨by simp [hla],fun j a' g ha' hg=>?_⟩
   rcases Nat.lt_or_ge j gs.length with c | c
   ·rw [List.getElem?_append_left c] at ha'
    rw [List.getElem?_append_left (by rw [← hla];exact c)] at hg
    have ham:=List.mem_of_getElem? ha'
    rw [Yh fun e=>(List.nodup_append.mp hnd2).2.2 a' ham a (by simp) e]
    exact hgr2.2 j a' g (by rw [List.getElem?_append_left c];exact ha') (by rw [List.getElem?_append_left (by rw [← hla];exact c)];exact hg)
   ·have hjl:=(List.getElem?_eq_some_iff.mp ha').1
    simp only [List.length_append,List.length_singleton] at hjl
    have hj:j=gs.length:=by omega
    subst hj
    rw [List.getElem?_append_right (Nat.le_refl _),Nat.sub_self] at ha'
    have ea:a=a':=Option.some.inj ha'
    rw [hla,List.getElem?_append_right (Nat.le_refl _),Nat.sub_self] at hg
    have eg:g'++[(V.ref va,k)]=g:=Option.some.inj hg
    subst ea eg
    rw [Yc,List.map_append]
    rfl
  ·intro N hN
   walk_at "rd"
   rw [Y5 hz] at hN
   have h6:10000<sizeLine:=by decide
   have hgn:gs.length≤i:=by
    rw [hgr.1]
    refine Nat.le_trans (Yau _) ?_
    rw [List.length_take]
    omega
   have new:∀ G,grp (fun x:V×Ky=>x.2.1) ((ks.zip kk).take i)=G→grp (fun x:V×Ky=>x.2.1) ((ks.zip kk).take i++[(V.ref va,k)])=G++[[(V.ref va,k)]] →
     tyV g.K "list" (V.ref p) H'∧0≤sizeLine∧∀ p1,H' p1=none→∃ x,upd H' p1 (HO.lst []) p=some (HO.lst x)∧x.length<sizeLine∧N [some (V.ref b),some (V.ref p),some (V.ref va)] (upd (upd H' p1 (HO.lst [])) p (HO.lst (x++[V.ref p1]))):=fun G e1 e2=>by
    rw [e1] at hgr
    refine ⟨.inl ⟨rfl,_,SqL.of hp'⟩,Nat.zero_le _,fun p1 h1=>⟨_,(Yb.upd_new h1 _) _ _ hp',by rw [List.length_map];omega,?_⟩⟩
    obtain ⟨n1,n2,n3,n4,n5,n6⟩:=Yek sm hp' hp hpn hnd hnew hgr h1
    exact hN _ _ ⟨rfl,gs,p1,G,[],n1,n2,n3,n4,n5,n6,e2⟩
   rcases QA (f:=fun x:V×Ky=>x.2.1) (V.ref va,k) ((ks.zip kk).take i) with ⟨e0,e1⟩ | ⟨G0,x,g0,e1,e2,e3⟩ | ⟨G0,x,g0,e1,e2,e3⟩
   ·have eg:grp (fun x:V×Ky=>x.2.1) ((ks.zip kk).take i)=[]:=by rw [e0];rfl
    have hg0:gs=[]:=by
     have:=hgr.1
     rw [eg] at this
     exact List.eq_nil_of_length_eq_zero this
    exact ⟨_,.inl (SqL.of hp'),XT (by rw [hg0];rfl) (new [] eg e1)⟩
   all_goals
    have hgr':=hgr
    rw [e1] at hgr'
    have hl2:=hgr'.1
    rw [List.length_append,List.length_singleton] at hl2
    obtain ⟨gs0,a,rfl⟩:∃ gs0 a,gs=gs0++[a]:=⟨gs.dropLast,gs.getLast (by intro e;rw [e] at hl2;simp at hl2),(List.dropLast_concat_getLast _).symm⟩
    rw [List.length_append,List.length_singleton] at hl2
    have ha:H' a=some (.lst ((x::g0).map (·.1))):=hgr'.2 gs0.length a _ (by simp) (by rw [show gs0.length=G0.length by omega];simp)
    have hxm:x∈ks.zip kk:=by
     have:x∈(grp (fun x:V×Ky=>x.2.1) ((ks.zip kk).take i)).flatten:=List.mem_flatten.mpr ⟨x::g0,by rw [e1];simp,.head _⟩
     rw [Xw] at this
     exact List.mem_of_mem_take this
    obtain ⟨xa,xr,ex,hxa⟩:=X2 (hall x hxm)
    obtain ⟨xv,xk⟩:=x
    dsimp only at ex e2 hxa
    subst ex
    refine ⟨_,.inl (SqL.of hp'),Ym (by simp;omega) ⟨_,SqL.of hp',.ref a,by rw [List.map_append];exact W6 _ _,a,rfl,_,SqL.of ha,_,Y4 _ _,xa,rfl,_,SqT.of (sm _ _ hxa),_,Y4 _ _,_,SqT.of (sm _ _ hva),_,Y4 _ _,rfl,?_⟩⟩
   ·refine Ym (fun z=>z (by rw [e2])) (hN _ _ ⟨rfl,gs0,a,G0,(.ref xa,xk)::g0,sm,hp',hpn,hnd,hnew,hgr',e3⟩)
   ·exact XT (fun z=>e2 (by have:=V.int.inj z;dsimp only at this ⊢;omega)) (new _ e1 e3)
 ·rintro σ H' ⟨o2,gs,rfl,sm,hp',_,_,hnew,hgr⟩
  walk_at "rd"
  refine q p gs H' hp hnew sm hp' ?_
  rw [List.take_of_length_le (by rw [List.length_zip];omega)] at hgr
  exact hgr
theorem WQ {K:PySem.W.Frag} {tl:TE} {g:TG} {tb:TS} {D:Ends} {σ:St} {H:Hp} (G:Addr→List V→Hp→Prop) (ha:∀ R:V→Hp→Prop,(∀ a xs H1,SqL K H1 a xs→G a xs H1→R (.ref a) H1)→tl σ H R)
  (hb:∀ a xs H1,SqL K H1 a xs→G a xs H1→∃ Pv:Nat→St→Hp→Prop,Pv 0 σ H1∧(∀ i σ H,i≤xs.length→Pv i σ H→SqL K H a xs)∧(∀ (i:Nat) x σ H,xs[i]?=some x→Pv i σ H→g x σ H fun σ2 H2=>tb { D with nx:=Pv (i+1),ct:=Pv (i+1),bk:=D.nx } σ2 H2)∧(∀ σ H,Pv xs.length σ H→D.nx σ H)) :
  U3 (Ws K tl) g tb D σ H :=
 ha _ fun a xs H1 hS hG=>by
  obtain ⟨Pv,h0,hl,hs,hd⟩:=hb a xs H1 hS hG
  exact ⟨a,rfl,⟨xs,hS⟩,U4 Pv h0 hl hs hd⟩
theorem QG:∀ (gs:List (List Ky)),(gs.flatMap blk).length≤3*gs.flatten.length
 | []=>Nat.le_refl _
 | g::gs=>by
  have ih:=QG gs
  rw [List.flatMap_cons,List.flatten_cons,List.length_append,List.length_append]
  have:(blk g).length≤3*g.length:=by
   cases g with
   | nil=>exact Nat.le_refl _
   | cons k g=>simp only [blk,List.length_cons,List.length_reverse,List.length_map];omega
  omega
theorem YdI {ks:List V} {kk:List Ky} (h:ks.length=kk.length):((grp (fun x:V×Ky=>x.2.1) (ks.zip kk)).map (List.map (·.2))).flatMap blk=ris kk:=by
 unfold ris
 rw [← Yas (f:=fun k:Ky=>k.1) (fun x:V×Ky=>x.2),List.map_snd_zip (by omega)]
theorem YcE {G:List (List (V×Ky))} {i:Nat} {g:List (V×Ky)} (h:G[i]?=some g):((G.take (i+1)).map (List.map (·.2))).flatMap blk=((G.take i).map (List.map (·.2))).flatMap blk++blk (g.map (·.2)):=by
 rw [Y5 h,List.map_append,List.flatMap_append]
 simp
theorem KAts.rev {H:Hp}:∀ {vs:List V} {ds:List PyData},KAts H vs ds→KAts H vs.reverse ds.reverse
 | _,_,.nil => .nil
 | _,_,.cons a b=>by
  rw [List.reverse_cons,List.reverse_cons]
  exact b.rev.append (.cons a .nil)
theorem Yav {H:Hp}:∀ {g:List (V×Ky)},(∀ x∈g,KAt H x.1 (kt x.2))→KAts H (g.map (·.1)) ((g.map (·.2)).map kt)
 | [],_ => .nil
 | x::g,h => .cons (h x (.head _)) (Yav fun y hy=>h y (.tail _ hy))
theorem YbZ {H Hx:Hp} {ys zs ws:List V} {d:PyData} {ds es:List PyData} (h:KAts H ys (d::ds)) (tt:Tps H Hx) (k:∀ Hx,Tps H Hx→KAts Hx (zs++ws) es):KAts Hx (ys++zs++ws) (d::(ds++es)):=by
 rw [List.append_assoc,← List.cons_append]
 exact (h.keep tt).append (k Hx tt)
def Z0D (K:PySem.W.Frag):Sp:=fun vs H Q _=>∃ (n:Nat) (b:Addr) (ks:List V) (kk:List Ky),vs=[.int (n:Int),.ref b]∧H b=some (.lst ks)∧ks.length≤1000∧Wd H ks kk∧∀ t H',Yb H H'→KAt H' (.ref t) (kt (n,ris kk))→Q (.ref t) H'
theorem QH {k:Nat}  {c_law_lists P_law_lists:Addr} (R:g.Raw "risen_key" "risen_key" Z02 ["size","keys"]) (Z0W:g.Fn k "groups_by_size" ["keys"] (ZL g.K)) (b_len:g.mg "len"=none) (Z1:g.mg "tuple"=none):g.Fn (k+1) "risen_key" ["size","keys"] (Z0D g.K):=by
 refine R.fn ZT (fun vs H Q E h=>by obtain ⟨n,b,ks,kk,rfl,hb,hl,hkd,q⟩:=h;rfl) fun f_ cdv A outer s H vs Q E hr h=>?_
 obtain ⟨n,b,ks,kk,rfl,hb,hl,hkd,q⟩:=h
 refine ⟨_,(@Yf _ _ _ _ _ (@YD _ _ (2) _ _ _ _ ZT.nd rfl (.inl rfl) (@YM _ _ _ _ (@Ya _ _ _ _ _ (pv 0) Yd (by rfl))) (by rfl) (by first | exact .inl rfl | exact .inr rfl | assumption)) (@Yf _ _ _ _ _ (@X7 _ _ _ _ _ _ _ _ PassesOwn.never rfl (@YW _ _ _ _ (@Yz _ _ _ _ _ _ _ _ _ _ _ _ Z0W hr (@Ya _ _ _ _ _ (pv 1) Yd (by rfl)) (by omega) (by rfl) (by rfl) (by decide) (by rfl) (by rfl))) (@Yu _ _ (3) _ ZT.nd rfl (.inl rfl) (by first | exact .inl rfl | exact .inr rfl | assumption)) (@Yf _ _ _ _ _ (@Xn _ _ _ _ (@XH _ _ _ _ _ _ _ _ _ _ _ _ PySem.F.plainAttrs_list PySem.F.slot_list_extend PySem.F.type_list_extend Um (pv 2) (@Ya _ _ _ _ _ (@YM _ _ _ _ (@Ya _ _ _ _ _ (@Wf _ _ _ _ _ _ XE (@Yj _ _ _ _ _ _ _ Yl (@Yj _ _ _ _ _ _ _ YY (pv 3) Ye (fun _ _=>rfl)) Ye (fun _ _=>rfl))) (@Ya _ _ _ _ _ (@YF _ _ _ _ _ _ _ _ _ _ b_len YN (@Ya _ _ _ _ _ (pv 3) Yd (by rfl)) (by decide +kernel) (by rfl) (by rfl) (by decide) (by decide) (by rfl) (by rfl)) Yd (by rfl)) (by rfl))) Yd (WL _ _ _ _)) (by rfl) (by rfl) (by rfl) (by rfl) (by rfl)) (by rfl)) (@Yg _ _ _ (@Xn _ _ _ _ (@XH _ _ _ _ _ _ _ _ _ _ _ _ PySem.F.plainAttrs_list PySem.F.slot_list_extend PySem.F.type_list_extend Um (pv 2) (@Ya _ _ _ _ _ (@YbB _ _ _ _ _ _ _ (pv 3) (@Wf _ _ _ _ _ _ XE Ye)) Yd (by rfl)) (by rfl) (by rfl) (by rfl) (by rfl) (by rfl)) (by rfl)))) (by intro _;rfl)) (@Yg _ _ _ (@Yk _ _ _ _ (@WJ _ _ _ _ _ _ _ _ _ _ Z1 Xc (@Ya _ _ _ _ _ (pv 2) Yd (by rfl)) (by decide +kernel) (by rfl) (by rfl) (by decide) (by decide) (by rfl) (by rfl)))))),?_⟩
 walk_at "rd"
 refine ⟨few (by decide),fun p hp=>?_⟩
 have s1:=Yb.upd_new hp (.lst [.int (n:Int)])
 have hlen:=hkd.length
 rw [List.length_map] at hlen
 have hall:∀ x∈ks.zip kk,KAt H x.1 (kt x.2):=Vs hkd
 refine WQ (fun l xs H2=>∃ gs,xs=gs.map V.ref∧l≠p∧p∉gs∧Yb (upd H p (.lst [.int (n:Int)])) H2∧H2 l=some (.lst (gs.map V.ref))∧WP H2 gs (grp (fun x:V×Ky=>x.2.1) (ks.zip kk))) (fun R r=>?_) ?_
 ·walk_at "rd"
  exact ⟨b,ks,kk,rfl,s1 _ _ hb,hl,hkd.keep (YT s1),fun l gs H' hl0 hg0 sm hl hgr=>r l _ H' (SqL.of hl) ⟨gs,rfl,fun e=>by (rw [e,Yc] at hl0;cases hl0),fun z=>by (have:=hg0 p z;rw [Yc] at this;cases this),sm,hl,hgr⟩⟩
 ·rintro l xs H2 hS ⟨gs,rfl,hlp,hpg,s2,hl2,hgr⟩
  refine ⟨fun i σ H'=>∃ o4 ys,σ=[some (.int (n:Int)),some (.ref b),some (.ref p),o4]∧Yb H H'∧H' p=some (.lst ys)∧H' l=some (.lst (gs.map V.ref))∧WP H' gs (grp (fun x:V×Ky=>x.2.1) (ks.zip kk))∧KAts H' ys (.int (n:Int)::(((grp (fun x:V×Ky=>x.2.1) (ks.zip kk)).take i).map (List.map (·.2))).flatMap blk),?_,?_,?_,?_⟩
  ·exact ⟨none,_,rfl,s1.trans s2,s2 _ _ Yc,hl2,hgr,.cons (.int _) .nil⟩
  ·rintro i σ H' hi ⟨o4,ys,rfl,e1,e2,e3,_⟩
   exact SqL.of e3
  ·rintro i y σ H' hy ⟨o4,ys,rfl,e1,e2,e3,e4,e5⟩
   have hi:i<gs.length:=by simpa using (List.getElem?_eq_some_iff.mp hy).1
   have ha:gs[i]?=some gs[i]:=List.getElem?_eq_getElem hi
   rw [List.getElem?_map,ha] at hy
   have:V.ref gs[i]=y:=Option.some.inj hy
   subst this
   have hG:(grp (fun x:V×Ky=>x.2.1) (ks.zip kk))[i]?=some ((grp (fun x:V×Ky=>x.2.1) (ks.zip kk))[i]'(by rw [← e4.1];exact hi)):=List.getElem?_eq_getElem _
   generalize (grp (fun x:V×Ky=>x.2.1) (ks.zip kk))[i]'(by rw [← e4.1];exact hi)=g0 at hG
   generalize gs[i]=a at ha
   have ham:=List.mem_of_getElem? ha
   have hgm:=List.mem_of_getElem? hG
   have hga:=e4.2 i a g0 ha hG
   have hap:a≠p:=fun e=>hpg (e▸ham)
   have hgl:=YbY hgm
   rw [List.length_zip] at hgl
   have hgz:∀ x∈g0,KAt H x.1 (kt x.2):=fun x hx=>hall x (by
    have:x∈(grp (fun x:V×Ky=>x.2.1) (ks.zip kk)).flatten:=List.mem_flatten.mpr ⟨g0,hgm,hx⟩
    rw [Xw] at this
    exact this)
   have hyl:=e5.length
   have hbl:=QG ((grp (fun x:V×Ky=>x.2.1) (ks.zip kk)).take i |>.map (List.map (·.2)))
   have hfl:(((grp (fun x:V×Ky=>x.2.1) (ks.zip kk)).take i).map (List.map (·.2))).flatten.length≤ks.length:=by
    rw [← List.map_flatten,List.length_map]
    have h1:((grp (fun x:V×Ky=>x.2.1) (ks.zip kk)).take i).flatten.length+((grp (fun x:V×Ky=>x.2.1) (ks.zip kk)).drop i).flatten.length=(ks.zip kk).length:=by
     rw [← List.length_append,← List.flatten_append,List.take_append_drop,Xw]
    rw [List.length_zip] at h1
    omega
   rw [List.length_cons] at hyl
   have h6:10000<sizeLine:=by decide
   cases g0 with
   | nil=>exact (WF hgm rfl).elim
   | cons x g0 =>
   obtain ⟨xa,xr,ex,hxa⟩:=X2 (hgz x (.head _))
   obtain ⟨xv,xk⟩:=x
   dsimp only at ex hxa
   subst ex
   walk_at "rd"
   refine ⟨.inl ⟨rfl,_,SqL.of e2⟩,_,SqL.of hga,_,Y4 _ _,xa,rfl,_,SqT.of (e1 _ _ hxa),_,Y4 _ _,_,rfl,_,.inl (SqL.of hga),few (by decide),fun p4 h4=>?_⟩
   have n1:=Yb.upd_new h4 (HO.lst [V.int (-(xk.1:Int)),V.int (((V.ref xa,xk)::g0).map (·.1)).length])
   have t1:Tps H' (upd (upd H' p4 (HO.lst [V.int (-(xk.1:Int)),V.int (((V.ref xa,xk)::g0).map (·.1)).length])) p (.lst (ys++[V.int (-(xk.1:Int)),V.int (((V.ref xa,xk)::g0).map (·.1)).length]))):=(YT n1).trans (.upd_lst (n1 _ _ e2))
   have hp4:p≠p4:=fun e=>by rw [← e,e2] at h4;cases h4
   have ha4:a≠p4:=fun e=>by rw [← e,hga] at h4;cases h4
   have hl4:l≠p4:=fun e=>by rw [← e,e3] at h4;cases h4
   refine ⟨p,p4,ys,_,rfl,rfl,n1 _ _ e2,Yc,by simp only [List.length_cons,List.length_nil];omega,?_⟩
   refine ⟨.inl ⟨rfl,_,SqL.of Yc⟩,_,SqL.of (by rw [Yh hap,Yh ha4];exact hga),fun p5 h5=>?_⟩
   have hp5:p≠p5:=fun e=>by rw [← e,Yc] at h5;cases h5
   have hne5:∀ z o,z≠p→H' z=some o→z≠p5:=fun z o hz ho e=>by
    have:z≠p4:=fun e=>by rw [← e,ho] at h4;cases h4
    rw [← e,Yh hz,Yh this,ho] at h5
    cases h5
   refine ⟨p,p5,_,_,rfl,rfl,by rw [Yh hp5,Yc],Yc,by simp only [List.length_append,List.length_reverse,List.length_map,List.length_cons,List.length_nil] at hgl ⊢;omega,?_⟩
   have old:∀ z o,z≠p→H' z=some o→upd (upd (upd (upd H' p4 (HO.lst [V.int (-(xk.1:Int)),V.int (((V.ref xa,xk)::g0).map (·.1)).length])) p (.lst (ys++[V.int (-(xk.1:Int)),V.int (((V.ref xa,xk)::g0).map (·.1)).length]))) p5 (.lst (((V.ref xa,xk)::g0).map (·.1)).reverse)) p (.lst (ys++[V.int (-(xk.1:Int)),V.int (((V.ref xa,xk)::g0).map (·.1)).length]++(((V.ref xa,xk)::g0).map (·.1)).reverse)) z=some o:=fun z o hz ho=>by
    have h4':z≠p4:=fun e=>by rw [← e,ho] at h4;cases h4
    rw [Yh hz,Yh (hne5 z o hz ho),Yh hz,Yh h4']
    exact ho
   have hHp:H p=none:=hp
   refine ⟨fun z o ho=>old z o (fun e=>by rw [e,hHp] at ho;cases ho) (e1 _ _ ho),_,Yc,old _ _ hlp e3,⟨e4.1,fun j a' g' h1 h2=>old _ _ (fun e=>hpg (e▸List.mem_of_getElem? h1)) (e4.2 j a' g' h1 h2)⟩,?_⟩
   rw [YcE hG]
   refine YbZ e5 (fun z vs hz=>old z _ (fun e=>by rw [e,e2] at hz;cases hz) hz) fun Hx tt => .cons (.int _) (.cons ?_ ?_)
   ·rw [show ((((V.ref xa,xk)::g0).map (·.1)).length:Int)=((((g0.map (·.2)).length+1:Nat)):Int) from by simp]
    exact .int _
   ·exact ((Yav hgz).rev).keep ((YT e1).trans tt)
  ·rintro σ H' ⟨o4,ys,rfl,e1,e2,e3,e4,e5⟩
   walk_at "rd"
   rw [List.length_map,e4.1,List.take_length,YdI hlen] at e5
   exact ⟨_,.inl ⟨SqL.of e2,fun t ht=>q t _ (e1.trans (.upd_new ht _)) (.tup Yc (e5.keep (YT (Yb.upd_new ht _))))⟩⟩
theorem KAts.take {H:Hp}:∀ {vs:List V} {ds:List PyData} (n:Nat),KAts H vs ds→KAts H (vs.take n) (ds.take n)
 | _,_,0,_=>by simp;exact .nil
 | _,_,n+1,.nil=>by simp;exact .nil
 | _,_,n+1,.cons a b => .cons a (b.take n)
def IsL (sh:Sh):Prop:=(∃ c p,sh = .lst c p)∨∃ p n,sh = .alike p n
theorem Yb0 {sh:Sh} (h:IsL sh) (d d':PyData) (ks:List Ky):kz sh d ks=kz sh d' ks:=by
 rcases h with ⟨c,p,rfl⟩ | ⟨p,n,rfl⟩
 ·cases c<;>cases d<;>cases d'<;>rfl
 ·cases d<;>cases d'<;>rfl
def Z0S (K:PySem.W.Frag):Sp:=fun vs H Q _=>∃ (x:V) (sh:Sh) (d:PyData) (b:Addr) (ks:List V) (kk:List Ky),vs=[x,.ref b]∧ShAt K H x sh∧IsL sh∧H b=some (.lst ks)∧ks.length≤1000∧Wd H ks kk∧Cmp kk∧(∀ k,kz sh d kk=some k→∀ t H',Yb H H'→KAt H' (.ref t) (kt k)→Q (.ref t) H')∧(kz sh d kk=none→∀ H',Yb H H'→Q .non H')
theorem Q7 {k:Nat}  {c_law_lists P_law_lists:Addr} (R:g.Raw "list_key" "list_key" Z0h ["shape","keys"]) (Zy:g.Fn k "sum_of_sizes" ["keys"] (Zs g.K)) (F_none_ahead:g.Fn k "none_ahead" ["keys"] (Z0s g.K)) (F_all_behind:g.Fn k "all_behind" ["keys"] (Z0t g.K)) (F_all_alike:g.Fn k "all_alike" ["keys"] (Z0C g.K)) (F_risen_key:g.Fn k "risen_key" ["size","keys"] (Z0D g.K)) (b_len:g.mg "len"=none) (Z1:g.mg "tuple"=none):g.Fn (k+1) "list_key" ["shape","keys"] (Z0S g.K):=by
 refine R.fn ZC (fun vs H Q E h=>by obtain ⟨x,sh,d,b,ks,kk,rfl,hx,hL,hb,hl,hkd,hc,q1,q2⟩:=h;rfl) fun f_ cdv A outer s H vs Q E hr h=>?_
 obtain ⟨x,sh,d,b,ks,kk,rfl,hx,hL,hb,hl,hkd,hc,q1,q2⟩:=h
 refine ⟨_,(@Yf _ _ _ _ _ (@YD _ _ (2) _ _ _ _ ZC.nd rfl (.inl rfl) (@Yj _ _ _ _ _ _ _ Yl (pv 0) Ye (fun _ _=>rfl)) (by rfl) (by first | exact .inl rfl | exact .inr rfl | assumption)) (@Yf _ _ _ _ _ (@YD _ _ (3) _ _ _ _ ZC.nd rfl (.inl rfl) (@Yt _ _ _ _ _ _ _ _ Y8 (@YF _ _ _ _ _ _ _ _ _ _ b_len YN (@Ya _ _ _ _ _ (pv 1) Yd (by rfl)) (by decide +kernel) (by rfl) (by rfl) (by decide) (by decide) (by rfl) (by rfl)) (@Yz _ _ _ _ _ _ _ _ _ _ _ _ Zy hr (@Ya _ _ _ _ _ (pv 1) Yd (by rfl)) (by omega) (by rfl) (by rfl) (by decide) (by rfl) (by rfl))) (by rfl) (by first | exact .inl rfl | exact .inr rfl | assumption)) (@Yf _ _ _ _ _ (@YC _ _ _ _ _ _ _ _ (@Yp _ _ _ _ _ _ _ _ YQ (pv 2) YA (Yo _)) (@Yg _ _ _ (@Yk _ _ _ _ (@WJ _ _ _ _ _ _ _ _ _ _ Z1 Xc (@Ya _ _ _ _ _ (@Yt _ _ _ _ _ _ _ _ X8 (@YM _ _ _ _ (@Ya _ _ _ _ _ (pv 3) Yd (by rfl))) (pv 1)) Yd (by rfl)) (by decide +kernel) (by rfl) (by rfl) (by decide) (by decide) (by rfl) (by rfl)))) Yq) (@Yf _ _ _ _ _ (@YC _ _ _ _ _ _ _ _ (@Yp _ _ _ _ _ _ _ _ YQ (pv 2) YA (Yo _)) (@Yg _ _ _ (@Yk _ _ _ _ (@Vm _ _ _ _ _ _ _ _ (@XB _ _ _ (@Yz _ _ _ _ _ _ _ _ _ _ _ _ F_all_alike hr (@Ya _ _ _ _ _ (pv 1) Yd (by rfl)) (by omega) (by rfl) (by rfl) (by decide) (by rfl) (by rfl)) (by intro _;rfl)) (@WJ _ _ _ _ _ _ _ _ _ _ Z1 Xc (@Ya _ _ _ _ _ (@Yt _ _ _ _ _ _ _ _ X8 (@YM _ _ _ _ (@Ya _ _ _ _ _ (pv 3) Yd (by rfl))) (@Y3 _ _ _ _ _ _ _ _ _ _ Y9 (pv 1) Xo (@YX _ _ _ Ye))) Yd (by rfl)) (by decide +kernel) (by rfl) (by rfl) (by decide) (by decide) (by rfl) (by rfl)) Xz))) Yq) (@Yf _ _ _ _ _ (@YD _ _ (4) _ _ _ _ ZC.nd rfl (.inl rfl) (@Vm _ _ _ _ _ _ _ _ (@Yp _ _ _ _ _ _ _ _ YQ (pv 2) YA (Yo _)) (@Yz _ _ _ _ _ _ _ _ _ _ _ _ F_none_ahead hr (@Ya _ _ _ _ _ (pv 1) Yd (by rfl)) (by omega) (by rfl) (by rfl) (by decide) (by rfl) (by rfl)) (@Yz _ _ _ _ _ _ _ _ _ _ _ _ F_all_behind hr (@Ya _ _ _ _ _ (pv 1) Yd (by rfl)) (by omega) (by rfl) (by rfl) (by decide) (by rfl) (by rfl))) (by rfl) (by first | exact .inl rfl | exact .inr rfl | assumption)) (@Yg _ _ _ (@Yk _ _ _ _ (@Vm _ _ _ _ _ _ _ _ (@XB _ _ _ (pv 4) (by intro _;rfl)) (@Yz _ _ _ _ _ _ _ _ _ _ _ _ F_risen_key hr (@Ya _ _ _ _ _ (pv 3) (@Ya _ _ _ _ _ (pv 1) Yd (by rfl)) (by rfl)) (by omega) (by rfl) (by rfl) (by decide) (by rfl) (by rfl)) Xz)))))))),?_⟩
 have h6:10000<sizeLine:=by decide
 have hk:=hkd.keyed hl
 have hlen:=hkd.length
 rw [List.length_map] at hlen
 cases hx with
 | whole | text | row | pick | use=>rcases hL with ⟨_,_,z⟩ | ⟨_,_,z⟩<;>cases z
 | @lst a v' p c ha hp =>
  rw [Yb0 hL d (.list [])] at q1 q2
  walk_at "rd"
  refine ⟨_,ha,_,YK _ _,?_⟩
  walk_at "rd"
  have hsz:((ks.length:Int)+(((kk.map (·.1)).sum:Nat):Int))=((kk.length+(kk.map (·.1)).sum:Nat):Int):=by rw [hlen,Int.natCast_add]
  cases c with
  | many =>
   refine ⟨_,.inl (SqL.of hb),b,ks,_,rfl,hb,hk,fun H2 s2=>⟨_,rfl,XT rfl ⟨few (by decide),fun p hp=>⟨_,Yc,_,(Yb.upd_new hp _) _ _ (s2 _ _ hb),by simp;omega,fun p1 hp1=>⟨_,.inl ⟨SqL.of Yc,fun l hl=>?_⟩⟩⟩⟩⟩⟩
   refine q1 _ rfl l _ (((s2.trans (.upd_new hp _)).trans (.upd_new hp1 _)).trans (.upd_new hl _)) (.tup Yc (.cons ?_ (hkd.keep (YT (((s2.trans (.upd_new hp _)).trans (.upd_new hp1 _)).trans (.upd_new hl _))))))
   rw [hsz]
   exact .int _
  | rising =>
   refine ⟨_,.inl (SqL.of hb),b,ks,_,rfl,hb,hk,fun H2 s2=>⟨_,rfl,Ym (by decide) (Ym (by decide) (XT rfl ?_))⟩⟩
   refine ⟨b,ks,kk,rfl,s2 _ _ hb,hl,hkd.keep (YT s2),hc,fun H3 s3=>?_⟩
   have s23:=s2.trans s3
   refine ⟨_,rfl,?_⟩
   refine Wn (fun z=>?_) fun z=>?_
   ·have z:=(@decide_eq_true_iff _ (Classical.propDecidable _)).mp z
    refine ⟨kk.length+(kk.map (·.1)).sum,b,ks,kk,by rw [hsz],s23 _ _ hb,hl,hkd.keep (YT s23),fun t H4 s4 ht=>q1 _ (if_pos z) t H4 (s23.trans s4) ht⟩
   ·exact q2 (if_neg fun h=>z ((@decide_eq_true_iff _ (Classical.propDecidable _)).mpr h)) H3 s23
  | unlike =>
   refine ⟨_,.inl (SqL.of hb),b,ks,_,rfl,hb,hk,fun H2 s2=>⟨_,rfl,Ym (by decide) (Ym (by decide) (Ym (by decide) ?_))⟩⟩
   refine ⟨b,ks,kk,rfl,s2 _ _ hb,hl,hkd.keep (YT s2),hc,fun H3 s3=>?_⟩
   have s23:=s2.trans s3
   refine ⟨_,rfl,?_⟩
   refine Wn (fun z=>?_) fun z=>?_
   ·have z:=(@decide_eq_true_iff _ (Classical.propDecidable _)).mp z
    refine ⟨kk.length+(kk.map (·.1)).sum,b,ks,kk,by rw [hsz],s23 _ _ hb,hl,hkd.keep (YT s23),fun t H4 s4 ht=>q1 _ (if_pos z) t H4 (s23.trans s4) ht⟩
   ·exact q2 (if_neg fun h=>z ((@decide_eq_true_iff _ (Classical.propDecidable _)).mpr h)) H3 s23
 | @alike a v' p n ha hp =>
  rw [Yb0 hL d (.list [])] at q1 q2
  walk_at "rd"
  refine ⟨_,ha,_,Wv _ _ _,?_⟩
  walk_at "rd"
  refine ⟨_,.inl (SqL.of hb),b,ks,_,rfl,hb,hk,fun H2 s2=>⟨_,rfl,?_⟩⟩
  have hsz:((ks.length:Int)+(((kk.map (·.1)).sum:Nat):Int))=((kk.length+(kk.map (·.1)).sum:Nat):Int):=by rw [hlen,Int.natCast_add]
  refine Ym (by decide) ⟨b,ks,kk,rfl,s2 _ _ hb,hl,hkd.keep (YT s2),hc,fun H3 s3=>?_⟩
  have s23:=s2.trans s3
  refine ⟨_,rfl,?_⟩
  refine Wn (fun z=>?_) fun z=>?_
  ·have z:=(@decide_eq_true_iff _ (Classical.propDecidable _)).mp z
   refine ⟨few (by decide),fun p hp=>⟨ks,SqL.of ((Yb.upd_new hp _) _ _ (s23 _ _ hb)),fun p1 hp1=>⟨_,(Yb.upd_new hp1 _) _ _ Yc,_,Yc,?_,fun p2 hp2=>⟨_,.inl ⟨SqL.of Yc,fun l hl=>?_⟩⟩⟩⟩⟩
   ·rw [show YB ks none (some 1)=ks.take 1 from VT ks 1];simp;omega
   ·have sA:=(((s23.trans (.upd_new hp (.lst [.int ((ks.length:Int)+(((kk.map (·.1)).sum:Nat):Int))]))).trans (.upd_new hp1 (.lst (YB ks none (some 1))))).trans (.upd_new hp2 (.lst ([V.int ((ks.length:Int)+(((kk.map (·.1)).sum:Nat):Int))]++YB ks none (some 1))))).trans (Yb.upd_new hl (.tup ([V.int ((ks.length:Int)+(((kk.map (·.1)).sum:Nat):Int))]++YB ks none (some 1))))
    refine q1 _ (if_pos z) l _ sA (.tup Yc ?_)
    rw [show YB ks none (some 1)=ks.take 1 from VT ks 1] at sA ⊢
    refine .cons ?_ ?_
    ·rw [hsz];exact .int _
    ·have:=(hkd.keep (YT sA)).take 1
     rw [← List.map_take] at this
     exact this
  ·exact q2 (if_neg fun h=>z ((@decide_eq_true_iff _ (Classical.propDecidable _)).mpr h)) H3 s23
theorem Yb1 (H:Hp) (signs:List Nat) {f:Nat→Int}:KAts H (signs.map fun c=>V.int (f c)) (signs.map fun c => .int (f c)):=by
 induction signs with
 | nil=>exact .nil
 | cons c signs ih=>exact .cons (.int _) ih
def Z0T (K:PySem.W.Frag):Sp:=fun vs H Q _=>∃ (bk:Bk) (x v:V) (sh:Sh) (d:PyData) (b:Addr) (ks:List V) (kk:List Ky),vs=[x,v,.ref b]∧ShAt K H x sh∧Vd H v d∧YL sh d=true∧Fnd bk sh∧H b=some (.lst ks)∧ks.length≤1000∧Wd H ks kk∧kk.length=(YE bk sh d).length∧(IsL sh→Cmp kk) ∧
 (∀ k,kz sh d kk=some k→∀ t H',Yb H H'→KAt H' (.ref t) (kt k)→Q (.ref t) H')∧(kz sh d kk=none→∀ H',Yb H H'→Q .non H')
theorem Q8 {k:Nat}  {c_law_lists P_law_lists:Addr} (R:g.Raw "key_made" "key_made" Z0i ["shape","value","keys"]) (Z4:g.Fn k "branch_place" ["branches","mark"] (Z8 g.K)) (Zy:g.Fn k "sum_of_sizes" ["keys"] (Zs g.K)) (F_list_key:g.Fn k "list_key" ["shape","keys"] (Z0S g.K)) (b_len:g.mg "len"=none) (Z1:g.mg "tuple"=none):g.Fn (k+1) "key_made" ["shape","value","keys"] (Z0T g.K):=by
 refine R.fn Z0O (fun vs H Q E h=>by obtain ⟨bk,x,v,sh,d,b,ks,kk,rfl,hx,hv,hf,hfd,hb,hkl,hkd,hnl,hcm,q1,q2⟩:=h;rfl) fun f_ cdv A outer s H vs Q E hr h=>?_
 obtain ⟨bk,x,v,sh,d,b,ks,kk,rfl,hx,hv,hf,hfd,hb,hkl,hkd,hnl,hcm,q1,q2⟩:=h
 refine ⟨_,(@Yf _ _ _ _ _ (@YD _ _ (3) _ _ _ _ Z0O.nd rfl (.inl rfl) (@Yj _ _ _ _ _ _ _ Yl (pv 0) Ye (fun _ _=>rfl)) (by rfl) (by first | exact .inl rfl | exact .inr rfl | assumption)) (@Yf _ _ _ _ _ (@YC _ _ _ _ _ _ _ _ (@Yp _ _ _ _ _ _ _ _ YQ (pv 3) YA (Yo _)) (@Yg _ _ _ (@Yk _ _ _ _ (@YR _ _ _ _ _ (@Ya _ _ _ _ _ (@Ybr _ _ _ _ _ _ _ _ _ PySem.F.plainAttrs_int PySem.F.slot_int_bit_length PySem.F.type_int_bit_length Yan (@Yt _ _ _ _ _ _ _ _ WX (pv 1) (@Yj _ _ _ _ _ _ _ Yl (pv 0) Ye (fun _ _=>rfl))) (by rfl) (by rfl)) (@Ya _ _ _ _ _ (pv 1) Yd (by rfl)) (by rfl))))) Yq) (@Yf _ _ _ _ _ (@YC _ _ _ _ _ _ _ _ (@Yp _ _ _ _ _ _ _ _ YQ (pv 3) YA (Yo _)) (@Yg _ _ _ (@Yk _ _ _ _ (@WJ _ _ _ _ _ _ _ _ _ _ Z1 Xc (@Ya _ _ _ _ _ (@Yt _ _ _ _ _ _ _ _ X8 (@YM _ _ _ _ (@Ya _ _ _ _ _ (@YF _ _ _ _ _ _ _ _ _ _ b_len WZ (@Ya _ _ _ _ _ (pv 1) Yd (by rfl)) (by decide +kernel) (by rfl) (by rfl) (by decide) (by decide) (by rfl) (by rfl)) Yd (by rfl))) (@XI _ _ _ _ _ _ _ ([none,some 0]) ((["sign","shape"]:List Str)) _ (Ys 0) _ _ (.own (.cap (i:=0) rfl rfl (by first | exact .inl rfl | exact .inr rfl) .nil)) rfl (@Ybu _ _ _ _ (pv 1)) (fun cl C s₀ H₀ fp pn=>(@Yu _ _ (0) _ (show List.Nodup (["sign","shape"]:List Str) by decide +kernel) rfl (.inl rfl) (.inr rfl))) (fun cl C s₀ H₀ fp pn=>Y2) (fun cl C s₀ H₀ fp pn=>(@Yd4 _ (g.K) _ _ _ _ _ _ _ _ _ _ _ PySem.F.plainAttrs_str PySem.F.slot_str_find PySem.F.type_str_find Ydq (@Yj _ _ _ _ _ _ _ (Xq (K:=g.K)) (pv 1) Ye (fun _ _=>rfl)) (@Ya _ _ _ _ _ (pv 0) Yd (by rfl)) (by rfl) (by rfl) (by rfl) (by rfl) (by rfl) (by rfl))) (by intro x hx;simp at hx;first | (subst hx;exact .inl rfl) | (rcases hx with rfl | rfl<;>exact .inl rfl) | (rcases hx with rfl | rfl | rfl<;>exact .inl rfl) | (rcases hx with rfl | rfl | rfl | rfl<;>exact .inl rfl) | (rcases hx with rfl | rfl | rfl | rfl | rfl<;>exact .inl rfl)) (by rfl) (by decide) (by decide +kernel) (by intro _;rfl))) Yd (by rfl)) (by decide +kernel) (by rfl) (by rfl) (by decide) (by decide) (by rfl) (by rfl)))) Yq) (@Yf _ _ _ _ _ (@YC _ _ _ _ _ _ _ _ (@Yp _ _ _ _ _ _ _ _ YQ (pv 3) YA (Yo _)) (@Yg _ _ _ (@Yk _ _ _ _ (@WJ _ _ _ _ _ _ _ _ _ _ Z1 Xc (@Ya _ _ _ _ _ (@Yt _ _ _ _ _ _ _ _ X8 (@YM _ _ _ _ (@Ya _ _ _ _ _ (@Yz _ _ _ _ _ _ _ _ _ _ _ _ Zy hr (@Ya _ _ _ _ _ (pv 2) Yd (by rfl)) (by omega) (by rfl) (by rfl) (by decide) (by rfl) (by rfl)) Yd (by rfl))) (pv 2)) Yd (by rfl)) (by decide +kernel) (by rfl) (by rfl) (by decide) (by decide) (by rfl) (by rfl)))) Yq) (@Yf _ _ _ _ _ (@YC _ _ _ _ _ _ _ _ (@Yp _ _ _ _ _ _ _ _ YQ (pv 3) YA (Yo _)) (@Yg _ _ _ (@Yk _ _ _ _ (@YR _ _ _ _ _ (@Ya _ _ _ _ _ (@Yj _ _ _ _ _ _ _ Yl (@Yj _ _ _ _ _ _ _ YY (pv 2) Ye (fun _ _=>rfl)) Ye (fun _ _=>rfl)) (@Ya _ _ _ _ _ (@Yz _ _ _ _ _ _ _ _ _ _ _ _ Z4 hr (@Ya _ _ _ _ _ (@Yj _ _ _ _ _ _ _ Yl (pv 0) Ye (fun _ _=>rfl)) (@Ya _ _ _ _ _ (@Yj _ _ _ _ _ _ _ Yl (pv 1) Ye (fun _ _=>rfl)) Yd (by rfl)) (by rfl)) (by omega) (by rfl) (by rfl) (by decide) (by rfl) (by rfl)) (@Ya _ _ _ _ _ (@Yj _ _ _ _ _ _ _ YY (pv 2) Ye (fun _ _=>rfl)) Yd (by rfl)) (by rfl)) (by rfl))))) Yq) (@Yf _ _ _ _ _ (@YC _ _ _ _ _ _ _ _ (@Yp _ _ _ _ _ _ _ _ YQ (pv 3) YA (Yo _)) (@Yg _ _ _ (@Yk _ _ _ _ (@YR _ _ _ _ _ (@Ya _ _ _ _ _ (@Yt _ _ _ _ _ _ _ _ Y8 Ye (@Yj _ _ _ _ _ _ _ Yl (@Yj _ _ _ _ _ _ _ YY (pv 2) Ye (fun _ _=>rfl)) Ye (fun _ _=>rfl))) (@Ya _ _ _ _ _ (@Yj _ _ _ _ _ _ _ YY (pv 2) Ye (fun _ _=>rfl)) Yd (by rfl)) (by rfl))))) Yq) (@Yg _ _ _ (@Yk _ _ _ _ (@Yz _ _ _ _ _ _ _ _ _ _ _ _ F_list_key hr (@Ya _ _ _ _ _ (pv 0) (@Ya _ _ _ _ _ (pv 2) Yd (by rfl)) (by rfl)) (by omega) (by rfl) (by rfl) (by decide) (by rfl) (by rfl)))))))))),?_⟩
 have h6:10000<sizeLine:=by decide
 have hk:=hkd.keyed hkl
 cases hx with
 | @whole a lo hi ha =>
  walk_at "rd"
  refine ⟨_,ha,_,Wv _ _ _,?_⟩
  walk_at "rd"
  cases hv with
  | int i =>
   walk_at "rd"
   exact ⟨_,ha,_,VJ _ _ _,_,rfl,rfl,few (by decide),fun p hp=>q1 _ rfl p _ (.upd_new hp _) (.tup Yc (.cons (.int _) (.cons (.int _) .nil)))⟩
  | _=>cases hf
 | @text a signs ha hn =>
  walk_at "rd"
  refine ⟨_,ha,_,YK _ _,?_⟩
  walk_at "rd"
  refine Ym (by decide) ?_
  cases hv with
  | str l h hl =>
   walk_at "rd"
   refine ⟨few (by rw [Wg];omega),few (by decide),fun p hp=>?_⟩
   have s1:=Yb.upd_new hp (.lst [.int (S l).length])
   refine Yao (l:=l) (l.map fun c=>V.int (Txt.find (S signs) (S [c]))) (fun R r=>by walk_at "rd";exact r) (by simp) (by omega) ?_ ?_
   ·intro i c y H' hc hy sm R r
    rw [List.getElem?_map,hc] at hy
    have:V.int (Txt.find (S signs) (S [c]))=y:=Option.some.inj hy
    subst this
    walk_at "rd"
    refine ⟨_,(s1.trans sm).tup ha,_,YH _ _,rfl,_,rfl,?_⟩
    exact r H' (.refl H')
   ·intro D H' hD sm hd
    have hpp:=sm _ _ (Yc (H:=H) (a:=p) (o := .lst [.int (S l).length]))
    refine ⟨_,rfl,_,hpp,_,hd,?_,fun p2 hp2=>⟨_,.inl ⟨SqL.of Yc,fun t ht=>?_⟩⟩⟩
    ·simp;omega
    ·refine q1 _ rfl t _ (((s1.trans sm).trans (.upd_new hp2 _)).trans (.upd_new ht _)) (.tup Yc (.cons (.int _) ?_))
     rw [Xt]
     exact Yb1 _ _
  | _=>cases hf
 | @row a b' vs ps ha hb' hs hn =>
  walk_at "rd"
  refine ⟨_,ha,_,YK _ _,?_⟩
  walk_at "rd"
  have ek:kz (.row ps) d kk=some ((kk.map (·.1)).sum,kk.map kt):=by cases d<;>rfl
  refine Ym (by decide) (Ym (by decide) ?_)
  refine ⟨b,ks,_,rfl,hb,hk,fun H2 s2=>⟨few (by decide),fun p hp=>?_⟩⟩
  refine ⟨_,Yc,_,(Yb.upd_new hp _) _ _ (s2 _ _ hb),by simp;omega,fun p1 hp1=>⟨_,.inl ⟨SqL.of Yc,fun l hl=>?_⟩⟩⟩
  refine q1 _ ek l _ (((s2.trans (.upd_new hp _)).trans (.upd_new hp1 _)).trans (.upd_new hl _)) (.tup Yc (.cons (.int _) (hkd.keep (YT ?_))))
  exact (((s2.trans (.upd_new hp _)).trans (.upd_new hp1 _)).trans (.upd_new hl _))
 | @lst a v' p c ha hp =>
  have hL:IsL (.lst c p) := .inl ⟨_,_,rfl⟩
  walk_at "rd"
  refine ⟨_,ha,_,YK _ _,?_⟩
  walk_at "rd"
  refine Ym (by cases c<;>decide) (Ym (by cases c<;>decide) (Ym (by cases c<;>decide) (Ym (by cases c<;>decide) (Ym (by cases c<;>decide) ?_))))
  exact ⟨_,_,d,b,ks,kk,rfl,.lst c ha hp,hL,hb,hkl,hkd,hcm hL,q1,q2⟩
 | @alike a v' p n ha hp =>
  have hL:IsL (.alike p n) := .inr ⟨_,_,rfl⟩
  walk_at "rd"
  refine ⟨_,ha,_,Wv _ _ _,?_⟩
  walk_at "rd"
  refine Ym (by decide) (Ym (by decide) (Ym (by decide) (Ym (by decide) (Ym (by decide) ?_))))
  exact ⟨_,_,d,b,ks,kk,rfl,.alike n ha hp,hL,hb,hkl,hkd,hcm hL,q1,q2⟩
 | @pick a b' as ms us ps ha hb' hbr hs hn =>
  walk_at "rd"
  refine ⟨_,ha,_,YK _ _,?_⟩
  walk_at "rd"
  rw [← Xg] at hf
  rw [Xh] at hnl
  obtain ⟨x,d',i,rfl,hi⟩:=Wq hf
  cases hv with
  | @tup c vs _ h hl hds =>
  cases hds with
  | @cons v1 _ vs1 _ h1 hds1 =>
  cases hds1 with
  | @cons v2 _ vs2 _ h2 hds2 =>
  cases hds2 with
  | nil =>
  cases h1 with
  | str l hs1 hl1 =>
  have hil:=WE hi
  have e2:=hs.length
  have b2:=hbr.2.1
  have fp:ps[i]?=some (ps[i]'(by omega)):=List.getElem?_eq_getElem _
  have ew:X0 ms ps (.tuple [.str (S l),d'])=[(ps[i]'(by omega),d')]:=by
   show (((plc ms (S l)).bind fun i=>ps[i]?).toList.map fun p=>(p,d'))=_
   rw [hi,Option.bind_some,fp]
   rfl
  rw [ew] at hnl
  obtain ⟨k0,rfl⟩:∃ n,kk=[n]:=by
   match kk,hnl with
   | [n],_=>exact ⟨n,rfl⟩
  cases hkd with
  | @cons k _ _ _ hk1 hk2 =>
  cases hk2 with
  | nil =>
  obtain ⟨ka,kr,rfl,hka⟩:=X2 hk1
  refine Ym (by decide) (Ym (by decide) (Ym (by decide) ⟨_,SqL.of hb,_,Y4 _ _,_,rfl,_,SqT.of hka,_,Y4 _ _,_,ha,_,YH _ _,c,rfl,_,SqT.of h,_,YK _ _,b',as,ms,us,S l,rfl,hb',hbr,fun H' s'=>⟨_,SqL.of (s' _ _ hb),_,Y4 _ _,few (by decide),fun p hp=>?_⟩⟩))
  have sm:=s'.trans (.upd_new hp (.tup [.int (k0.1:Nat),.int (i:Nat),.ref ka]))
  simp only [kz,hi,Option.getD_some] at q1
  rw [hi] at *
  exact q1 _ rfl p _ sm (.tup Yc (.cons (.int _) (.cons (.int _) (.cons (hk1.keep (YT sm)) .nil))))
 | @use a nm ha =>
  walk_at "rd"
  refine ⟨_,ha,_,YK _ _,?_⟩
  walk_at "rd"
  obtain ⟨i,hi⟩:=hfd
  have hil:=WE hi
  rw [List.length_map] at hil
  have fp:(bk.map (·.2))[i]?=some ((bk.map (·.2))[i]'(by rw [List.length_map];exact hil)):=List.getElem?_eq_getElem _
  rw [XO,hi,Option.bind_some,fp] at hnl
  obtain ⟨k0,rfl⟩:∃ n,kk=[n]:=by
   match kk,hnl with
   | [n],_=>exact ⟨n,rfl⟩
  cases hkd with
  | @cons k _ _ _ hk1 hk2 =>
  cases hk2 with
  | nil =>
  obtain ⟨ka,kr,rfl,hka⟩:=X2 hk1
  rw [YbU] at q1
  refine Ym (by decide) (Ym (by decide) (Ym (by decide) (Ym (by decide) ⟨_,SqL.of hb,_,Y4 _ _,_,rfl,_,SqT.of hka,_,Y4 _ _,_,rfl,_,SqL.of hb,_,Y4 _ _,few (by decide),fun p hp=>q1 _ rfl p _ (.upd_new hp _) (.tup Yc (.cons ?_ (.cons (hk1.keep (YT (Yb.upd_new hp _))) .nil)))⟩)))
  rw [Int.natCast_add]
  exact .int _
theorem VN {H:Hp} {v:V} {d:PyData} {sh:Sh} (h:Vd H v d):(YE bk sh d).length≤1000:=by
 by_cases hu:∃ nm,sh = .use nm
 ·obtain ⟨nm,rfl⟩:=hu
  have e:(YE bk (.use nm) d).length≤1:=by
   cases d<;>(show ((Option.toList _).map _).length≤1;rw [List.length_map];cases (plc (bk.map (·.1)) (S nm)).bind _<;>simp)
  omega
 by_cases hp:∃ ms ps,sh = .pick ms ps
 ·obtain ⟨ms,ps,rfl⟩:=hp;rw [Xh];exact Q2
 cases h with
 | @lst a vs ds h hl hs =>
  have:=hs.length
  cases sh<;>first | exact (hp ⟨_,_,rfl⟩).elim | exact (hu ⟨_,rfl⟩).elim | (simp [YE]<;>omega)
 | @tup a vs ds h hl hs =>
  have:=hs.length
  cases sh<;>first | exact (hp ⟨_,_,rfl⟩).elim | exact (hu ⟨_,rfl⟩).elim | (simp [YE]<;>omega)
 | _=>cases sh<;>first | exact (hp ⟨_,_,rfl⟩).elim | exact (hu ⟨_,rfl⟩).elim | simp [YE]
theorem UG {α β:Type} {f:α→Option β}:∀ {l:List α} {w:α},w∈l→f w=none→l.mapM f=none
 | x::l,w,hw,hn=>by
  rw [List.mapM_cons]
  rcases List.mem_cons.mp hw with rfl | hw
  ·rw [hn];rfl
  ·rw [UG hw hn]
   cases f x<;>rfl
theorem Yel {bk:Bk} {m:Nat} {sh:Sh} {d:PyData} {kk:List Ky} (hm:m≤63) (hL:IsL sh) (hf:YL sh d=true) (h:(YE bk sh d).mapM (fun w=>ky bk m w.1 w.2)=some kk):Cmp kk:=by
 have key:∀ (p:Sh) (ds:List PyData),(ds.map fun d=>(p,d)).mapM (fun w=>ky bk m w.1 w.2)=some kk→Cmp kk:=fun p ds h k hk=>by
  have h1:∀ k∈kk,∃ d,ky bk m p d=some k:=Wr (P:=fun k=>∃ d,ky bk m p d=some k) h fun a ha b hb=>by
   obtain ⟨d,_,rfl⟩:=List.mem_map.mp ha
   exact ⟨d,hb⟩
  obtain ⟨d,hd⟩:=h1 k hk
  refine ⟨Yc8 hd,by have:=QB hd;omega,fun k' hk'=>?_⟩
  obtain ⟨d',hd'⟩:=h1 k' hk'
  exact YbW p d d' k k' hd hd'
 rcases hL with ⟨c,p,rfl⟩ | ⟨p,n,rfl⟩
 ·cases d<;>simp only [YL,Bool.false_eq_true] at hf
  exact key p _ h
 ·cases d<;>simp only [YL,Bool.false_eq_true] at hf
  exact key p _ h
variable {m:Nat}
abbrev LV:Nat:=4
def Zt (K:PySem.W.Frag) (m:Nat):Sp:=fun vs H Q _=>∃ (bk:Bk) (b x v:V) (sh:Sh) (d:PyData),vs=[b,x,v]∧m≤64∧Wx K H b bk∧ShAt K H x sh∧Enf bk m sh d∧Vd H v d ∧
 (∀ k,ky bk m sh d=some k→∀ p H',Yb H H'→KAt H' (.ref p) (kt k)→Q (.ref p) H')∧(ky bk m sh d=none→∀ H',Yb H H'→Q .non H')
theorem Ya2 {K:PySem.W.Frag} {vs:List V} {H:Hp} {Q:VK} {E:XK} (h:Zt K 0 vs H Q E):False:=by
 obtain ⟨bk,b,x,v,sh,d,_,_,_,_,h,_⟩:=h
 exact h
theorem ZN {k:Nat}  {c_law_lists P_law_lists:Addr} (R:g.Raw "weighed" "weighed" Z0y ["book","shape","value"]) (F_has_form:g.Fn k "has_form" ["shape","value"] (Z0R g.K)) (Z14:g.Fn k "things_within" ["book","shape","value"] (ZV g.K)) (F_key_made:g.Fn k "key_made" ["shape","value","keys"] (Z0T g.K)) (ZG:g.Fn k "weighed" ["book","shape","value"] (Zt g.K m)):g.Fn (k+1) "weighed" ["book","shape","value"] (Zt g.K (m+1)):=by
 refine R.fn Zr (fun vs H Q E h=>by obtain ⟨bk,b,x,v,sh,d,rfl,hm,hbk,hx,hft,hv,q1,q2⟩:=h;rfl) fun f_ cdv A outer s H vs Q E hr h=>?_
 obtain ⟨bk,b,x,v,sh,d,rfl,hm,hbk,hx,hft,hv,q1,q2⟩:=h
 refine ⟨_,(@Yf _ _ _ _ _ (@YC _ _ _ _ _ _ _ _ (@Wl _ _ _ _ (@XB _ _ _ (@Yz _ _ _ _ _ _ _ _ _ _ _ _ F_has_form hr (@Ya _ _ _ _ _ (pv 1) (@Ya _ _ _ _ _ (pv 2) Yd (by rfl)) (by rfl)) (by omega) (by rfl) (by rfl) (by decide) (by rfl) (by rfl)) (by intro _;rfl))) (@Yg _ _ _ (@Yk _ _ _ _ Xz)) Yq) (@Yf _ _ _ _ _ (@YD _ _ (3) _ _ _ _ Zr.nd rfl (.inl rfl) (@YM _ _ _ _ Yd) (by rfl) (by first | exact .inl rfl | exact .inr rfl | assumption)) (@Yf _ _ _ _ _ (@X7 _ _ _ _ _ _ _ _ PassesOwn.never rfl (@YW _ _ _ _ (@Yz _ _ _ _ _ _ _ _ _ _ _ _ Z14 hr (@Ya _ _ _ _ _ (pv 0) (@Ya _ _ _ _ _ (pv 1) (@Ya _ _ _ _ _ (pv 2) Yd (by rfl)) (by rfl)) (by rfl)) (by omega) (by rfl) (by rfl) (by decide) (by rfl) (by rfl))) (@X6 _ _ _ _ _ (2) rfl (@YO _ _ _ _ _ (@Yu _ _ (4) _ Zr.nd rfl (.inl rfl) (by first | exact .inl rfl | exact .inr rfl | assumption)) (@YO _ _ _ _ _ (@Yu _ _ (5) _ Zr.nd rfl (.inl rfl) (by first | exact .inl rfl | exact .inr rfl | assumption)) Xx (by rfl)) (by rfl)) (by rfl) (by rfl)) (@Yf _ _ _ _ _ (@YD _ _ (6) _ _ _ _ Zr.nd rfl (.inl rfl) (@Yz _ _ _ _ _ _ _ _ _ _ _ _ ZG hr (@Ya _ _ _ _ _ (pv 0) (@Ya _ _ _ _ _ (pv 4) (@Ya _ _ _ _ _ (pv 5) Yd (by rfl)) (by rfl)) (by rfl)) (by omega) (by rfl) (by rfl) (by decide) (by rfl) (by rfl)) (by rfl) (by first | exact .inl rfl | exact .inr rfl | assumption)) (@Yf _ _ _ _ _ (@YC _ _ _ _ _ _ _ _ (@Yp _ _ _ _ _ _ _ _ Ybh (pv 6) Xz (Yo _)) (@Yg _ _ _ (@Yk _ _ _ _ Xz)) Yq) (@Yg _ _ _ (@Xn _ _ _ _ (@XH _ _ _ _ _ _ _ _ _ _ _ _ PySem.F.plainAttrs_list PySem.F.slot_list_append PySem.F.type_list_append Y7 (pv 3) (@Ya _ _ _ _ _ (pv 6) Yd (by rfl)) (by rfl) (by rfl) (by rfl) (by rfl) (by rfl)) (by rfl))))) (by intro _;rfl)) (@Yg _ _ _ (@Yk _ _ _ _ (@Yz _ _ _ _ _ _ _ _ _ _ _ _ F_key_made hr (@Ya _ _ _ _ _ (pv 1) (@Ya _ _ _ _ _ (pv 2) (@Ya _ _ _ _ _ (pv 3) Yd (by rfl)) (by rfl)) (by rfl)) (by omega) (by rfl) (by rfl) (by decide) (by rfl) (by rfl))))))),?_⟩
 have h6:10000<sizeLine:=by decide
 have hm64:m≤63:=by omega
 refine WK (fun σ H'=>σ=[some b,some x,some v,none,none,none,none]∧Yb H H'∧YL sh d=true) ?_ ?_
 ·rintro σ H1 ⟨rfl,sm,hf⟩
  have hff:(YL sh d&&fnd bk sh d)=true:=by rw [hf,Yej hx hf (hft hf).1];rfl
  walk_at "rd"
  refine ⟨few (by decide),fun p hp=>?_⟩
  have s1:=Yb.upd_new hp (.lst [])
  have hx1:=hx.keep sm
  have hv1:=hv.keep sm
  refine WQ (fun l xs H2=>∃ as,xs=as.map V.ref∧l≠p∧Yb (upd H1 p (.lst [])) H2∧H2 l=some (.lst (as.map V.ref))∧UW g.K H1 H2 as (YE bk sh d)) (fun R r=>?_) ?_
  ·walk_at "rd"
   exact ⟨bk,b,x,v,sh,d,H1,rfl,s1,hbk.keep sm,(hft hf).1,hx1,hv1,hf,fun l as H' s' hl0 hl hpr=>r l _ H' (SqL.of hl) ⟨as,rfl,fun e=>by (rw [e,Yc] at hl0;cases hl0),s',hl,hpr⟩⟩
  ·rintro l xs H2 hS ⟨as,rfl,hlp,s2,hl,hpr⟩
   refine ⟨fun i σ H'=>∃ o4 o5 o6 ks kk,σ=[some b,some x,some v,some (.ref p),o4,o5,o6]∧Yb H1 H'∧H' p=some (.lst ks)∧H' l=some (.lst (as.map V.ref))∧UW g.K H1 H' as (YE bk sh d)∧Wd H' ks kk∧ks.length=i∧((YE bk sh d).take i).mapM (fun w=>ky bk m w.1 w.2)=some kk,?_,?_,?_,?_⟩
   ·exact ⟨none,none,none,[],[],rfl,s1.trans s2,s2 _ _ Yc,hl,hpr,.nil,rfl,by simp⟩
   ·rintro i σ H' hi ⟨o4,o5,o6,ks,ns,rfl,e1,e2,e3,_⟩
    exact SqL.of e3
   ·rintro i y σ H' hy ⟨o4,o5,o6,ks,kk,rfl,e1,e2,e3,e4,e5,e6,e7⟩
    have hi:i<as.length:=by simpa using (List.getElem?_eq_some_iff.mp hy).1
    have ha:as[i]?=some as[i]:=List.getElem?_eq_getElem hi
    rw [List.getElem?_map,ha] at hy
    have:V.ref as[i]=y:=Option.some.inj hy
    subst this
    have hw:(YE bk sh d)[i]?=some ((YE bk sh d)[i]'(by rw [← e4.1];exact hi)):=List.getElem?_eq_getElem _
    generalize (YE bk sh d)[i]'(by rw [← e4.1];exact hi)=w at hw
    have hwm:=List.mem_of_getElem? hw
    obtain ⟨y',z,ht,hsy,hvz⟩:=e4.2 i _ w ha hw
    walk_at "rd"
    refine ⟨_,SqT.of ht,rfl,?_⟩
    walk_at "rd"
    refine ⟨bk,b,y',z,w.1,w.2,rfl,by omega,hbk.keep (sm.trans e1),hsy.keep e1,(hft hf).2 w hwm,hvz.keep e1,fun n hn t H4 s4 ht4=>?_,fun hn H4 s4=>?_⟩
    ·walk_at "rd"
     have s14:=e1.trans s4
     have hwl:=VN (bk:=bk) (sh:=sh) hv
     have e41:=e4.1
     have tp:Tps H4 (upd H4 p (.lst (ks++[.ref t]))) := .upd_lst (s4 _ _ e2)
     refine Ym (by simp) ⟨.inl ⟨rfl,_,SqL.of (s4 _ _ e2)⟩,ks,s4 _ _ e2,by omega,.upd_over hp s14 _,_,Yc,?_,⟨e4.1,fun j a w h1 h2=>?_⟩,kk++[n],?_,by simp [e6],?_⟩
     ·rw [Yh hlp];exact s4 _ _ e3
     ·obtain ⟨y,z,g1,g2,g3⟩:=e4.2 j a w h1 h2
      exact ⟨y,z,by rw [Yh (X4 (s4 _ _ g1) (s4 _ _ e2) (by intro z;cases z))];exact s4 _ _ g1,g2,g3⟩
     ·rw [Wd,List.map_append]
      exact (e5.keep ((YT s4).trans tp)).append (.cons (ht4.keep tp) .nil)
     ·rw [Y5 hw,List.mapM_append,e7]
      simp [hn]
    ·exact q2 (by
      rw [ky,UG (f:=fun w=>ky bk m w.1 w.2) hwm hn]
      split<;>rfl) H4 ((sm.trans e1).trans s4)
   ·rintro σ H' ⟨o4,o5,o6,ks,kk,rfl,e1,e2,e3,e4,e5,e6,e7⟩
    walk_at "rd"
    rw [List.length_map,e4.1,List.take_length] at e7
    have hwl:=VN (bk:=bk) (sh:=sh) hv
    have e41:=e4.1
    have hkn:=e5.length
    rw [List.length_map] at e6 hkn
    refine ⟨bk,x,v,sh,d,p,ks,kk,rfl,hx1.keep e1,hv1.keep e1,hf,(hft hf).1,e2,by omega,e5,by omega,fun hL=>?_,fun k hk t H4 s4 ht=>q1 k (by rw [ky,if_pos hff,e7];exact hk) t H4 ((sm.trans e1).trans s4) ht,fun hk H4 s4=>q2 (by rw [ky,if_pos hff,e7];exact hk) H4 ((sm.trans e1).trans s4)⟩
    exact Yel hm64 hL hf e7
 ·intro N hN
  walk_at "rd"
  refine ⟨x,v,sh,d,rfl,hx,hv,fun H' s'=>⟨_,rfl,?_⟩⟩
  by_cases hf:YL sh d=true
  ·rw [hf]
   exact Ym (by simp) (hN _ _ ⟨rfl,s',hf⟩)
  ·have hf':=Bool.eq_false_iff.mpr hf
   rw [hf']
   exact XT rfl (q2 (by rw [ky,if_neg (by rw [hf'];simp)]) H' s')
def ZM (K:PySem.W.Frag):Sp:=fun vs H Q _=>∃ (bk:Bk) (b x v:V) (sh:Sh) (d:PyData) (k:Ky),vs=[b,x,v]∧Wx K H b bk∧ShAt K H x sh∧Enf bk LV sh d∧Vd H v d∧ky bk LV sh d=some k∧∀ p H',Yb H H'→KAt H' (.ref p) (kt k)→Q (.ref p) H'
theorem Z0K {k:Nat}  {c_law_lists P_law_lists:Addr} (R:g.Raw "key_or_refusal" "key_or_refusal" Zl ["book","shape","value"]) (ZG:g.Fn k "weighed" ["book","shape","value"] (Zt g.K LV)):g.Fn (k+1) "key_or_refusal" ["book","shape","value"] (ZM g.K):=by
 refine R.fn ZK (fun vs H Q E h=>by obtain ⟨bk,b,x,v,sh,d,k,rfl,hbk,hx,hft,hv,hn,q⟩:=h;rfl) fun f_ cdv A outer s H vs Q E hr h=>?_
 obtain ⟨bk,b,x,v,sh,d,k,rfl,hbk,hx,hft,hv,hn,q⟩:=h
 refine ⟨_,(@Yf _ _ _ _ _ (@YD _ _ (3) _ _ _ _ ZK.nd rfl (.inl rfl) (@Yz _ _ _ _ _ _ _ _ _ _ _ _ ZG hr (@Ya _ _ _ _ _ (pv 0) (@Ya _ _ _ _ _ (pv 1) (@Ya _ _ _ _ _ (pv 2) Yd (by rfl)) (by rfl)) (by rfl)) (by omega) (by rfl) (by rfl) (by decide) (by rfl) (by rfl)) (by rfl) (by first | exact .inl rfl | exact .inr rfl | assumption)) (@Yf _ _ _ _ _ (@YC _ _ _ _ _ _ _ _ (@Yp _ _ _ _ _ _ _ _ Ybh (pv 3) Xz (Yo _)) (@Yg _ _ _ U0) Yq) (@Yg _ _ _ (@Yk _ _ _ _ (pv 3))))),?_⟩
 walk_at "rd"
 refine ⟨bk,b,x,v,sh,d,rfl,by decide,hbk,hx,hft,hv,fun n' hn' p H' s' hp=>?_,fun hn' H' s'=>?_⟩
 ·rw [hn] at hn'
  cases hn'
  walk_at "rd"
  exact Ym (by simp) (q p H' s' hp)
 ·rw [hn] at hn';cases hn'
open Classical in
noncomputable def cmpZ (k k':Ky):Int:=if k=k' then 0 else if KLt (kt k) (kt k') then -1 else 1
def X3:List Nat:=[97,98,99,100,101,102,103,104,105,106,107,108,109,110,111,112,113,114,115,116,117,118,119,120,121,122,65,66,67,68,69,70,71,72,73,74,75,76,77,78,79,80,81,82,83,84,85,86,87,88,89,90,48,49,50,51,52,53,54,55,56,57]
theorem YcF:Str.ofString "abcdefghijklmnopqrstuvwxyzABCDEFGHIJKLMNOPQRSTUVWXYZ0123456789"=S X3:=by decide +kernel
def sg4 (j st:Nat):List Nat:=if j=0 then [99,97,98] else if j=1 then [98,99,97] else if j=2 then [97,99,98] else (X3.drop st).take 30
theorem Yb2:∀ j:Nat,j<3→∀ i:Nat,i<3→Txt.find (S (sg4 j 0)) (S [(sg4 j 0).getD i 0])=(i:Int):=by decide +kernel
theorem Ya3:∀ st:Nat,st<32→∀ i:Nat,i<30→Txt.find (S ((X3.drop st).take 30)) (S [((X3.drop st).take 30).getD i 0])=(i:Int):=by decide +kernel
theorem Yem {j st:Nat} (h:j<3):sg4 j st=sg4 j 0:=by
 unfold sg4
 have:j=0∨j=1∨j=2:=by omega
 rcases this with rfl | rfl | rfl<;>rfl
theorem Yb3 {j st:Nat} (h:3≤j):sg4 j st=(X3.drop st).take 30:=by
 unfold sg4
 rw [if_neg (by omega),if_neg (by omega),if_neg (by omega)]
theorem Vf {j st:Nat} (hs:st<32):(sg4 j st).length=if j<3 then 3 else 30:=by
 by_cases h:j<3
 ·rw [if_pos h]
  have:j=0∨j=1∨j=2:=by omega
  rcases this with rfl | rfl | rfl<;>rfl
 ·rw [if_neg h,Yb3 (by omega),List.length_take,List.length_drop]
  have:X3.length=62:=rfl
  omega
theorem YcG {j st i:Nat} (hs:st<32) (hi:i<(sg4 j st).length):Txt.find (S (sg4 j st)) (S [(sg4 j st).getD i 0])=(i:Int):=by
 by_cases h:j<3
 ·rw [Vf hs,if_pos h] at hi
  rw [Yem h]
  exact Yb2 j h i hi
 ·rw [Vf hs,if_neg h] at hi
  rw [Yb3 (by omega)]
  exact Ya3 st hs i hi
inductive TG:Sh→PyData→Ky→Int×List PyData→Prop
 | who {lo hi t:Int} (h0:0≤t) (h1:t≤hi - lo):TG (.whole lo hi) (.int (lo+t)) (Builtin.Int.intBits t,[.int (lo+t)]) ((Builtin.Int.intBits t:Nat),[.int t])
 | txt {j st:Nat} {ps:List Nat} (hs:st<32) (hp:∀ p∈ps,p<(sg4 j st).length) (hl:ps.length≤3):TG (.text (sg4 j st)) (.str (S (ps.map fun p=>(sg4 j st).getD p 0))) (ps.length,ps.map fun p:Nat => .int (p:Int)) ((ps.length:Nat),[.list (ps.map fun p:Nat => .int (p:Int))])
 | row {a b:Sh} {d e:PyData} {k l:Ky} {g h:Int×List PyData}:TG a d k g→TG b e l h→TG (.row [a,b]) (.tuple [d,e]) (k.1+l.1,[kt k,kt l]) (g.1+h.1,[gr g,gr h])
theorem TG.size {sh:Sh} {d:PyData} {k:Ky} {g:Int×List PyData} (h:TG sh d k g):g.1=(k.1:Int):=by
 induction h with
 | who=>rfl
 | txt=>rfl
 | row h1 h2 i1 i2=>simp only [i1,i2];omega
theorem Yaw:∀ (ps qs:List Nat),(KLs (ps.map fun p:Nat=>PyData.int (p:Int)) (qs.map fun p:Nat=>PyData.int (p:Int))↔GLs (ps.map fun p:Nat=>PyData.int (p:Int)) (qs.map fun p:Nat=>PyData.int (p:Int)))
 | [],[]=>⟨(fun h=>by cases h),(fun h=>by cases h)⟩
 | [],_::_=>⟨fun _ => .nil,fun _ => .nil⟩
 | _::_,[]=>⟨(fun h=>by cases h),(fun h=>by cases h)⟩
 | p::ps,q::qs=>by
  have ih:=Yaw ps qs
  simp only [List.map_cons]
  by_cases c:p=q
  ·subst c
   refine ⟨fun h=>?_,fun h=>?_⟩
   ·cases h with
    | here h=>exact (h.irr rfl).elim
    | there h=>exact .there (ih.mp h)
   ·cases h with
    | here h=>exact (h.irr rfl).elim
    | there h=>exact .there (ih.mpr h)
  ·refine ⟨fun h=>?_,fun h=>?_⟩
   ·cases h with
    | here h=>cases h;rename_i h;exact .here (.int h)
    | there h=>exact (c rfl).elim
   ·cases h with
    | here h=>cases h;rename_i h;exact .here (.int h)
    | there h=>exact (c rfl).elim
theorem V3 {a b:PyData} {as bs:List PyData}:KLs (a::as) (b::bs)↔KLt a b∨a=b∧KLs as bs:=by
 refine ⟨fun h=>?_,fun h=>?_⟩
 ·cases h with
  | here h=>exact .inl h
  | there h=>exact .inr ⟨rfl,h⟩
 ·rcases h with h | ⟨rfl,h⟩
  ·exact .here h
  ·exact .there h
theorem V4 {a b:PyData} {as bs:List PyData}:GLs (a::as) (b::bs)↔GLt a b∨a=b∧GLs as bs:=by
 refine ⟨fun h=>?_,fun h=>?_⟩
 ·cases h with
  | here h=>exact .inl h
  | there h=>exact .inr ⟨rfl,h⟩
 ·rcases h with h | ⟨rfl,h⟩
  ·exact .here h
  ·exact .there h
theorem V5 {i j:Int}:KLt (.int i) (.int j)↔i<j:=⟨fun h=>by cases h;assumption,.int⟩
theorem V6 {i j:Int}:GLt (.int i) (.int j)↔i<j:=⟨fun h=>by cases h;assumption,.int⟩
theorem V7 {ds es:List PyData}:KLt (.tuple ds) (.tuple es)↔KLs ds es:=⟨fun h=>by cases h;assumption,.tup⟩
theorem V8 {ds es:List PyData}:GLt (.tuple ds) (.tuple es)↔GLs ds es:=⟨fun h=>by cases h;assumption,.tup⟩
theorem YdJ {ds es:List PyData}:GLt (.list ds) (.list es)↔GLs ds es:=⟨fun h=>by cases h;assumption,.lst⟩
theorem Yax {ds:List PyData}:¬ KLs ds []:=fun h=>by cases h
theorem V9 {ds:List PyData}:¬ GLs ds []:=fun h=>by cases h
theorem TG.order {sh:Sh} {d:PyData} {k:Ky} {g:Int×List PyData} (h:TG sh d k g):∀ {d':PyData} {k':Ky} {g':Int×List PyData},TG sh d' k' g'→(KLt (kt k) (kt k')↔GLt (gr g) (gr g'))∧(kt k=kt k'↔gr g=gr g'):=by
 induction h with
 | @who lo hi t h0 h1 =>
  intro d' k' g' h'
  cases h' with
  | @who _ _ t' h0' h1' =>
   simp only [kt,gr,V7,V8,V3,V4,V5,V6,Yax,V9,and_false,or_false,PyData.int.injEq,PyData.tuple.injEq,List.cons.injEq,and_true]
   exact ⟨⟨fun h=>by omega,fun h=>by omega⟩,⟨fun h=>by omega,fun h=>by omega⟩⟩
 | @txt j st ps hs hp hl =>
  intro d' k' g' h'
  generalize hsh:Sh.text (sg4 j st)=sh' at h'
  cases h' with
  | who=>cases hsh
  | row=>cases hsh
  | @txt j' st' ps' hs' hp' hl' =>
   simp only [kt,gr,V7,V8,YdJ,V3,V4,V5,V6,V9,and_false,or_false,PyData.int.injEq,PyData.tuple.injEq,PyData.list.injEq,List.cons.injEq,and_true,Yaw]
 | @row a b d e k l g h h1 h2 i1 i2 =>
  intro d' k' g' h'
  cases h' with
  | @row _ _ d2 e2 k2 l2 g2 h2' t1 t2 =>
   have o1:=i1 t1
   have o2:=i2 t2
   have z1:=h1.size
   have z2:=h2.size
   have z3:=t1.size
   have z4:=t2.size
   show (KLt (.tuple (.int _::[kt k,kt l])) (.tuple (.int _::[kt k2,kt l2]))↔GLt (.tuple (.int _::[gr g,gr h])) (.tuple (.int _::[gr g2,gr h2'])))∧(PyData.tuple (.int _::[kt k,kt l]) = .tuple (.int _::[kt k2,kt l2])↔PyData.tuple (.int _::[gr g,gr h]) = .tuple (.int _::[gr g2,gr h2']))
   simp only [V7,V8,V3,V4,V5,V6,Yax,V9,and_false,or_false,PyData.int.injEq,PyData.tuple.injEq,List.cons.injEq,and_true,o1.1,o1.2,o2.1,o2.2]
   rw [z1,z2,z3,z4]
   simp only [Int.natCast_add]
   first | exact ⟨Iff.rfl,Iff.rfl⟩ | exact ⟨trivial,Iff.rfl⟩ | exact ⟨trivial,trivial⟩ | exact ⟨Iff.rfl,trivial⟩
theorem QI:∀ ps:List Nat,GDs (ps.map fun p:Nat=>PyData.int (p:Int))
 | [] => .nil
 | p::ps => .cons (.int _) (QI ps)
theorem UH:∀ ps qs:List Nat,SimGs (ps.map fun p:Nat=>PyData.int (p:Int)) (qs.map fun p:Nat=>PyData.int (p:Int))
 | [],_ => .nil
 | _::_,[] => .end_
 | _::ps,_::qs => .cons (.int _ _) fun _=>UH ps qs
theorem TG.gd {sh:Sh} {d:PyData} {k:Ky} {g:Int×List PyData} (h:TG sh d k g):GD (gr g):=by
 induction h with
 | who=>exact .tup (.cons (.int _) (.cons (.int _) .nil))
 | txt=>exact .tup (.cons (.int _) (.cons (.lst (QI _)) .nil))
 | row _ _ i1 i2=>exact .tup (.cons (.int _) (.cons i1 (.cons i2 .nil)))
theorem TG.sim {sh:Sh} {d:PyData} {k:Ky} {g:Int×List PyData} (h:TG sh d k g):∀ {d':PyData} {k':Ky} {g':Int×List PyData},TG sh d' k' g'→SimG (gr g) (gr g'):=by
 induction h with
 | who =>
  intro d' k' g' h'
  cases h'
  exact .tup (.cons (.int _ _) fun _ => .cons (.int _ _) fun _ => .nil)
 | @txt j st ps hs hp hl =>
  intro d' k' g' h'
  generalize hsh:Sh.text (sg4 j st)=sh' at h'
  cases h' with
  | who=>cases hsh
  | row=>cases hsh
  | txt=>exact .tup (.cons (.int _ _) fun _ => .cons (.lst (UH _ _)) fun _ => .nil)
 | row _ _ i1 i2 =>
  intro d' k' g' h'
  cases h' with
  | row t1 t2=>exact .tup (.cons (.int _ _) fun _ => .cons (i1 t1) fun _ => .cons (i2 t2) fun _ => .nil)
def Wy (sh:Sh):Prop:=(∃ lo hi,sh = .whole lo hi)∨∃ sg,sh = .text sg
theorem Ua {sh:Sh} {d:PyData} {k:Ky} {g:Int×List PyData} {n:Nat} (hf:Wy sh) (h:TG sh d k g):ky [] (n+1) sh d=some k:=by
 cases h with
 | @who lo hi t h0 h1 =>
  have hf:(YL (.whole lo hi) (.int (lo+t))&&fnd [] (.whole lo hi) (.int (lo+t)))=true:=by
   show ((decide (lo≤lo+t)&&decide (lo+t≤hi))&&true)=true
   rw [decide_eq_true (by omega),decide_eq_true (by omega)]
   rfl
  rw [ky,if_pos hf]
  show some (Builtin.Int.intBits (lo+t - lo),_)=_
  rw [show lo+t - lo=t by omega]
 | @txt j st ps hs hp hl =>
  have hmem:∀ p∈ps,(sg4 j st).getD p 0∈sg4 j st:=fun p h=>by
   rw [List.getD_eq_getElem?_getD,List.getElem?_eq_getElem (hp p h)]
   exact List.getElem_mem _
  have hf:(YL (.text (sg4 j st)) (.str (S (ps.map fun p=>(sg4 j st).getD p 0)))&&fnd [] (.text (sg4 j st)) (.str (S (ps.map fun p=>(sg4 j st).getD p 0))))=true:=by
   show (((S (ps.map fun p=>(sg4 j st).getD p 0)).cps.toList.all fun c=>decide (c∈sg4 j st))&&true)=true
   rw [Xt,Bool.and_true,List.all_eq_true]
   intro c hc
   obtain ⟨p,hp',rfl⟩:=List.mem_map.mp hc
   exact decide_eq_true (hmem p hp')
  rw [ky,if_pos hf]
  show some ((S (ps.map fun p=>(sg4 j st).getD p 0)).length,(S (ps.map fun p=>(sg4 j st).getD p 0)).cps.toList.map fun c=>PyData.int (Txt.find (S (sg4 j st)) (S [c])))=_
  rw [Wg,Xt,List.length_map,List.map_map]
  congr 2
  refine List.map_congr_left fun p h=>?_
  show PyData.int (Txt.find (S (sg4 j st)) (S [(sg4 j st).getD p 0]))=_
  rw [YcG hs (hp p h)]
 | row=>rcases hf with ⟨_,_,z⟩ | ⟨_,z⟩<;>cases z
theorem Yen {a b:Sh} {d:PyData} {k:Ky} {g:Int×List PyData} {n:Nat} (ha:Wy a) (hb:Wy b) (h:TG (.row [a,b]) d k g):ky [] (n+2) (.row [a,b]) d=some k:=by
 cases h with
 | @row _ _ d e k l g h t1 t2 =>
  rw [ky,if_pos (show (YL (.row [a,b]) (.tuple [d,e])&&fnd [] (.row [a,b]) (.tuple [d,e]))=true from rfl)]
  show ([(a,d),(b,e)].mapM (fun w=>ky [] (n+1) w.1 w.2)).bind _=_
  rw [List.mapM_cons,List.mapM_cons,List.mapM_nil]
  dsimp only
  rw [Ua ha t1,Ua hb t2]
  show some (([k,l].map (·.1)).sum,[k,l].map kt)=_
  simp
def Fl1 (sh:Sh):Prop:=∃ (lo w:Int),0≤w∧w≤999∧sh = .whole lo (lo+w)
def Fl2 (sh:Sh):Prop:=∃ (j st:Nat),j<4∧st<32∧sh = .text (sg4 j st)
def Prt (sh:Sh):Prop:=Fl1 sh∨Fl2 sh∨∃ a b,Fl1 a∧Fl2 b∧sh = .row [a,b]
def Z0E (K:PySem.W.Frag):Sp:=fun vs H Q _=>∃ (a:Addr) (ns:List Int),vs=[.ref a]∧SqL K H a (ns.map V.int)∧ns.length≤63∧∀ v sh H',Yb H H'→ShAt K H' v sh→Prt sh→Q v H'
theorem Q9 {k:Nat}  {c_law_lists P_law_lists:Addr} (R:g.Raw "_law_part" "_law_part" Z0j ["_law_script"]) (Z5:g.Fn k "_law_cell_at" ["_law_script","_law_k"] (Zx g.K)):g.Fn (k+1) "_law_part" ["_law_script"] (Z0E g.K):=by
 refine R.fn Z3 (fun vs H Q E h=>by obtain ⟨a,ns,rfl,hS,hl,q⟩:=h;rfl) fun f_ cdv A outer s H vs Q E hr h=>?_
 obtain ⟨a,ns,rfl,hS,hl,q⟩:=h
 refine ⟨_,(@Yf _ _ _ _ _ (@YD _ _ (1) _ _ _ _ Z3.nd rfl (.inl rfl) (@Yz _ _ _ _ _ _ _ _ _ _ _ _ Z5 hr (@Ya _ _ _ _ _ (pv 0) (@Ya _ _ _ _ _ Ye Yd (by rfl)) (by rfl)) (by omega) (by rfl) (by rfl) (by decide) (by rfl) (by rfl)) (by rfl) (by first | exact .inl rfl | exact .inr rfl | assumption)) (@Yf _ _ _ _ _ (@YD _ _ (2) _ _ _ _ Z3.nd rfl (.inl rfl) (@Yt _ _ _ _ _ _ _ _ WX (@Yt _ _ _ _ _ _ _ _ Xk (pv 1) (@Yt _ _ _ _ _ _ _ _ Ybe Ye Ye)) (@Yt _ _ _ _ _ _ _ _ Yap Ye (@Yt _ _ _ _ _ _ _ _ Ybe Ye Ye))) (by rfl) (by first | exact .inl rfl | exact .inr rfl | assumption)) (@Yf _ _ _ _ _ (@YD _ _ (3) _ _ _ _ Z3.nd rfl (.inl rfl) (@YR _ _ _ _ _ (@Ya _ _ _ _ _ YA (@Ya _ _ _ _ _ (pv 2) (@Ya _ _ _ _ _ (@Yt _ _ _ _ _ _ _ _ Y8 (pv 2) (@Yj _ _ _ _ _ _ _ YY (@YM _ _ _ _ (@Ya _ _ _ _ _ Ye (@Ya _ _ _ _ _ Ye (@Ya _ _ _ _ _ Ye Yd (by rfl)) (by rfl)) (by rfl))) (@Yt _ _ _ _ _ _ _ _ Xk (pv 1) Ye) (fun _ _=>rfl))) Yd (by rfl)) (by rfl)) (by rfl))) (by rfl) (by first | exact .inl rfl | exact .inr rfl | assumption)) (@Yf _ _ _ _ _ (@YD _ _ (4) _ _ _ _ Z3.nd rfl (.inl rfl) YA (by rfl) (by first | exact .inl rfl | exact .inr rfl | assumption)) (@Yf _ _ _ _ _ (@YD _ _ (5) _ _ _ _ Z3.nd rfl (.inl rfl) (@Yt _ _ _ _ _ _ _ _ Xk (@Yt _ _ _ _ _ _ _ _ Xv (pv 1) Ye) Ye) (by rfl) (by first | exact .inl rfl | exact .inr rfl | assumption)) (@Yf _ _ _ _ _ (@YD _ _ (6) _ _ _ _ Z3.nd rfl (.inl rfl) (@Yj _ _ _ _ _ _ _ YY (@YM _ _ _ _ (@Ya _ _ _ _ _ YA (@Ya _ _ _ _ _ YA (@Ya _ _ _ _ _ YA (@Ya _ _ _ _ _ (@Y3 _ _ _ _ _ _ _ _ _ _ YdZ (pv 4) (@YX _ _ _ (pv 5)) (@YX _ _ _ (@Yt _ _ _ _ _ _ _ _ Y8 (pv 5) Ye))) Yd (by rfl)) (by rfl)) (by rfl)) (by rfl))) (@Yt _ _ _ _ _ _ _ _ Xk (@Yt _ _ _ _ _ _ _ _ Xv (pv 1) Ye) Ye) (fun _ _=>rfl)) (by rfl) (by first | exact .inl rfl | exact .inr rfl | assumption)) (@Yg _ _ _ (@Yk _ _ _ _ (@Yj _ _ _ _ _ _ _ YY (@YM _ _ _ _ (@Ya _ _ _ _ _ (pv 3) (@Ya _ _ _ _ _ (@YR _ _ _ _ _ (@Ya _ _ _ _ _ YA (@Ya _ _ _ _ _ (pv 6) Yd (by rfl)) (by rfl))) (@Ya _ _ _ _ _ (@YR _ _ _ _ _ (@Ya _ _ _ _ _ YA (@Ya _ _ _ _ _ (@YR _ _ _ _ _ (@Ya _ _ _ _ _ (pv 3) (@Ya _ _ _ _ _ (@YR _ _ _ _ _ (@Ya _ _ _ _ _ YA (@Ya _ _ _ _ _ (pv 6) Yd (by rfl)) (by rfl))) Yd (Y0 _ _ _ _ _)) (by rfl))) Yd (Y0 _ _ _ _ _)) (by rfl))) Yd (Y0 _ _ _ _ _)) (Y0 _ _ _ _ _)) (by rfl))) (@Yt _ _ _ _ _ _ _ _ Xk (@Yz _ _ _ _ _ _ _ _ _ _ _ _ Z5 hr (@Ya _ _ _ _ _ (pv 0) (@Ya _ _ _ _ _ Ye Yd (by rfl)) (by rfl)) (by omega) (by rfl) (by rfl) (by decide) (by rfl) (by rfl)) Ye) (fun _ _=>rfl)))))))))),?_⟩
 have cd3:∀ c:Int,YaO c 3:=fun c=>⟨by decide,by decide⟩
 have cd96:∀ c:Int,YaO c 96:=fun c=>⟨by decide,by decide⟩
 have cmu:Yc5 5 (10^Int.toNat 19) := .inl (cm (m:=3) (n:=64) (by decide) (by decide))
 refine cut3 (fun σ H1=>∃ (t:Addr) (c lo w:Int),Yb H H1∧0≤w∧w≤999∧SqT g.K H1 t [.str "whole",.int lo,.int (lo+w)]∧σ=[some (.ref a),some (.int c),some (.int lo),some (.ref t),none,none,none]) ?_ ?_
 ·rintro σ H1 ⟨t,c,lo,w,s1,w0,w1,ht,rfl⟩
  walk_at "rd"
  obtain ⟨st,hst,est⟩:∃ st:Nat,st<32∧c / 3%32=(st:Int):=⟨(c / 3%32).toNat,by omega,by omega⟩
  rw [est]
  have ec:WH (S X3) (some (st:Int)) (some ((st:Int)+30))=S ((X3.drop st).take 30):=by
   rw [show ((st:Int)+30)=((st+30:Nat):Int) by omega,Yci,show st+30 - st=30 by omega]
  refine ⟨cd3 c,by decide,S X3,by rw [YcF],by rw [Wg];decide,?_⟩
  rw [ec]
  refine ⟨few (by decide),fun p0 g0=>⟨cd96 c,by decide,_,SqL.of Yc,?_⟩⟩
  obtain ⟨x2,hx2,j,hj,rfl⟩:∃ x2,atI [V.str (Str.ofString "cab"),V.str (Str.ofString "bca"),V.str (Str.ofString "acb"),V.str (S ((X3.drop st).take 30))] (c / 96%4)=some x2∧∃ j,j<4∧x2 = .str (S (sg4 j st)):=by
   have:c / 96%4=0∨c / 96%4=1∨c / 96%4=2∨c / 96%4=3:=by omega
   rcases this with h | h | h | h<;>rw [h]
   ·exact ⟨_,rfl,0,by decide,rfl⟩
   ·exact ⟨_,rfl,1,by decide,rfl⟩
   ·exact ⟨_,rfl,2,by decide,rfl⟩
   ·exact ⟨_,rfl,3,by decide,rfl⟩
  refine ⟨_,hx2,few (by decide),fun p1 g1=>⟨few (by decide),fun p2 g2=>⟨few (by decide),fun p3 g3=>⟨few (by decide),fun p4 g4=>⟨few (by decide),fun p5 g5=>?_⟩⟩⟩⟩⟩
  have t0:=Yb.upd_new g0 (.lst [V.str (Str.ofString "cab"),V.str (Str.ofString "bca"),V.str (Str.ofString "acb"),V.str (S ((X3.drop st).take 30))])
  have t1:=Yb.upd_new g1 (.tup [V.str (Str.ofString "text"),.str (S (sg4 j st))])
  have t2:=Yb.upd_new g2 (.tup [V.str (Str.ofString "text"),.str (S (sg4 j st))])
  have t3:=Yb.upd_new g3 (.tup [V.ref t,V.ref p2])
  have t4:=Yb.upd_new g4 (.tup [V.str (Str.ofString "row"),V.ref p3])
  have t5:=Yb.upd_new g5 (.lst [.ref t,.ref p1,.ref p4])
  have tA:=((((t0.trans t1).trans t2).trans t3).trans t4).trans t5
  have hlen:(sg4 j st).length≤1000:=by rw [Vf hst];split<;>omega
  refine ⟨a,ns,0,rfl,(s1.trans tA).seq hS,hl,?_⟩
  have f1:Fl1 (.whole lo (lo+w)):=⟨lo,w,w0,w1,rfl⟩
  have f2:Fl2 (.text (sg4 j st)):=⟨j,st,hj,hst,rfl⟩
  have sw:ShAt g.K _ (.ref t) (.whole lo (lo+w)) := .whole (tA.tup ht)
  have st2:ShAt g.K _ (.ref p2) (.text (sg4 j st)) := .text (SqT.of (t5 _ _ (t4 _ _ (t3 _ _ Yc)))) hlen
  have u3:=t5 _ _ (t4 _ _ (Yc (H:=upd (upd (upd H1 p0 (.lst [V.str (Str.ofString "cab"),V.str (Str.ofString "bca"),V.str (Str.ofString "acb"),V.str (S ((X3.drop st).take 30))])) p1 (.tup [V.str (Str.ofString "text"),.str (S (sg4 j st))])) p2 (.tup [V.str (Str.ofString "text"),.str (S (sg4 j st))])) (a:=p3) (o := .tup [V.ref t,V.ref p2])))
  refine ⟨_,rfl,by decide,_,SqL.of Yc,?_⟩
  generalize ns.getD 0 0=c0
  have:c0%3=0∨c0%3=1∨c0%3=2:=by omega
  rcases this with h | h | h<;>rw [h]
  ·exact ⟨_,rfl,q _ _ _ (s1.trans tA) sw (.inl f1)⟩
  ·exact ⟨_,rfl,q _ _ _ (s1.trans tA) (.text (SqT.of (t5 _ _ (t4 _ _ (t3 _ _ (t2 _ _ Yc))))) hlen) (.inr (.inl f2))⟩
  ·exact ⟨_,rfl,q _ _ _ (s1.trans tA) (.row (SqT.of (t5 _ _ Yc)) (SqT.of u3) (.cons sw (.cons st2 .nil)) (by simp)) (.inr (.inr ⟨_,_,f1,f2,rfl⟩))⟩
 ·intro N hN
  walk_at "rd"
  refine ⟨a,ns,1,rfl,hS,hl,?_⟩
  generalize ns.getD 1 0=c
  obtain ⟨x,hx,w,w0,w1,rfl⟩:∃ x,atI [V.int 1,V.int 5,V.int 999] (c%3)=some x∧∃ w:Int,0≤w∧w≤999∧x = .int w:=by
   have:c%3=0∨c%3=1∨c%3=2:=by omega
   rcases this with h | h | h<;>rw [h]
   ·exact ⟨_,rfl,1,by decide,by decide,rfl⟩
   ·exact ⟨_,rfl,5,by decide,by decide,rfl⟩
   ·exact ⟨_,rfl,999,by decide,by decide,rfl⟩
  refine ⟨cpow,c,rfl,by decide,cpow,cmu,few (by decide),fun p hp=>⟨c,rfl,by decide,_,SqL.of Yc,_,hx,w,rfl,few (by decide),fun p1 hp1=>?_⟩⟩
  exact hN _ _ ⟨p1,c,_,w,(Yb.upd_new hp _).trans (.upd_new hp1 _),w0,w1,SqT.of Yc,rfl⟩
def Lv (m:Nat) (sh:Sh):Prop:=(Fl1 sh∨Fl2 sh)∧1≤m∨(∃ a b,Fl1 a∧Fl2 b∧sh = .row [a,b])∧2≤m
def PG (H:Hp) (sh:Sh) (t:Addr) (d:PyData) (k:Ky) (g:Int×List PyData):Prop:=TG sh d k g∧∃ x y,H t=some (.tup [x,y])∧Vd H x d∧(∃ a,y = .ref a)∧Vd H y (gr g)
variable {m:Nat}
theorem Yeo {l:List Nat} (h:∀ c∈l,c<1000):PyData.strOk (S l)=true:=by
 simp only [PyData.strOk,S,Array.all_eq_true',decide_eq_true_eq]
 intro c hc
 have:=h c (by simpa using hc)
 omega
theorem UI:∀ cs:List Nat,US [] (cs.map fun c=>[c])=cs
 | []=>rfl
 | [x]=>rfl
 | x::y::r=>by
  have:=UI (y::r)
  show [x]++[]++US [] ((y::r).map fun c=>[c])=_
  rw [this];rfl
theorem Yep {j st:Nat}:∀ c∈sg4 j st,c<1000:=fun c hc=>by
 unfold sg4 at hc
 have hl:∀ c∈X3,c<1000:=by decide
 split at hc
 ·revert c;decide
 ·split at hc
  ·revert c;decide
  ·split at hc
   ·revert c;decide
   ·exact hl c (List.mem_of_mem_drop (List.mem_of_mem_take hc))
theorem QJ (H:Hp):∀ ps:List Nat,Vds H (ps.map fun p:Nat=>V.int (p:Int)) (ps.map fun p:Nat=>PyData.int (p:Int))
 | [] => .nil
 | p::ps => .cons (.int _) (QJ H ps)
theorem QK (f:Nat→Nat):∀ ps:List Nat,((ps.map fun p=>S [f p]).map (·.length)).sum=ps.length
 | []=>rfl
 | p::ps=>by
  simp only [List.map_cons,List.sum_cons,List.length_cons]
  rw [QK f ps,Wg,List.length_singleton]
  omega
theorem Vt {H:Hp} {a:Addr} {g:Int×List PyData} (h:Vd H (.ref a) (gr g)):∃ r,H a=some (.tup (.int g.1::r)):=by
 cases h with
 | tup h _ hs =>
  cases hs with
  | cons h1 h2 =>
   cases h1
   exact ⟨_,h⟩
def nw (H H':Hp):Hp:=fun a=>match H a with | none=>H' a | some _=>none
theorem Wi {H H':Hp} {a:Addr} {o:HO} (h:H a=none) (h':H' a=some o):nw H H' a=some o:=by unfold nw;rw [h];exact h'
theorem VO {H H':Hp} {a:Addr} {o:HO} (h:nw H H' a=some o):H a=none∧H' a=some o:=by
 unfold nw at h
 cases e:H a with
 | none=>rw [e] at h;exact ⟨rfl,h⟩
 | some o=>rw [e] at h;cases h
theorem Yay {H0 H H1 H2:Hp} (s:Yb H0 H) (t:Yb H1 H2):Yb (nw H H1) (nw H0 H2):=fun a o h=>by
 obtain ⟨h1,h2⟩:=VO h
 exact Wi (s.free h1) (t _ _ h2)
theorem Vg {H H':Hp}:Yb (nw H H') H':=fun a o h=>(VO h).2
def Zj (K:PySem.W.Frag) (m:Nat):Sp:=fun vs H Q _=>∃ (v:V) (sh:Sh) (c:Int),vs=[v,.int c]∧ShAt K H v sh∧Lv m sh∧∀ t d k g H',Yb H H'→PG (nw H H') sh t d k g→Q (.ref t) H'
theorem YcH {K:PySem.W.Frag} {vs:List V} {H:Hp} {Q:VK} {E:XK} (h:Zj K 0 vs H Q E):False:=by
 obtain ⟨v,sh,c,_,_,h,_⟩:=h
 rcases h with ⟨_,h⟩ | ⟨_,h⟩<;>omega
theorem Z0F {k:Nat}  {c_law_lists P_law_lists:Addr} (R:g.Raw "_law_thing" "_law_thing" Z04 ["_law_part_here","_law_cell"]) (ZE:g.Fn k "_law_thing" ["_law_part_here","_law_cell"] (Zj g.K m)) (b_len:g.mg "len"=none) (Zc:g.mg "range"=none):g.Fn (k+1) "_law_thing" ["_law_part_here","_law_cell"] (Zj g.K (m+1)):=by
 refine R.fn Za (fun vs H Q E h=>by obtain ⟨v,sh,c,rfl,hv,hlv,q⟩:=h;rfl) fun f_ cdv A outer s H vs Q E hr h=>?_
 obtain ⟨v,sh,c,rfl,hv,hlv,q⟩:=h
 refine ⟨_,(@Yf _ _ _ _ _ (@YC _ _ _ _ _ _ _ _ (@Yp _ _ _ _ _ _ _ _ YQ (@Yj _ _ _ _ _ _ _ Yl (pv 0) Ye (fun _ _=>rfl)) YA (Yo _)) (@Yf _ _ _ _ _ (@YD _ _ (2) _ _ _ _ Za.nd rfl (.inl rfl) (@Yt _ _ _ _ _ _ _ _ Xk (pv 1) (@Yt _ _ _ _ _ _ _ _ Y8 (@Yt _ _ _ _ _ _ _ _ WX (@Yj _ _ _ _ _ _ _ Yl (pv 0) Ye (fun _ _=>rfl)) (@Yj _ _ _ _ _ _ _ Yl (pv 0) Ye (fun _ _=>rfl))) Ye)) (by rfl) (by first | exact .inl rfl | exact .inr rfl | assumption)) (@Yg _ _ _ (@Yk _ _ _ _ (@YR _ _ _ _ _ (@Ya _ _ _ _ _ (@Yt _ _ _ _ _ _ _ _ Y8 (@Yj _ _ _ _ _ _ _ Yl (pv 0) Ye (fun _ _=>rfl)) (pv 2)) (@Ya _ _ _ _ _ (@YR _ _ _ _ _ (@Ya _ _ _ _ _ (@Ybr _ _ _ _ _ _ _ _ _ PySem.F.plainAttrs_int PySem.F.slot_int_bit_length PySem.F.type_int_bit_length Yan (pv 2) (by rfl) (by rfl)) (@Ya _ _ _ _ _ (pv 2) Yd (by rfl)) (by rfl))) Yd (Y0 _ _ _ _ _)) (by rfl)))))) Yq) (@Yf _ _ _ _ _ (@YC _ _ _ _ _ _ _ _ (@Yp _ _ _ _ _ _ _ _ YQ (@Yj _ _ _ _ _ _ _ Yl (pv 0) Ye (fun _ _=>rfl)) YA (Yo _)) (@Yf _ _ _ _ _ (@W9 _ (3) _ _ _ _ _ _ _ _ _ ([none,some 1,some 0]) ((["_law_k","_law_cell","_law_part_here"]:List Str)) _ (Ys 0) _ _ Za.nd rfl (.inl rfl) (.own (.cap (i:=1) rfl rfl (by first | exact .inl rfl | exact .inr rfl) (.cap (i:=0) rfl rfl (by first | exact .inl rfl | exact .inr rfl) .nil))) rfl (@Ue _ _ _ _ _ _ rfl Zc (@Ya _ _ _ _ _ (@Yt _ _ _ _ _ _ _ _ Xk (pv 1) Ye) Yd (by rfl)) (by rfl)) (fun cl C s₀ H₀ fp pn=>(@Yu _ _ (0) _ (show List.Nodup (["_law_k","_law_cell","_law_part_here"]:List Str) by decide +kernel) rfl (.inl rfl) (.inr rfl))) (fun cl C s₀ H₀ fp pn=>Y2) (fun cl C s₀ H₀ fp pn=>(@Yt _ _ _ _ _ _ _ _ Xk (@Yt _ _ _ _ _ _ _ _ Xv (pv 1) (@Yt _ _ _ _ _ _ _ _ Y8 (@Yt _ _ _ _ _ _ _ _ Yap Ye (pv 0)) Ye)) (@YF _ _ _ _ _ _ _ _ _ _ b_len WZ (@Ya _ _ _ _ _ (@Yj _ _ _ _ _ _ _ (Xq (K:=g.K)) (pv 2) Ye (fun _ _=>rfl)) Yd (by rfl)) (by decide +kernel) (by rfl) (by rfl) (by decide) (by decide) (by rfl) (by rfl)))) (by intro x hx;simp at hx;first | (subst hx;exact .inl rfl) | (rcases hx with rfl | rfl<;>exact .inl rfl) | (rcases hx with rfl | rfl | rfl<;>exact .inl rfl) | (rcases hx with rfl | rfl | rfl | rfl<;>exact .inl rfl) | (rcases hx with rfl | rfl | rfl | rfl | rfl<;>exact .inl rfl)) (by rfl) (by decide) (by decide +kernel) (by intro _;rfl) (by rfl) (by first | exact .inl rfl | exact .inr rfl | assumption)) (@Yg _ _ _ (@Yk _ _ _ _ (@YR _ _ _ _ _ (@Ya _ _ _ _ _ (@XH _ _ _ _ _ _ _ _ _ _ _ _ PySem.F.plainAttrs_str PySem.F.slot_str_join PySem.F.type_str_join Ydl YA (@Ya _ _ _ _ _ (@XI _ _ _ _ _ _ _ ([none,some 0]) ((["_law_place","_law_part_here"]:List Str)) _ (Ys 0) _ _ (.own (.cap (i:=0) rfl rfl (by first | exact .inl rfl | exact .inr rfl) .nil)) rfl (@YW _ _ _ _ (pv 3)) (fun cl C s₀ H₀ fp pn=>(@Yu _ _ (0) _ (show List.Nodup (["_law_place","_law_part_here"]:List Str) by decide +kernel) rfl (.inl rfl) (.inr rfl))) (fun cl C s₀ H₀ fp pn=>Y2) (fun cl C s₀ H₀ fp pn=>(@Yj _ _ _ _ _ _ _ YdX (@Yj _ _ _ _ _ _ _ (Xq (K:=g.K)) (pv 1) Ye (fun _ _=>rfl)) (pv 0) (fun _ _=>rfl))) (by intro x hx;simp at hx;first | (subst hx;exact .inl rfl) | (rcases hx with rfl | rfl<;>exact .inl rfl) | (rcases hx with rfl | rfl | rfl<;>exact .inl rfl) | (rcases hx with rfl | rfl | rfl | rfl<;>exact .inl rfl) | (rcases hx with rfl | rfl | rfl | rfl | rfl<;>exact .inl rfl)) (by rfl) (by decide) (by decide +kernel) (by intro _;rfl)) Yd (by rfl)) (by rfl) (by rfl) (by rfl) (by rfl) (by rfl)) (@Ya _ _ _ _ _ (@YR _ _ _ _ _ (@Ya _ _ _ _ _ (@YF _ _ _ _ _ _ _ _ _ _ b_len YN (@Ya _ _ _ _ _ (pv 3) Yd (by rfl)) (by decide +kernel) (by rfl) (by rfl) (by decide) (by decide) (by rfl) (by rfl)) (@Ya _ _ _ _ _ (pv 3) Yd (by rfl)) (by rfl))) Yd (Y0 _ _ _ _ _)) (by rfl)))))) Yq) (@Yf _ _ _ _ _ (@YD _ _ (4) _ _ _ _ Za.nd rfl (.inl rfl) (@Yz _ _ _ _ _ _ _ _ _ _ _ _ ZE hr (@Ya _ _ _ _ _ (@Yj _ _ _ _ _ _ _ Yl (@Yj _ _ _ _ _ _ _ Yl (pv 0) Ye (fun _ _=>rfl)) Ye (fun _ _=>rfl)) (@Ya _ _ _ _ _ (@Yt _ _ _ _ _ _ _ _ Xv (pv 1) Ye) Yd (by rfl)) (by rfl)) (by omega) (by rfl) (by rfl) (by decide) (by rfl) (by rfl)) (by rfl) (by first | exact .inl rfl | exact .inr rfl | assumption)) (@Yf _ _ _ _ _ (@YD _ _ (5) _ _ _ _ Za.nd rfl (.inl rfl) (@Yz _ _ _ _ _ _ _ _ _ _ _ _ ZE hr (@Ya _ _ _ _ _ (@Yj _ _ _ _ _ _ _ Yl (@Yj _ _ _ _ _ _ _ Yl (pv 0) Ye (fun _ _=>rfl)) Ye (fun _ _=>rfl)) (@Ya _ _ _ _ _ (@Yt _ _ _ _ _ _ _ _ Xv (pv 1) Ye) Yd (by rfl)) (by rfl)) (by omega) (by rfl) (by rfl) (by decide) (by rfl) (by rfl)) (by rfl) (by first | exact .inl rfl | exact .inr rfl | assumption)) (@Yg _ _ _ (@Yk _ _ _ _ (@YR _ _ _ _ _ (@Ya _ _ _ _ _ (@YR _ _ _ _ _ (@Ya _ _ _ _ _ (@Yj _ _ _ _ _ _ _ Yl (pv 4) Ye (fun _ _=>rfl)) (@Ya _ _ _ _ _ (@Yj _ _ _ _ _ _ _ Yl (pv 5) Ye (fun _ _=>rfl)) Yd (by rfl)) (by rfl))) (@Ya _ _ _ _ _ (@YR _ _ _ _ _ (@Ya _ _ _ _ _ (@Yt _ _ _ _ _ _ _ _ Y8 (@Yj _ _ _ _ _ _ _ Yl (@Yj _ _ _ _ _ _ _ Yl (pv 4) Ye (fun _ _=>rfl)) Ye (fun _ _=>rfl)) (@Yj _ _ _ _ _ _ _ Yl (@Yj _ _ _ _ _ _ _ Yl (pv 5) Ye (fun _ _=>rfl)) Ye (fun _ _=>rfl))) (@Ya _ _ _ _ _ (@Yj _ _ _ _ _ _ _ Yl (pv 4) Ye (fun _ _=>rfl)) (@Ya _ _ _ _ _ (@Yj _ _ _ _ _ _ _ Yl (pv 5) Ye (fun _ _=>rfl)) Yd (by rfl)) (by rfl)) (by rfl))) Yd (Y0 _ _ _ _ _)) (Y0 _ _ _ _ _))))))))),?_⟩
 rcases hlv with ⟨⟨lo,w,w0,w1,rfl⟩ | ⟨j,st,hj,hst,rfl⟩,_⟩ | ⟨⟨sa,sb,fa,fb,rfl⟩,hm⟩
 ·cases hv with
  | whole ha =>
  walk_at "rd"
  refine ⟨_,ha,_,Wv _ _ _,?_⟩
  walk_at "rd"
  refine ⟨_,ha,_,Ya1 _ _ _,_,ha,_,VJ _ _ _,_,rfl,_,rfl,by omega,_,ha,_,VJ _ _ _,_,rfl,rfl,few (by decide),fun p hp=>⟨few (by decide),fun p1 hp1=>?_⟩⟩
  have t0:0≤c%(lo+w - lo+1):=Int.emod_nonneg _ (by omega)
  have t1:c%(lo+w - lo+1)≤lo+w - lo:=by have:=Int.emod_lt_of_pos c (show 0<lo+w - lo+1 by omega);omega
  exact q p1 _ _ _ _ ((Yb.upd_new hp _).trans (.upd_new hp1 _)) ⟨.who t0 t1,_,_,Wi ((Yb.upd_new hp _).free hp1) Yc,.int _,⟨p,rfl⟩,.tup (Wi hp ((Yb.upd_new hp1 _) _ _ Yc)) (by simp) (.cons (.int _) (.cons (.int _) .nil))⟩
 ·cases hv with
  | @text a signs ha hn =>
  walk_at "rd"
  refine ⟨_,ha,_,YK _ _,?_⟩
  walk_at "rd"
  refine Ym (by decide) ⟨_,ha,_,YK _ _,rfl,XT rfl ?_⟩
  have hL:0<(sg4 j st).length:=by rw [Vf hst];split<;>omega
  have h6:10000<sizeLine:=by decide
  obtain ⟨n,hn4,en⟩:∃ n:Nat,n<4∧c%4=(n:Int):=⟨(c%4).toNat,by omega,by omega⟩
  obtain ⟨ps,hps⟩:∃ ps:List Nat,ps=(List.range n).map fun k:Nat=>(c / (5*(k:Int)+4)%((sg4 j st).length:Int)).toNat:=⟨_,rfl⟩
  have hpl:ps.length=n:=by rw [hps];simp
  have hpa:∀ (i:Nat),i<n→ps[i]?=some (c / (5*(i:Int)+4)%((sg4 j st).length:Int)).toNat:=fun i hi=>by
   rw [hps,List.getElem?_map,List.getElem?_range hi];rfl
  have hpm:∀ p∈ps,p<(sg4 j st).length:=fun p hp=>by
   rw [hps] at hp
   obtain ⟨k,_,rfl⟩:=List.mem_map.mp hp
   have:=Int.emod_lt_of_pos (c / (5*(k:Int)+4)) (show (0:Int)<((sg4 j st).length:Int) by omega)
   have:=Int.emod_nonneg (c / (5*(k:Int)+4)) (show ((sg4 j st).length:Int)≠0 by omega)
   omega
  refine VB (n:=n) (ps.map fun p:Nat=>V.int (p:Int)) (fun R r=>by walk_at "rd";rw [en];exact ⟨by decide,r⟩) (by simp [hpl]) (by omega) ?_ ?_
  ·intro i y H' hi hy sm R r
   rw [List.getElem?_map,hpa i hi] at hy
   have:V.int _=y:=Option.some.inj hy
   subst this
   walk_at "rd"
   refine ⟨.inl (cm (m:=3) (n:=3) (by decide) (by omega)),⟨by omega,Nat.lt_of_lt_of_le (show _<2^10 by omega) (Nat.pow_le_pow_right (by decide) (by decide))⟩,_,sm.tup ha,_,YH _ _,_,rfl,by rw [Wg];omega,by rw [Wg];omega,?_⟩
   rw [Wg]
   have:=r H' (.refl H')
   rw [Int.toNat_of_nonneg (Int.emod_nonneg _ (by omega))] at this
   exact this
  intro D1 H1 hD1 u1 hd1
  refine ⟨rfl,?_⟩
  refine W2 (K:=g.K) (xs:=ps.map fun p:Nat=>V.int (p:Int)) ((ps.map fun p=>S [(sg4 j st).getD p 0]).map V.str) (fun R r=>by walk_at "rd";exact r D1 H1 (.refl _) (SqL.of hd1)) (by simp) (by simp;omega) ?_ ?_
  ·intro i x y H' hx hy sm R r
   rw [List.getElem?_map] at hx hy
   rw [List.getElem?_map] at hy
   obtain ⟨p,hp,rfl⟩:=Option.map_eq_some_iff.mp hx
   rw [hp] at hy
   have:V.str (S [(sg4 j st).getD p 0])=y:=Option.some.inj hy
   subst this
   walk_at "rd"
   refine ⟨_,(u1.trans sm).tup ha,_,YH _ _,S (sg4 j st),_,(sg4 j st).getD p 0,rfl,rfl,by rw [Wg];omega,?_,r H' (.refl H')⟩
   rw [Xt]
   refine XS ?_
   rw [List.getD_eq_getElem?_getD,List.getElem?_eq_getElem (hpm p (List.mem_of_getElem? hp))]
   rfl
  intro D2 H2 hD2 u2 hd2
  refine ⟨_,D2,ps.map fun p=>S [(sg4 j st).getD p 0],rfl,rfl,SqL.of hd2,?_,?_⟩
  ·rw [QK (fun p=>(sg4 j st).getD p 0),show (Str.ofString "").length=0 from by decide,Nat.mul_zero]
   omega
  ·have ej:Txt.join (Str.ofString "") (ps.map fun p=>S [(sg4 j st).getD p 0])=S (ps.map fun p=>(sg4 j st).getD p 0):=by
    have h1:=Yd1 [] ((ps.map fun p=>(sg4 j st).getD p 0).map fun c=>[c])
    rw [UI,List.map_map,List.map_map] at h1
    exact h1
   rw [ej]
   refine ⟨D1,rfl,_,.inl (SqL.of (u2 _ _ hd1)),few (by decide),fun p hp=>⟨few (by decide),fun p1 hp1=>?_⟩⟩
   rw [List.length_map] at hp1 ⊢
   have n1:=Yb.upd_new hp (.tup [V.int (ps.length:Int),V.ref D1])
   have n2:=Yb.upd_new hp1 (.tup [V.str (S (ps.map fun p=>(sg4 j st).getD p 0)),V.ref p])
   refine q p1 _ _ _ _ ((u1.trans u2).trans (n1.trans n2)) ⟨.txt hst hpm (by omega),_,_,Wi (((u1.trans u2).trans n1).free hp1) Yc,.str _ (Yeo fun c hc=>?_) (by rw [List.length_map];omega),⟨p,rfl⟩,.tup (Wi ((u1.trans u2).free hp) (n2 _ _ Yc)) (by simp) (.cons (.int _) (.cons (.lst (Wi hD1 ((u2.trans (n1.trans n2)) _ _ hd1)) (by rw [List.length_map];omega) (QJ _ ps)) .nil))⟩
   obtain ⟨p',hp',rfl⟩:=List.mem_map.mp hc
   refine Yep (j:=j) (st:=st) _ ?_
   rw [List.getD_eq_getElem?_getD,List.getElem?_eq_getElem (hpm p' hp')]
   exact List.getElem_mem _
 ·cases hv with
  | @row a b vs ps ha hb hs hn =>
  cases hs with
  | @cons v1 _ vs1 _ s1 hs =>
  cases hs with
  | @cons v2 _ vs2 _ s2 hs =>
  cases hs with
  | nil =>
  walk_at "rd"
  refine ⟨_,ha,_,YK _ _,?_⟩
  walk_at "rd"
  refine Ym (by decide) ⟨_,ha,_,YK _ _,rfl,Ym (by decide) ?_⟩
  have hm1:1≤m:=by omega
  refine ⟨_,ha,_,YH _ _,b,rfl,_,hb,_,YK _ _,⟨by decide,by decide⟩,v1,sa,_,rfl,s1,.inl ⟨.inl fa,hm1⟩,fun t1 d1 k1 g1 H1 u1 pg1=>?_⟩
  obtain ⟨tg1,x1,y1,ht1,hx1,⟨y1a,rfl⟩,hy1⟩:=pg1
  refine ⟨_,u1.tup ha,_,YH _ _,b,rfl,_,u1.tup hb,_,YH _ _,⟨by decide,by decide⟩,v2,sb,_,rfl,s2.keep u1,.inl ⟨.inr fb,hm1⟩,fun t2 d2 k2 g2 H2 u2 pg2=>?_⟩
  obtain ⟨tg2,x2,y2,ht2,hx2,⟨y2a,rfl⟩,hy2⟩:=pg2
  obtain ⟨r1,hr1⟩:=Vt hy1
  obtain ⟨r2,hr2⟩:=Vt hy2
  have ht1':=u2 _ _ (Vg _ _ ht1)
  have hr1':=u2 _ _ (Vg _ _ hr1)
  have ht2:=Vg _ _ ht2
  have hr2:=Vg _ _ hr2
  refine ⟨t1,rfl,_,SqT.of ht1',_,YK _ _,t2,rfl,_,SqT.of ht2,_,YK _ _,few (by decide),fun p hp=>?_⟩
  have n1:=Yb.upd_new hp (.tup [x1,x2])
  refine ⟨t1,rfl,_,SqT.of (n1 _ _ ht1'),_,YH _ _,y1a,rfl,_,SqT.of (n1 _ _ hr1'),_,Y4 _ _,t2,rfl,_,SqT.of (n1 _ _ ht2),_,YH _ _,y2a,rfl,_,SqT.of (n1 _ _ hr2),_,Y4 _ _,_,rfl,_,rfl,t1,rfl,_,SqT.of (n1 _ _ ht1'),_,YH _ _,t2,rfl,_,SqT.of (n1 _ _ ht2),_,YH _ _,few (by decide),fun p6 g6=>⟨few (by decide),fun p7 g7=>?_⟩⟩
  have n2:=Yb.upd_new g6 (.tup [.int (g1.1+g2.1),.ref y1a,.ref y2a])
  have n3:=Yb.upd_new g7 (.tup [.ref p,.ref p6])
  have nA:=(n1.trans n2).trans n3
  have uu:=u1.trans u2
  have k1:=Yay (.refl H) (u2.trans nA)
  have k2:=Yay u1 nA
  exact q p7 _ _ _ _ (uu.trans nA) ⟨.row tg1 tg2,_,_,Wi ((uu.trans (n1.trans n2)).free g7) Yc,.tup (Wi (uu.free hp) (n3 _ _ (n2 _ _ Yc))) (by simp) (.cons (hx1.keep k1) (.cons (hx2.keep k2) .nil)),⟨p6,rfl⟩,.tup (Wi ((uu.trans n1).free g6) (n3 _ _ Yc)) (by simp) (.cons (.int _) (.cons (hy1.keep k1) (.cons (hy2.keep k2) .nil)))⟩
def Yaz (K:PySem.W.Frag):Sp:=fun vs H Q _=>∃ (bk:Bk) (b x v:V) (sh:Sh) (d:PyData),vs=[b,x,v]∧Wx K H b bk∧ShAt K H x sh∧Enf bk LV sh d∧Vd H v d∧∀ H',Yb H H'→Q (.bl (ky bk LV sh d).isSome) H'
theorem YdK {k:Nat}  {c_law_lists P_law_lists:Addr} (R:g.Raw "fits" "fits" Qv ["book","shape","value"]) (ZG:g.Fn k "weighed" ["book","shape","value"] (Zt g.K LV)):g.Fn (k+1) "fits" ["book","shape","value"] (Yaz g.K):=by
 refine R.fn YdG (fun vs H Q E h=>by obtain ⟨bk,b,x,v,sh,d,rfl,hbk,hx,hft,hv,q⟩:=h;rfl) fun f_ cdv A outer s H vs Q E hr h=>?_
 obtain ⟨bk,b,x,v,sh,d,rfl,hbk,hx,hft,hv,q⟩:=h
 refine ⟨_,(@Yg _ _ _ (@Yk _ _ _ _ (@Y6 _ _ _ _ _ _ _ _ Yaf (@Yz _ _ _ _ _ _ _ _ _ _ _ _ ZG hr (@Ya _ _ _ _ _ (pv 0) (@Ya _ _ _ _ _ (pv 1) (@Ya _ _ _ _ _ (pv 2) Yd (by rfl)) (by rfl)) (by rfl)) (by omega) (by rfl) (by rfl) (by decide) (by rfl) (by rfl)) Xz (Yo _)))),?_⟩
 walk_at "rd"
 refine ⟨bk,b,x,v,sh,d,rfl,by decide,hbk,hx,hft,hv,fun n hn p H' s' hp=>?_,fun hn H' s'=>?_⟩
 ·have:=q H' s'
  rw [hn] at this
  exact this
 ·have:=q H' s'
  rw [hn] at this
  exact this
def Z15 (K:PySem.W.Frag):Sp:=fun vs H Q _=>∃ (bk:Bk) (b x v:V) (sh:Sh) (d:PyData) (k:Ky),vs=[b,x,v]∧Wx K H b bk∧ShAt K H x sh∧Enf bk LV sh d∧Vd H v d∧ky bk LV sh d=some k∧∀ H',Yb H H'→Q (.int (k.1:Nat)) H'
theorem Ya4 {k:Nat}  {c_law_lists P_law_lists:Addr} (R:g.Raw "size_of" "size_of" Z0z ["book","shape","value"]) (Z0X:g.Fn k "key_or_refusal" ["book","shape","value"] (ZM g.K)):g.Fn (k+1) "size_of" ["book","shape","value"] (Z15 g.K):=by
 refine R.fn Ya0 (fun vs H Q E h=>by obtain ⟨bk,b,x,v,sh,d,k,rfl,hbk,hx,hft,hv,hk,q⟩:=h;rfl) fun f_ cdv A outer s H vs Q E hr h=>?_
 obtain ⟨bk,b,x,v,sh,d,k,rfl,hbk,hx,hft,hv,hk,q⟩:=h
 refine ⟨_,(@Yg _ _ _ (@Yk _ _ _ _ (@Yj _ _ _ _ _ _ _ Yl (@Yz _ _ _ _ _ _ _ _ _ _ _ _ Z0X hr (@Ya _ _ _ _ _ (pv 0) (@Ya _ _ _ _ _ (pv 1) (@Ya _ _ _ _ _ (pv 2) Yd (by rfl)) (by rfl)) (by rfl)) (by omega) (by rfl) (by rfl) (by decide) (by rfl) (by rfl)) Ye (fun _ _=>rfl)))),?_⟩
 walk_at "rd"
 refine ⟨bk,b,x,v,sh,d,k,rfl,hbk,hx,hft,hv,hk,fun p H' s' hp=>?_⟩
 obtain ⟨a,r,e,ha⟩:=X2 hp
 cases e
 exact ⟨p,rfl,_,SqT.of ha,_,Y4 _ _,q H' s'⟩
def Prs (H:Hp) (sh:Sh) (ts:List Addr) (ds:List PyData) (ks:List Ky) (gs:List (Int×List PyData)):Prop:=ds.length=ts.length∧ks.length=ts.length∧gs.length=ts.length∧∀ (i:Nat) t d k g,ts[i]?=some t→ds[i]?=some d→ks[i]?=some k→gs[i]?=some g→PG H sh t d k g
def GdR (m:Int) (R:Ky→Ky→Prop):Prop:=(m=0∧R=fun a b=>¬ KLt (kt b) (kt a))∨(m = -1∧R=fun a b=>KLt (kt a) (kt b))
def Z0G (K:PySem.W.Frag):Sp:=fun vs H Q _=>∃ (a:Addr) (sh:Sh) (ts:List Addr) (ds:List PyData) (ks:List Ky) (gs:List (Int×List PyData)) (m:Int) (R:Ky→Ky→Prop),vs=[.ref a,.int m]∧H a=some (.lst (ts.map V.ref))∧ts.length≤63∧Prs H sh ts ds ks gs∧(∀ g∈gs,(gr g).depth≤64)∧GdR m R∧∀ H',Yb H H'→Q (.bl (@decide (Adj R ks) (Classical.propDecidable _))) H'
theorem Yaa  {c_law_lists P_law_lists:Addr} (R:g.Raw "_law_good" "_law_good" Z0k ["_law_pairs","_law_most"]) (b_int:g.mg "int"=none) (b_zip:g.mg "zip"=none):g.Fn (1) "_law_good" ["_law_pairs","_law_most"] (Z0G g.K):=by
 refine R.fn Z05 (fun vs H Q E h=>by obtain ⟨a,sh,ts,ds,ks,gs,m,R,rfl,ha,hl,⟨l1,l2,l3,hp⟩,hdp,hR,q⟩:=h;rfl) fun f_ cdv A outer s H vs Q E hr h=>?_
 obtain ⟨a,sh,ts,ds,ks,gs,m,R,rfl,ha,hl,⟨l1,l2,l3,hp⟩,hdp,hR,q⟩:=h
 refine ⟨_,(@Yf _ _ _ _ _ (@X7 _ _ _ _ _ _ _ _ PassesOwn.never rfl (@VS _ _ _ _ _ _ _ _ _ rfl b_zip (@Ya _ _ _ _ _ (@Y3 _ _ _ _ _ _ _ _ _ _ Y9 (pv 0) Xo (@YX _ _ _ (@Wf _ _ _ _ _ _ XE Ye))) (@Ya _ _ _ _ _ (@Y3 _ _ _ _ _ _ _ _ _ _ Y9 (pv 0) (@YX _ _ _ Ye) Xo) Yd (by rfl)) (by rfl)) (by rfl) (by rfl)) (@X6 _ _ _ _ _ (2) rfl (@YO _ _ _ _ _ (@Yu _ _ (2) _ Z05.nd rfl (.inl rfl) (by first | exact .inl rfl | exact .inr rfl | assumption)) (@YO _ _ _ _ _ (@Yu _ _ (3) _ Z05.nd rfl (.inl rfl) (by first | exact .inl rfl | exact .inr rfl | assumption)) Xx (by rfl)) (by rfl)) (by rfl) (by rfl)) (@Yg _ _ _ (@YC _ _ _ _ _ _ _ _ (@Yp _ _ _ _ _ _ _ _ op_gt (@Yt _ _ _ _ _ _ _ _ WX (@WJ _ _ _ _ _ _ _ _ _ _ b_int Uf (@Ya _ _ _ _ _ (@Y6 _ _ _ _ _ _ _ _ (Yeg hr.units66 (K:=g.K)) (@Yj _ _ _ _ _ _ _ Yl (pv 2) Ye (fun _ _=>rfl)) (@Yj _ _ _ _ _ _ _ Yl (pv 3) Ye (fun _ _=>rfl)) (Yo _)) Yd (by rfl)) (by decide +kernel) (by rfl) (by rfl) (by decide) (by decide) (by rfl) (by rfl)) (@WJ _ _ _ _ _ _ _ _ _ _ b_int Uf (@Ya _ _ _ _ _ (@Y6 _ _ _ _ _ _ _ _ (Yef hr.units66 (K:=g.K)) (@Yj _ _ _ _ _ _ _ Yl (pv 2) Ye (fun _ _=>rfl)) (@Yj _ _ _ _ _ _ _ Yl (pv 3) Ye (fun _ _=>rfl)) (Yo _)) Yd (by rfl)) (by decide +kernel) (by rfl) (by rfl) (by decide) (by decide) (by rfl) (by rfl))) (pv 1) (Yo _)) (@Yg _ _ _ (@Yk _ _ _ _ X5)) Yq)) (by intro _;rfl)) (@Yg _ _ _ (@Yk _ _ _ _ X5))),?_⟩
 walk_at "rd"
 refine YbA (K:=g.K) 2 3 (xs:=(ts.map V.ref).take (ts.length - 1)) (ys:=(ts.map V.ref).drop 1) (fun a' b' n σ H'=>Yb H H'∧SqL g.K H' a' ((ts.map V.ref).take (ts.length - 1))∧SqL g.K H' b' ((ts.map V.ref).drop 1)∧(∀ (i:Nat) x y,i<n→ks[i]?=some x→ks[i+1]?=some y→R x y)∧∃ o o',σ=[some (.ref a),some (.int m),o,o']) (fun R' r=>?_) (fun a' b' n σ H' _ h=>⟨h.2.1,h.2.2.1⟩) ?_ ?_
 ·walk_at "rd"
  refine ⟨_,SqL.of ha,fun p hp=>⟨_,SqL.of ((Yb.upd_new hp _) _ _ ha),fun p1 hp1=>?_⟩⟩
  have e1:YB (ts.map V.ref) none (some (-1))=(ts.map V.ref).take (ts.length - 1):=by rw [Ybz,List.length_map]
  have e2:YB (ts.map V.ref) (some 1) none=(ts.map V.ref).drop 1:=VU _ 1
  refine r p p1 _ ⟨(Yb.upd_new hp _).trans (.upd_new hp1 _),SqL.of ?_,SqL.of ?_,fun i x y h=>absurd h (by omega),_,_,rfl⟩
  ·rw [← e1];exact (Yb.upd_new hp1 _) _ _ Yc
  ·rw [← e2];exact Yc
 ·rintro a' b' n u w σ H' T hu hw ⟨sm,hA,hB,hadj,o,o',rfl⟩ hT
  have hn2:=(List.getElem?_eq_some_iff.mp hw).1
  rw [List.length_drop,List.length_map] at hn2
  rw [List.getElem?_take_of_lt (by omega),List.getElem?_map] at hu
  rw [List.getElem?_drop,List.getElem?_map,Nat.add_comm] at hw
  obtain ⟨t1,ht1,rfl⟩:=Option.map_eq_some_iff.mp hu
  obtain ⟨t2,ht2,rfl⟩:=Option.map_eq_some_iff.mp hw
  have at1:∀ {α:Type} (l:List α) (h:l.length=ts.length) (i:Nat),i<ts.length→∃ x,l[i]?=some x:=fun l h i hi=>⟨_,List.getElem?_eq_getElem (by omega)⟩
  obtain ⟨d1,hd1⟩:=at1 ds l1 n (by omega)
  obtain ⟨d2,hd2⟩:=at1 ds l1 (n+1) (by omega)
  obtain ⟨k1,hk1⟩:=at1 ks l2 n (by omega)
  obtain ⟨k2,hk2⟩:=at1 ks l2 (n+1) (by omega)
  obtain ⟨g1,hg1⟩:=at1 gs l3 n (by omega)
  obtain ⟨g2,hg2⟩:=at1 gs l3 (n+1) (by omega)
  obtain ⟨tg1,x1,y1,e1,_,_,w1⟩:=hp n t1 d1 k1 g1 ht1 hd1 hk1 hg1
  obtain ⟨tg2,x2,y2,e2,_,_,w2⟩:=hp (n+1) t2 d2 k2 g2 ht2 hd2 hk2 hg2
  have s7:=sm.trans (Yb.upd_new hT (.tup [V.ref t1,V.ref t2]))
  have q1:SqT g.K (upd H' T (.tup [V.ref t1,V.ref t2])) t1 [x1,y1]:=SqT.of (s7 _ _ e1)
  have q2:SqT g.K (upd H' T (.tup [V.ref t1,V.ref t2])) t2 [x2,y2]:=SqT.of (s7 _ _ e2)
  have v1:=(w1.keep s7).den (K:=g.K)
  have v2:=(w2.keep s7).den (K:=g.K)
  have dp:=hdp g1 (List.mem_of_getElem? hg1)
  obtain ⟨bg,cg,og⟩:=(tg1.sim tg2).answer true tg1.gd tg2.gd
  obtain ⟨bl,cl,ol⟩:=(tg1.sim tg2).answer false tg1.gd tg2.gd
  walk_at "rd"
  refine ⟨_,q1,_,YH _ _,_,q2,_,YH _ _,_,v1,_,v2,_,cg,dp,.inr ⟨_,q1,_,YH _ _,_,q2,_,YH _ _,_,v1,_,v2,_,cl,dp,.inr ?_⟩⟩
  have b1:bg=true↔KLt (kt k2) (kt k1):=og.trans (tg2.order tg1).1.symm
  have b2:bl=true↔KLt (kt k1) (kt k2):=ol.trans (tg1.order tg2).1.symm
  have nb:¬ (bg=true∧bl=true):=fun ⟨h1,h2⟩=>((b1.mp h1).trans (b2.mp h2)).irr rfl
  have key:¬ R k1 k2↔m<(if bg=true then (1:Int) else 0) - (if bl=true then 1 else 0):=by
   rcases hR with ⟨rfl,rfl⟩ | ⟨rfl,rfl⟩
   ·show ¬ ¬ KLt (kt k2) (kt k1)↔_
    rw [← b1]
    clear b1 b2 og ol cg cl
    revert nb
    cases bg<;>cases bl<;>simp
   ·show ¬ KLt (kt k1) (kt k2)↔_
    rw [← b2]
    clear b1 b2 og ol cg cl
    revert nb
    cases bg<;>cases bl<;>simp
  refine Wn (fun z=>?_) fun z=>?_
  ·have nr:=key.mpr z
   have:=q _ s7
   rw [@decide_eq_false _ (Classical.propDecidable _) (fun h=>nr (V2.mp h n k1 k2 hk1 hk2))] at this
   exact this
  ·refine ⟨s7,(Yb.upd_new hT _).seq hA,(Yb.upd_new hT _).seq hB,fun i x y hi h1 h2=>?_⟩
   by_cases c:i<n
   ·exact hadj i x y c h1 h2
   ·have:i=n:=by omega
    subst this
    rw [hk1] at h1
    rw [hk2] at h2
    cases h1
    cases h2
    exact Classical.not_not.mp fun nr=>z (key.mp nr)
 ·rintro a' b' σ H' ⟨sm,hA,hB,hadj,o,o',rfl⟩
  walk_at "rd"
  have:=q H' sm
  rw [@decide_eq_true _ (Classical.propDecidable _) (V2.mpr fun i x y h1 h2=>hadj i x y ?_ h1 h2)] at this
  ·exact this
  ·have:=(List.getElem?_eq_some_iff.mp h2).1
   rw [List.length_take,List.length_drop,List.length_map]
   omega
theorem WR {src:List (Option Nat)} {te:TE} {σ:St} {H:Hp} {Q:VK} {K:PySem.W.Frag} {tl:TE} {b:Addr} {xs:List V} (ps:List (V×V)) (ys:List V) (ha:∀ R:V→Hp→Prop,R (.ref b) H→tl σ H R) (hS:SqL K H b xs) (hp:∀ (i:Nat) x p,xs[i]?=some x→ps[i]?=some p→∃ T,x = .ref T∧SqT K H T [p.1,p.2]) (hl:ps.length=xs.length) (hl2:ys.length=xs.length) (hlen:xs.length≤100000)
  (step:∀ (i:Nat) p y H',ps[i]?=some p→ys[i]?=some y→Yb H H'→∀ R:VK,(∀ H'',Yb H' H''→R y H'')→te (some p.1::some p.2::Yw src σ) H' R)
  (fin:∀ D H',H D=none→Yb H H'→H' D=some (.lst ys)→Q (.ref D) H'):tLC (none::none::src) (Ws K tl) (XR K 2 (YU (Ys 0) (YU (Ys 1) XQ))) Xs te σ H Q:=by
 refine ha _ ⟨b,rfl,⟨xs,hS⟩,fun D hD=>?_⟩
 have h6:100000<sizeLine:=by decide
 refine UR (XL.imp fun H' (e:Yb H H')=>e.seq hS) (fun i zs σ' H'=>zs=ys.take i∧(∃ o o',σ'=o::o'::Yw src σ)∧Yb H H'∧H' D=some (.lst zs)) ⟨by simp,⟨none,none,rfl⟩,.upd_new hD _,Yc⟩ (fun i zs σ' H' p=>⟨p.2.2.1,p.2.2.2⟩) (Vi K 0 1) ?_ ?_
 ·rintro i zs σ' H' x hx ⟨rfl,⟨o,o',rfl⟩,sm,hd⟩
  have hi:=(List.getElem?_eq_some_iff.mp hx).1
  have hy:ys[i]?=some (ys[i]'(by omega)):=List.getElem?_eq_getElem _
  have hpi:ps[i]?=some (ps[i]'(by omega)):=List.getElem?_eq_getElem _
  obtain ⟨T,rfl,hT⟩:=hp i x _ hx hpi
  refine ⟨T,_,rfl,sm.tup hT,rfl,_,_,rfl,_,_,rfl,rfl,?_⟩
  refine step i _ _ H' hpi hy sm _ fun H'' s2=>⟨s2 _ _ hd,?_,(Y5 hy).symm,⟨_,_,rfl⟩,.upd_over hD (sm.trans s2) _,Yc⟩
  rw [List.length_take];omega
 ·rintro zs σ' H' ⟨rfl,_,sm,hd⟩
  rw [← hl2,List.take_length] at hd
  exact fin D H' hD sm hd
def We {α:Type} (p:α→Bool) (xs:List V) (ps:List α):List V:=((xs.zip ps).filter fun z=>p z.2).map (·.1)
theorem Yb4 {α:Type} {src:List (Option Nat)} {te:TE} {σ:St} {H:Hp} {Q:VK} {K:PySem.W.Frag} {tl:TE} {tt:TT} {xs:List V} {ps:List α} (hxp:xs.length=ps.length) (p:α→Bool) (ha:∀ R:V→Hp→Prop,(∀ a H1,Yb H H1→SqL K H1 a xs→R (.ref a) H1)→tl σ H R) (hlen:xs.length≤100000)
  (test:∀ (i:Nat) x q H',xs[i]?=some x→ps[i]?=some q→Yb H H'→∀ R:Bool→Hp→Prop,(∀ H'',Yb H' H''→R (p q) H'')→tt (some x::Yw src σ) H' R)
  (step:∀ (i:Nat) x q H',xs[i]?=some x→ps[i]?=some q→Yb H H'→∀ R:VK,(∀ H'',Yb H' H''→R x H'')→te (some x::Yw src σ) H' R)
  (fin:∀ D H',H D=none→Yb H H'→H' D=some (.lst (We p xs ps))→Q (.ref D) H'):tLC (none::src) (Ws K tl) (Ys 0) tt te σ H Q:=by
 refine ha _ fun a H1 s1 hS=>⟨a,rfl,⟨xs,hS⟩,fun D hD=>?_⟩
 have h6:100000<sizeLine:=by decide
 have take1:∀ i x q,xs[i]?=some x→ps[i]?=some q→We p (xs.take (i+1)) (ps.take (i+1))=We p (xs.take i) (ps.take i)++(if p q=true then [x] else []):=fun i x q hx hq=>by
  have hi:=(List.getElem?_eq_some_iff.mp hx).1
  unfold We
  rw [Y5 hx,Y5 hq,List.zip_append (by rw [List.length_take,List.length_take];omega),List.filter_append,List.map_append]
  by_cases c:p q=true
  ·simp [c]
  ·simp [c]
 refine YcZ (XL.imp fun H' (e:Yb H1 H')=>e.seq hS) (fun i zs σ' H'=>zs=We p (xs.take i) (ps.take i)∧(∃ o,σ'=o::Yw src σ)∧Yb H1 H'∧H' D=some (.lst zs)) ⟨by simp [We],⟨none,rfl⟩,.upd_new hD _,Yc⟩ (fun i zs σ' H' q=>⟨q.2.2.1,q.2.2.2⟩) ?_ ?_
 ·rintro i zs σ' H' x hx ⟨rfl,⟨o,rfl⟩,sm,hd⟩
  have hi:=(List.getElem?_eq_some_iff.mp hx).1
  have hq:ps[i]?=some (ps[i]'(by omega)):=List.getElem?_eq_getElem _
  generalize ps[i]'(by omega)=qq at hq
  have ht:=take1 i x qq hx hq
  show tt (some x::Yw src σ) H' _
  refine test i x qq H' hx hq (s1.trans sm) _ fun H2 s2=>?_
  cases e:p qq with
  | true =>
   refine WG ?_
   rw [if_pos e] at ht
   refine step i x qq H2 hx hq ((s1.trans sm).trans s2) _ fun H3 s3=>⟨s3 _ _ (s2 _ _ hd),?_,ht.symm,⟨_,rfl⟩,.upd_over hD ((sm.trans s2).trans s3) _,Yc⟩
   unfold We
   rw [List.length_map]
   refine Nat.lt_of_le_of_lt (List.length_filter_le _ _) ?_
   rw [List.length_zip,List.length_take,List.length_take]
   omega
  | false =>
   refine Ww ?_
   rw [if_neg (by rw [e];simp),List.append_nil] at ht
   exact ⟨ht.symm,⟨_,rfl⟩,sm.trans s2,s2 _ _ hd⟩
 ·rintro zs σ' H' ⟨rfl,_,sm,hd⟩
  rw [List.take_length,List.take_of_length_le (by omega)] at hd
  exact fin D H' (s1.free hD) (s1.trans sm) hd
theorem Ub (ds:List PyData):PyData.eqv (.list ds) (.list [])=ds.isEmpty:=by rw [PyData.eqv];cases ds<;>simp [PyData.eqvAll]
theorem Uc {K:PySem.W.Frag} {H:Hp} {n:Nat}:∀ {vs:List V},(∀ v∈vs,∃ d,Den K H v d∧d.depth≤n)→∃ ds,Dens K H vs ds∧PyData.depthAll ds≤n∧ds.length=vs.length
 | [],_=>⟨[],.nil,by simp [PyData.depthAll],rfl⟩
 | v::vs,h=>by
  obtain ⟨d,h1,h2⟩:=h v (.head _)
  obtain ⟨ds,g1,g2,g3⟩:=Uc fun v hv=>h v (.tail _ hv)
  exact ⟨d::ds,.cons h1 g1,by rw [PyData.depthAll];omega,by simp [g3]⟩
theorem YdL {α:Type} {p:α→Bool} {xs:List V} {ps:List α} {v:V} (h:v∈We p xs ps):v∈xs:=by
 unfold We at h
 obtain ⟨z,hz,rfl⟩:=List.mem_map.mp h
 exact (List.of_mem_zip (List.mem_filter.mp hz).1).1
theorem YdM {α:Type} {p:α→Bool} {xs:List V} {ps:List α} (hl:xs.length=ps.length):We p xs ps=[]↔∀ k∈ps,p k=false:=by
 unfold We
 rw [List.map_eq_nil_iff,List.filter_eq_nil_iff]
 refine ⟨fun h k hk=>?_,fun h z hz=>?_⟩
 ·obtain ⟨i,hi⟩:=List.mem_iff_getElem?.mp hk
  have hi':=(List.getElem?_eq_some_iff.mp hi).1
  have hx:xs[i]?=some (xs[i]'(by omega)):=List.getElem?_eq_getElem _
  have:=h (_,k) (List.mem_of_getElem? ((List.getElem?_zip_eq_some (z:=(_,k))).mpr ⟨hx,hi⟩))
  simpa using this
 ·have:=h z.2 (List.of_mem_zip hz).2
  simp [this]
def Ya5 (ds:List PyData) (gs:List (Int×List PyData)):Prop:=(∀ d∈ds,d.depth≤20)∧∀ g∈gs,(gr g).depth≤20
def Z0u (K:PySem.W.Frag):Sp:=fun vs H Q _=>∃ (a:Addr) (sh:Sh) (ts:List Addr) (ds:List PyData) (ks:List Ky) (gs:List (Int×List PyData)) (n:Nat),vs=[.ref a,.int n]∧H a=some (.lst (ts.map V.ref))∧ts.length≤63∧Prs H sh ts ds ks gs∧Ya5 ds gs∧∀ H',Yb H H'→Q (.bl (@decide (ts.length=n∧∀ k∈ks,ks.head?=some k) (Classical.propDecidable _))) H'
theorem QL  {c_law_lists P_law_lists:Addr} (R:g.Raw "_law_alike" "_law_alike" Z06 ["_law_pairs","_law_times"]) (b_len:g.mg "len"=none):g.Fn (1) "_law_alike" ["_law_pairs","_law_times"] (Z0u g.K):=by
 refine R.fn Qx (fun vs H Q E h=>by obtain ⟨a,sh,ts,ds,ks,gs,n,rfl,ha,hl,⟨l1,l2,l3,hp⟩,⟨hd1,hd2⟩,q⟩:=h;rfl) fun f_ cdv A outer s H vs Q E hr h=>?_
 obtain ⟨a,sh,ts,ds,ks,gs,n,rfl,ha,hl,⟨l1,l2,l3,hp⟩,⟨hd1,hd2⟩,q⟩:=h
 refine ⟨_,(@Yg _ _ _ (@Yk _ _ _ _ (@XD _ _ _ _ _ _ _ (@Y6 _ _ _ _ _ _ _ _ YQ (@YF _ _ _ _ _ _ _ _ _ _ b_len YN (@Ya _ _ _ _ _ (pv 0) Yd (by rfl)) (by decide +kernel) (by rfl) (by rfl) (by decide) (by decide) (by rfl) (by rfl)) (pv 1) (Yo _)) (@XC _ _ _ _ _ (@Y6 _ _ _ _ _ _ _ _ (Qd hr.units) (@XI _ _ _ _ _ _ _ ([none,some 0]) ((["_law_pair","_law_pairs"]:List Str)) _ (Ys 0) _ _ (.own (.cap (i:=0) rfl rfl (by first | exact .inl rfl | exact .inr rfl) .nil)) rfl (@YW _ _ _ _ (pv 0)) (fun cl C s₀ H₀ fp pn=>(@Yu _ _ (0) _ (show List.Nodup (["_law_pair","_law_pairs"]:List Str) by decide +kernel) rfl (.inl rfl) (.inr rfl))) (fun cl C s₀ H₀ fp pn=>(@Ydk _ _ _ (@Yp _ _ _ _ _ _ _ _ (Ydp (K:=g.K) hr.units) (@Yj _ _ _ _ _ _ _ (Xq (K:=g.K)) (pv 0) Ye (fun _ _=>rfl)) (@Yj _ _ _ _ _ _ _ (Xq (K:=g.K)) (@Yj _ _ _ _ _ _ _ (Vp (K:=g.K)) (pv 1) Ye (fun _ _=>rfl)) Ye (fun _ _=>rfl)) (Yo _)))) (fun cl C s₀ H₀ fp pn=>(pv 0)) (by intro x hx;simp at hx;first | (subst hx;exact .inl rfl) | (rcases hx with rfl | rfl<;>exact .inl rfl) | (rcases hx with rfl | rfl | rfl<;>exact .inl rfl) | (rcases hx with rfl | rfl | rfl | rfl<;>exact .inl rfl) | (rcases hx with rfl | rfl | rfl | rfl | rfl<;>exact .inl rfl)) (by rfl) (by decide) (by decide +kernel) (by intro _;rfl)) (@YM _ _ _ _ Yd) (Yo _)))))),?_⟩
 walk_at "rd"
 refine ⟨_,.inl (SqL.of ha),?_⟩
 rw [List.length_map]
 refine Wn (fun c=>?_) (fun c=>?_)
 rotate_left
 ·have:=q H (.refl H)
  rw [@decide_eq_false _ (Classical.propDecidable _) (fun z=>c (by rw [z.1]))] at this
  exact this
 have cn:ts.length=n:=by omega
 have at1:∀ {α:Type} (l:List α) (h:l.length=ts.length) (i:Nat),i<ts.length→∃ x,l[i]?=some x:=fun l h i hi=>⟨_,List.getElem?_eq_getElem (by omega)⟩
 refine Yb4 (K:=g.K) (xs:=ts.map V.ref) (ps:=ks) (by simp [l2]) (fun k => !(@decide (ks.head?=some k) (Classical.propDecidable _))) (fun R r=>by walk_at "rd";exact r a H (.refl _) (SqL.of ha)) (by simp;omega) ?_ ?_ ?_
 ·intro i x k1 H' hx hk sm R r
  rw [List.getElem?_map] at hx
  obtain ⟨t1,ht1,rfl⟩:=Option.map_eq_some_iff.mp hx
  have hi:=(List.getElem?_eq_some_iff.mp ht1).1
  obtain ⟨t0,ht0⟩:=at1 ts rfl 0 (by omega)
  obtain ⟨d1,hd1'⟩:=at1 ds l1 i hi
  obtain ⟨g1,hg1⟩:=at1 gs l3 i hi
  obtain ⟨d0,hd0⟩:=at1 ds l1 0 (by omega)
  obtain ⟨k0,hk0⟩:=at1 ks l2 0 (by omega)
  obtain ⟨g0,hg0⟩:=at1 gs l3 0 (by omega)
  obtain ⟨tg1,x1,y1,e1,_,_,w1⟩:=hp i t1 d1 k1 g1 ht1 hd1' hk hg1
  obtain ⟨tg0,x0,y0,e0,_,_,w0⟩:=hp 0 t0 d0 k0 g0 ht0 hd0 hk0 hg0
  have hh:ks.head?=some k0:=by rw [List.head?_eq_getElem?];exact hk0
  have dp:=hd2 g1 (List.mem_of_getElem? hg1)
  walk_at "rd"
  refine ⟨_,SqT.of (sm _ _ e1),_,YH _ _,_,SqL.of (sm _ _ ha),_,XS (j:=0) (by rw [List.getElem?_map,ht0];rfl),t0,rfl,_,SqT.of (sm _ _ e0),_,YH _ _,_,(w1.keep sm).den,_,(w0.keep sm).den,by omega,?_⟩
  have e:PyData.eqv (gr g1) (gr g0)=@decide (ks.head?=some k1) (Classical.propDecidable _):=by
   refine Bool.eq_iff_iff.mpr ((tg1.gd.eqv tg0.gd).trans ((tg1.order tg0).2.symm.trans (Iff.trans ⟨fun z=>?_,fun z=>?_⟩ (@decide_eq_true_iff _ (Classical.propDecidable _)).symm)))
   ·rw [hh,YbQ z]
   ·rw [hh] at z;cases z;rfl
  rw [e]
  exact r H' (.refl H')
 ·intro i x k1 H' hx hk sm R r
  walk_at "rd"
  exact r H' (.refl H')
 ·intro D H' hD sm hd
  refine ⟨few (by decide),fun p hp0=>?_⟩
  have s2:=Yb.upd_new hp0 (.lst [])
  obtain ⟨es,f1,f2,f3⟩:=Uc (K:=g.K) (H:=upd H' p (.lst [])) (n:=30) (vs:=We (fun k => !(@decide (ks.head?=some k) (Classical.propDecidable _))) (ts.map V.ref) ks) (fun v hv=>by
   obtain ⟨t1,hm,rfl⟩:=List.mem_map.mp (YdL hv)
   obtain ⟨i,ht1⟩:=List.mem_iff_getElem?.mp hm
   have hi:=(List.getElem?_eq_some_iff.mp ht1).1
   obtain ⟨d1,hd1'⟩:=at1 ds l1 i hi
   obtain ⟨k1,hk1⟩:=at1 ks l2 i hi
   obtain ⟨g1,hg1⟩:=at1 gs l3 i hi
   obtain ⟨tg1,x1,y1,e1,v1,_,w1⟩:=hp i t1 d1 k1 g1 ht1 hd1' hk1 hg1
   have:=hd1 d1 (List.mem_of_getElem? hd1')
   have:=hd2 g1 (List.mem_of_getElem? hg1)
   refine ⟨.tuple [d1,gr g1],.tup (SqT.of ((sm.trans s2) _ _ e1)) (.cons (v1.keep (sm.trans s2)).den (.cons (w1.keep (sm.trans s2)).den .nil)),?_⟩
   simp only [PyData.depth,PyData.depthAll] at *
   omega)
  refine ⟨_,.lst (SqL.of (s2 _ _ hd)) f1,_,.lst (SqL.of Yc) .nil,by rw [PyData.depth];omega,?_⟩
  rw [Ub]
  have:=q _ (sm.trans s2)
  have e:es.isEmpty=@decide (ts.length=n∧∀ k∈ks,ks.head?=some k) (Classical.propDecidable _):=by
   refine Bool.eq_iff_iff.mpr (Iff.trans ?_ (@decide_eq_true_iff _ (Classical.propDecidable _)).symm)
   rw [List.isEmpty_iff,← List.length_eq_zero_iff,f3,List.length_eq_zero_iff,YdM (by simp [l2])]
   simp only [Bool.not_eq_false']
   exact ⟨fun z=>⟨cn,fun k hk=>(@decide_eq_true_iff _ (Classical.propDecidable _)).mp (z k hk)⟩,fun z k hk=>(@decide_eq_true_iff _ (Classical.propDecidable _)).mpr (z.2 k hk)⟩
  rw [e]
  exact this
section
 variable {H:Hp} {sh:Sh}
theorem Prs.tail {t:Addr} {ts:List Addr} {d:PyData} {ds:List PyData} {k:Ky} {ks:List Ky} {g:Int×List PyData} {gs:List (Int×List PyData)} (h:Prs H sh (t::ts) (d::ds) (k::ks) (g::gs)):PG H sh t d k g∧Prs H sh ts ds ks gs:=by
 obtain ⟨l1,l2,l3,hp⟩:=h
 exact ⟨hp 0 t d k g rfl rfl rfl rfl,by simpa using l1,by simpa using l2,by simpa using l3,fun i t' d' k' g' h1 h2 h3 h4=>hp (i+1) t' d' k' g' h1 h2 h3 h4⟩
theorem Prs.cons {t:Addr} {ts:List Addr} {d:PyData} {ds:List PyData} {k:Ky} {ks:List Ky} {g:Int×List PyData} {gs:List (Int×List PyData)} (h0:PG H sh t d k g) (h:Prs H sh ts ds ks gs):Prs H sh (t::ts) (d::ds) (k::ks) (g::gs):=by
 obtain ⟨l1,l2,l3,hp⟩:=h
 refine ⟨by simp [l1],by simp [l2],by simp [l3],fun i t' d' k' g' h1 h2 h3 h4=>?_⟩
 cases i with
 | zero=>cases h1;cases h2;cases h3;cases h4;exact h0
 | succ i=>exact hp i t' d' k' g' h1 h2 h3 h4
theorem Prs.ind {motive:List Addr→List PyData→List Ky→List (Int×List PyData)→Prop} (h0:motive [] [] [] []) (h1:∀ t d k g ts ds ks gs,PG H sh t d k g→Prs H sh ts ds ks gs→motive ts ds ks gs→motive (t::ts) (d::ds) (k::ks) (g::gs)):∀ {ts:List Addr} {ds:List PyData} {ks:List Ky} {gs:List (Int×List PyData)},Prs H sh ts ds ks gs→motive ts ds ks gs:=by
 intro ts
 induction ts with
 | nil =>
  rintro ds ks gs ⟨l1,l2,l3,_⟩
  rw [List.length_nil] at l1 l2 l3
  rw [List.length_eq_zero_iff.mp l1,List.length_eq_zero_iff.mp l2,List.length_eq_zero_iff.mp l3]
  exact h0
 | cons t ts ih =>
  intro ds ks gs h
  obtain ⟨l1,l2,l3,_⟩:=id h
  match ds,ks,gs,l1,l2,l3,h with
  | d::ds,k::ks,g::gs,_,_,_,h =>
   obtain ⟨a,b⟩:=h.tail
   exact h1 t d k g ts ds ks gs a b (ih b)
theorem Prs.split {ts:List Addr} {ds:List PyData} {ks:List Ky} {gs:List (Int×List PyData)} (h:Prs H sh ts ds ks gs):∃ ps:List (V×V),ps.length=ts.length∧(∀ (i:Nat) t p,ts[i]?=some t→ps[i]?=some p→H t=some (.tup [p.1,p.2]))∧Vds H (ps.map (·.1)) ds∧(∀ (i:Nat) p g,ps[i]?=some p→gs[i]?=some g→∃ ga r,p.2 = .ref ga∧H ga=some (.tup (.int g.1::r))):=by
 refine Prs.ind (motive:=fun ts ds ks gs=>∃ ps:List (V×V),ps.length=ts.length∧(∀ (i:Nat) t p,ts[i]?=some t→ps[i]?=some p→H t=some (.tup [p.1,p.2]))∧Vds H (ps.map (·.1)) ds∧(∀ (i:Nat) p g,ps[i]?=some p→gs[i]?=some g→∃ ga r,p.2 = .ref ga∧H ga=some (.tup (.int g.1::r)))) ⟨[],rfl,by simp,.nil,by simp⟩ ?_ h
 rintro t d k g ts ds ks gs ⟨_,x,y,e,vx,⟨ga,rfl⟩,vy⟩ _ ⟨ps,p1,p2,p3,p4⟩
 obtain ⟨r,hr⟩:=Vt vy
 refine ⟨(x,.ref ga)::ps,by simp [p1],fun i t' p' h1 h2=>?_,.cons vx p3,fun i p' g' h1 h2=>?_⟩
 ·cases i with
  | zero=>cases h1;cases h2;exact e
  | succ i=>exact p2 i t' p' h1 h2
 ·cases i with
  | zero=>cases h1;cases h2;exact ⟨ga,r,rfl,hr⟩
  | succ i=>exact p4 i p' g' h1 h2
theorem Prs.sum {ts:List Addr} {ds:List PyData} {ks:List Ky} {gs:List (Int×List PyData)} (h:Prs H sh ts ds ks gs):(gs.map fun g=>1+g.1).sum=((ts.length+(ks.map (·.1)).sum:Nat):Int):=by
 refine Prs.ind (motive:=fun ts ds ks gs=>(gs.map fun g=>1+g.1).sum=((ts.length+(ks.map (·.1)).sum:Nat):Int)) rfl ?_ h
 intro t d k g ts ds ks gs hp _ ih
 simp only [List.map_cons,List.sum_cons,List.length_cons,ih,hp.1.size]
 omega
theorem PG.keep {H':Hp} {t:Addr} {d:PyData} {k:Ky} {g:Int×List PyData} (h:PG H sh t d k g) (hk:Kt H H') (hv:∀ {v d},Vd H v d→Vd H' v d):PG H' sh t d k g:=by
 obtain ⟨a,x,y,e,b,c,z⟩:=h
 exact ⟨a,x,y,hk.tup e,hv b,c,hv z⟩
theorem Prs.keep {H':Hp} {ts:List Addr} {ds:List PyData} {ks:List Ky} {gs:List (Int×List PyData)} (h:Prs H sh ts ds ks gs) (s:Yb H H'):Prs H' sh ts ds ks gs :=
 ⟨h.1,h.2.1,h.2.2.1,fun i t d k g h1 h2 h3 h4=>(h.2.2.2 i t d k g h1 h2 h3 h4).keep (Xj s) fun q=>q.keep s⟩
end
theorem Yb5 {K:PySem.W.Frag} {H:Hp} {p:Addr} (h:H p=some (.lst [])):Wx K H (.ref p) []:=⟨p,[],[],rfl,SqL.of h,⟨rfl,rfl,fun j a m v z=>by simp at z⟩,.nil⟩
def Z0c (K:PySem.W.Frag):Sp:=fun vs H Q _=>∃ (x:V) (a:Addr) (sh shp:Sh) (ts:List Addr) (ds:List PyData) (ks:List Ky) (gs:List (Int×List PyData)) (b:Bool),vs=[x,.ref a,.bl b]∧ShAt K H x shp∧H a=some (.lst (ts.map V.ref))∧ts.length≤63∧Prs H sh ts ds ks gs∧Ya5 ds gs∧Enf [] LV shp (.list ds)∧(ky [] LV shp (.list ds)).isSome=b∧(∀ k,ky [] LV shp (.list ds)=some k→k.1=ts.length+(ks.map (·.1)).sum)∧∀ H',Yb H H'→Q (.bl true) H'
theorem UQ {k:Nat}  {c_law_lists P_law_lists:Addr} (R:g.Raw "_law_judged" "_law_judged" ZU ["_law_shape","_law_pairs","_law_good_here"]) (F_fits:g.Fn k "fits" ["book","shape","value"] (Yaz g.K)) (F_size_of:g.Fn k "size_of" ["book","shape","value"] (Z15 g.K)) (F_law_whole:g.Fn k "_law_whole" ["_law_found"] (Z0A)) (b_bool:g.mg "bool"=none) (Z0:g.mg "isinstance"=none) (b_sum:g.mg "sum"=none):g.Fn (k+1) "_law_judged" ["_law_shape","_law_pairs","_law_good_here"] (Z0c g.K):=by
 refine R.fn Zi (fun vs H Q E h=>by obtain ⟨x,a,sh,shp,ts,ds,ks,gs,b,rfl,hx,ha,hl,hp,⟨hd1,hd2⟩,hE,hb,hsz,q⟩:=h;rfl) fun f_ cdv A outer s H vs Q E hr h=>?_
 obtain ⟨x,a,sh,shp,ts,ds,ks,gs,b,rfl,hx,ha,hl,hp,⟨hd1,hd2⟩,hE,hb,hsz,q⟩:=h
 refine ⟨_,(@Yf _ _ _ _ _ (@W9 _ (3) _ _ _ _ _ _ _ _ _ ([none,none]) ((["_law_value","_law_grade"]:List Str)) _ (XR g.K 2 (YU (Ys 0) (YU (Ys 1) XQ))) _ _ Zi.nd rfl (.inl rfl) (.own (.own .nil)) rfl (@YW _ _ _ _ (pv 1)) (fun cl C s₀ H₀ fp pn=>(@X6 _ _ _ _ _ (2) rfl (@YO _ _ _ _ _ (@Yu _ _ (0) _ (show List.Nodup (["_law_value","_law_grade"]:List Str) by decide +kernel) rfl (.inl rfl) (.inr rfl)) (@YO _ _ _ _ _ (@Yu _ _ (1) _ (show List.Nodup (["_law_value","_law_grade"]:List Str) by decide +kernel) rfl (.inl rfl) (.inr rfl)) Xx (by rfl)) (by rfl)) (by rfl) (by rfl))) (fun cl C s₀ H₀ fp pn=>Y2) (fun cl C s₀ H₀ fp pn=>(pv 0)) (by intro x hx;simp at hx) (by rfl) (by decide) (by decide +kernel) (by intro _;rfl) (by rfl) (by first | exact .inl rfl | exact .inr rfl | assumption)) (@Yf _ _ _ _ _ (@YD _ _ (4) _ _ _ _ Zi.nd rfl (.inl rfl) (@Yz _ _ _ _ _ _ _ _ _ _ _ _ F_fits hr (@Ya _ _ _ _ _ (@YM _ _ _ _ Yd) (@Ya _ _ _ _ _ (pv 0) (@Ya _ _ _ _ _ (pv 3) Yd (by rfl)) (by rfl)) (WL _ _ _ _)) (by omega) (by rfl) (by rfl) (by decide) (by rfl) (by rfl)) (by rfl) (by first | exact .inl rfl | exact .inr rfl | assumption)) (@Yf _ _ _ _ _ (@YC _ _ _ _ _ _ _ _ (@W8 _ _ _ _ _ _ _ (@Wl _ _ _ _ (@XB _ _ _ (@YF _ _ _ _ _ _ _ _ _ _ Z0 YS (@Ya _ _ _ _ _ (pv 4) (@Ya _ _ _ _ _ (@XM _ _ _ _ ("bool") b_bool (by decide +kernel) (by rfl) (by rfl) (by decide) (by decide)) Yd (by rfl)) (by rfl)) (by decide +kernel) (by rfl) (by rfl) (by decide) (by decide) (by rfl) (by rfl)) (by intro _;rfl))) (@W8 _ _ _ _ _ _ _ (@Yp _ _ _ _ _ _ _ _ YaG (pv 4) (pv 2) (Yo _)) (@WW _ _ _ _ (@Yp _ _ _ _ _ _ _ _ (VA hr.units) (pv 3) (@XI _ _ _ _ _ _ _ ([none,none]) ((["_law_value","_law_grade"]:List Str)) _ (XR g.K 2 (YU (Ys 0) (YU (Ys 1) XQ))) _ _ (.own (.own .nil)) rfl (@YW _ _ _ _ (pv 1)) (fun cl C s₀ H₀ fp pn=>(@X6 _ _ _ _ _ (2) rfl (@YO _ _ _ _ _ (@Yu _ _ (0) _ (show List.Nodup (["_law_value","_law_grade"]:List Str) by decide +kernel) rfl (.inl rfl) (.inr rfl)) (@YO _ _ _ _ _ (@Yu _ _ (1) _ (show List.Nodup (["_law_value","_law_grade"]:List Str) by decide +kernel) rfl (.inl rfl) (.inr rfl)) Xx (by rfl)) (by rfl)) (by rfl) (by rfl))) (fun cl C s₀ H₀ fp pn=>Y2) (fun cl C s₀ H₀ fp pn=>(pv 0)) (by intro x hx;simp at hx) (by rfl) (by decide) (by decide +kernel) (by intro _;rfl)) (Yo _))))).pt (@Yg _ _ _ (@Yk _ _ _ _ X5)) Yq) (@Yf _ _ _ _ _ (@YC _ _ _ _ _ _ _ _ (@Wl _ _ _ _ (@XB _ _ _ (pv 2) (by intro _;rfl))) (@Yg _ _ _ (@Yk _ _ _ _ X5)) Yq) (@Yf _ _ _ _ _ (@YD _ _ (5) _ _ _ _ Zi.nd rfl (.inl rfl) (@Yz _ _ _ _ _ _ _ _ _ _ _ _ F_size_of hr (@Ya _ _ _ _ _ (@YM _ _ _ _ Yd) (@Ya _ _ _ _ _ (pv 0) (@Ya _ _ _ _ _ (pv 3) Yd (by rfl)) (by rfl)) (WL _ _ _ _)) (by omega) (by rfl) (by rfl) (by decide) (by rfl) (by rfl)) (by rfl) (by first | exact .inl rfl | exact .inr rfl | assumption)) (@Yg _ _ _ (@Yk _ _ _ _ (@XD _ _ _ _ _ _ _ (@Yz _ _ _ _ _ _ _ _ _ _ _ _ F_law_whole hr (@Ya _ _ _ _ _ (pv 5) Yd (by rfl)) (by omega) (by rfl) (by rfl) (by decide) (by rfl) (by rfl)) (@XC _ _ _ _ _ (@Y6 _ _ _ _ _ _ _ _ YQ (pv 5) (@YF _ _ _ _ _ _ _ _ _ _ b_sum WU (@Ya _ _ _ _ _ (@XI _ _ _ _ _ _ _ ([none,none]) ((["_law_value","_law_grade"]:List Str)) _ (XR g.K 2 (YU (Ys 0) (YU (Ys 1) XQ))) _ _ (.own (.own .nil)) rfl (@YW _ _ _ _ (pv 1)) (fun cl C s₀ H₀ fp pn=>(@X6 _ _ _ _ _ (2) rfl (@YO _ _ _ _ _ (@Yu _ _ (0) _ (show List.Nodup (["_law_value","_law_grade"]:List Str) by decide +kernel) rfl (.inl rfl) (.inr rfl)) (@YO _ _ _ _ _ (@Yu _ _ (1) _ (show List.Nodup (["_law_value","_law_grade"]:List Str) by decide +kernel) rfl (.inl rfl) (.inr rfl)) Xx (by rfl)) (by rfl)) (by rfl) (by rfl))) (fun cl C s₀ H₀ fp pn=>Y2) (fun cl C s₀ H₀ fp pn=>(@Yt _ _ _ _ _ _ _ _ Y8 Ye (@Yj _ _ _ _ _ _ _ (Xq (K:=g.K)) (pv 1) Ye (fun _ _=>rfl)))) (by intro x hx;simp at hx) (by rfl) (by decide) (by decide +kernel) (by intro _;rfl)) Yd (by rfl)) (by decide +kernel) (by rfl) (by rfl) (by decide) (by decide) (by rfl) (by rfl)) (Yo _))))))))))),?_⟩
 obtain ⟨ps,p1,p2,p3,p4⟩:=hp.split
 have hdl:=hp.1
 have hgl:=hp.2.2.1
 refine WK (fun σ H'=>∃ D,Yb H H'∧H' D=some (.lst (ps.map (·.1)))∧σ=[some x,some (.ref a),some (.bl b),some (.ref D),none,none]) ?_ ?_
 rotate_left
 ·intro N hN
  walk_at "rd"
  refine WR (K:=g.K) (b:=a) (xs:=ts.map V.ref) ps (ps.map (·.1)) (fun R r=>by walk_at "rd";exact r) (SqL.of ha) (fun i x p h1 h2=>?_) (by simp [p1]) (by simp [p1]) (by simp;omega) ?_ ?_
  ·rw [List.getElem?_map] at h1
   obtain ⟨t,ht,rfl⟩:=Option.map_eq_some_iff.mp h1
   exact ⟨t,rfl,SqT.of (p2 i t p ht h2)⟩
  ·intro i p y H' h1 h2 sm R r
   rw [List.getElem?_map,h1] at h2
   cases h2
   walk_at "rd"
   exact r H' (.refl _)
  ·intro D H' hD sm hd
   exact hN _ _ ⟨D,sm,hd,rfl⟩
 rintro σ H1 ⟨D,s1,hD,rfl⟩
 have vD:Vd H1 (.ref D) (.list ds) := .lst hD (by simp [p1];omega) (p3.keep s1)
 refine WK (fun σ H'=>Yb H1 H'∧σ=[some x,some (.ref a),some (.bl b),some (.ref D),some (.bl b),none]) ?_ ?_
 rotate_left
 ·intro N hN
  walk_at "rd"
  refine ⟨few (by decide),fun p hp0=>?_⟩
  have s2:=Yb.upd_new hp0 (.lst [])
  refine ⟨[],.ref p,x,.ref D,shp,.list ds,rfl,Yb5 Yc,(hx.keep s1).keep s2,hE,vD.keep s2,fun H' s'=>?_⟩
  rw [hb]
  exact hN _ _ ⟨s2.trans s',rfl⟩
 rintro σ H2 ⟨s2,rfl⟩
 refine WK (fun σ H'=>Yb H2 H'∧σ=[some x,some (.ref a),some (.bl b),some (.ref D),some (.bl b),none]) ?_ ?_
 rotate_left
 ·intro N hN
  walk_at "rd"
  refine ⟨_,rfl,_,.bl b,true,rfl,Ym (by decide) ⟨rfl,?_⟩⟩
  have s12:=s1.trans s2
  refine WR (K:=g.K) (b:=a) (xs:=ts.map V.ref) ps (ps.map (·.1)) (fun R r=>by walk_at "rd";exact r) (SqL.of (s12 _ _ ha)) (fun i x p h1 h2=>?_) (by simp [p1]) (by simp [p1]) (by simp;omega) ?_ ?_
  ·rw [List.getElem?_map] at h1
   obtain ⟨t,ht,rfl⟩:=Option.map_eq_some_iff.mp h1
   exact ⟨t,rfl,SqT.of (s12 _ _ (p2 i t p ht h2))⟩
  ·intro i p y H' h1 h2 sm R r
   rw [List.getElem?_map,h1] at h2
   cases h2
   walk_at "rd"
   exact r H' (.refl _)
  ·intro D2 H' hD2 sm hd
   have v1:=(vD.keep (s2.trans sm)).den (K:=g.K)
   have v2:Vd H' (.ref D2) (.list ds) := .lst hd (by simp [p1];omega) (p3.keep (s12.trans sm))
   refine ⟨_,v1,_,v2.den,?_,?_⟩
   ·rw [PyData.depth]
    have:=UA hd1
    omega
   ·rw [PySem.SeqAt.eqv_refl _ v1.lay]
    exact Ym (by decide) (hN _ _ ⟨sm,rfl⟩)
 rintro σ H3 ⟨s3,rfl⟩
 have s13:=(s1.trans s2).trans s3
 walk_at "rd"
 refine Wn (fun _=>q H3 s13) fun c=>⟨few (by decide),fun p hp0=>?_⟩
 have hbt:b=true:=by cases b<;>simp_all
 rw [hbt] at hb
 obtain ⟨k,hk⟩:=Option.isSome_iff_exists.mp hb
 have s4:=Yb.upd_new hp0 (.lst [])
 have s14:=s13.trans s4
 refine ⟨[],.ref p,x,.ref D,shp,.list ds,k,rfl,Yb5 Yc,hx.keep s14,hE,vD.keep ((s2.trans s3).trans s4),hk,fun H' s'=>⟨_,rfl,_,rfl,XT rfl ?_⟩⟩
 have s15:=s14.trans s'
 refine WR (K:=g.K) (b:=a) (xs:=ts.map V.ref) ps (gs.map fun g=>V.int (1+g.1)) (fun R r=>by walk_at "rd";exact r) (SqL.of (s15 _ _ ha)) (fun i x p h1 h2=>?_) (by simp [p1]) (by simp [hgl]) (by simp;omega) ?_ ?_
 ·rw [List.getElem?_map] at h1
  obtain ⟨t,ht,rfl⟩:=Option.map_eq_some_iff.mp h1
  exact ⟨t,rfl,SqT.of (s15 _ _ (p2 i t p ht h2))⟩
 ·intro i p y H5 h1 h2 sm R r
  rw [List.getElem?_map] at h2
  obtain ⟨g1,hg1,rfl⟩:=Option.map_eq_some_iff.mp h2
  obtain ⟨ga,rr,e1,e2⟩:=p4 i p g1 h1 hg1
  rw [e1]
  walk_at "rd"
  exact ⟨_,SqT.of ((s15.trans sm) _ _ e2),_,Y4 _ _,_,rfl,r H5 (.refl _)⟩
 ·intro D5 H5 hD5 sm hd
  refine ⟨D5,rfl,gs.map fun g=>1+g.1,SqL.of (by rw [List.map_map];exact hd),Yal _ _,?_⟩
  have:=q _ (s15.trans sm)
  rw [hp.sum,hsz k hk]
  exact (show decide (V.int _=V.int _)=true from decide_eq_true rfl)▸this
def hid (D:Addr) (H:Hp):Hp:=fun a=>if a=D then none else H a
theorem QM {D:Addr} {H:Hp} {a:Addr} {o:HO} (n:a≠D) (h:H a=some o):hid D H a=some o:=by unfold hid;rw [if_neg n];exact h
theorem Wj {D:Addr} {H:Hp} {a:Addr} {o:HO} (h:hid D H a=some o):a≠D∧H a=some o:=by
 unfold hid at h
 by_cases c:a=D
 ·rw [if_pos c] at h;cases h
 ·rw [if_neg c] at h;exact ⟨c,h⟩
theorem YcI {D:Addr} {H:Hp}:Yb (hid D H) H:=fun a o h=>(Wj h).2
theorem YcJ {D:Addr} {H H':Hp} (s:Yb H H'):Yb (hid D H) (hid D H'):=fun a o h=>QM (Wj h).1 (s _ _ (Wj h).2)
theorem YdN {D:Addr} {H:Hp} {o:HO}:Yb (hid D H) (hid D (upd H D o)):=fun a u h=>QM (Wj h).1 (by rw [Yh (Wj h).1];exact (Wj h).2)
theorem YdO {D:Addr} {H H':Hp} {o:HO} (h:H D=some o):Yb (nw H H') (hid D H'):=fun a u e=>QM (fun z=>by rw [z,] at e;rw [(VO e).1] at h;cases h) (VO e).2
theorem PG.same {H H':Hp} {sh:Sh} {t:Addr} {d:PyData} {k:Ky} {g:Int×List PyData} (h:PG H sh t d k g) (s:Yb H H'):PG H' sh t d k g:=h.keep (Xj s) fun q=>q.keep s
theorem QN {H:Hp} {sh:Sh}:∀ {ts:List Addr},(∀ t∈ts,∃ d k g,PG H sh t d k g)→∃ ds ks gs,Prs H sh ts ds ks gs
 | [],_=>⟨[],[],[],rfl,rfl,rfl,fun i t d k g h=>by simp at h⟩
 | t::ts,h=>by
  obtain ⟨d,k,g,h0⟩:=h t (.head _)
  obtain ⟨ds,ks,gs,hs⟩:=QN fun t ht=>h t (.tail _ ht)
  exact ⟨_,_,_,hs.cons h0⟩
theorem TG.dep {sh:Sh} {d:PyData} {k:Ky} {g:Int×List PyData} (h:TG sh d k g) (hf:Wy sh):d.depth≤5∧(gr g).depth≤5:=by
 have di:∀ ps:List Nat,PyData.depthAll (ps.map fun p:Nat=>PyData.int (p:Int))≤0:=fun ps=>by
  induction ps with
  | nil=>simp [PyData.depthAll]
  | cons p ps ih=>simp only [List.map_cons,PyData.depthAll,PyData.depth];omega
 cases h with
 | who=>exact ⟨by simp [PyData.depth],by simp [PyData.depth,PyData.depthAll]⟩
 | @txt j st ps hs hp hl =>
  have:=di ps
  exact ⟨by simp [PyData.depth],by simp only [gr,PyData.depth,PyData.depthAll];omega⟩
 | row=>rcases hf with ⟨_,_,z⟩ | ⟨_,z⟩<;>cases z
theorem QO {sh:Sh} (h:Fl1 sh):Wy sh:=by obtain ⟨lo,w,_,_,rfl⟩:=h;exact .inl ⟨_,_,rfl⟩
theorem QP {sh:Sh} (h:Fl2 sh):Wy sh:=by obtain ⟨j,st,_,_,rfl⟩:=h;exact .inr ⟨_,rfl⟩
theorem Prt.cases {sh:Sh} (h:Prt sh):Wy sh∨∃ a b,Wy a∧Wy b∧sh = .row [a,b]:=by
 rcases h with h | h | ⟨a,b,h1,h2,e⟩
 ·exact .inl (QO h)
 ·exact .inl (QP h)
 ·exact .inr ⟨a,b,QO h1,QP h2,e⟩
theorem Ud {sh:Sh} {d:PyData} {k:Ky} {g:Int×List PyData} (hs:Prt sh) (h:TG sh d k g):d.depth≤20∧(gr g).depth≤20:=by
 rcases hs.cases with hf | ⟨a,b,ha,hb,rfl⟩
 ·have:=h.dep hf;omega
 ·cases h with
  | row t1 t2 =>
   have h1:=t1.dep ha
   have h2:=t2.dep hb
   refine ⟨?_,?_⟩
   ·simp only [PyData.depth,PyData.depthAll];omega
   ·show (PyData.tuple _).depth≤20
    rw [PyData.depth]
    simp only [PyData.depthAll,PyData.depth] at h1 h2 ⊢
    omega
theorem Yeq {sh:Sh} {d:PyData} {k:Ky} {g:Int×List PyData} (hs:Prt sh) (h:TG sh d k g):ky [] 3 sh d=some k:=by
 rcases hs.cases with hf | ⟨a,b,ha,hb,rfl⟩
 ·exact Ua hf h
 ·exact Yen ha hb h
theorem Vu {sh:Sh} {n:Nat} {d:PyData} (h:Wy sh):Enf [] (n+1) sh d:=by
 intro _
 rcases h with ⟨lo,hi,rfl⟩ | ⟨sg,rfl⟩
 ·exact ⟨trivial,fun w hw=>by cases d<;>simp [YE] at hw⟩
 ·exact ⟨trivial,fun w hw=>by cases d<;>simp [YE] at hw⟩
theorem YaA {sh:Sh} {d:PyData} (hs:Prt sh):Enf [] 3 sh d:=by
 rcases hs.cases with hf | ⟨a,b,ha,hb,rfl⟩
 ·exact Vu hf
 ·refine fun _=>⟨trivial,fun w hw=>?_⟩
  cases d with
  | tuple ds =>
   have hw:w∈[a,b].zip ds:=hw
   have:=(List.of_mem_zip hw).1
   simp only [List.mem_cons,List.not_mem_nil,or_false] at this
   rcases this with e | e<;>rw [e]
   ·exact Vu ha
   ·exact Vu hb
  | _=>simp [YE] at hw
theorem QQ {H:Hp} {sh:Sh} {ts:List Addr} {ds:List PyData} {ks:List Ky} {gs:List (Int×List PyData)} (hs:Prt sh) (h:Prs H sh ts ds ks gs):Ya5 ds gs:=by
 refine Prs.ind (motive:=fun ts ds ks gs=>Ya5 ds gs) ⟨(by simp),by simp⟩ ?_ h
 intro t d k g ts ds ks gs hp _ ih
 have:=Ud hs hp.1
 refine ⟨fun e he=>?_,fun e he=>?_⟩
 ·rcases List.mem_cons.mp he with rfl | he
  ·exact this.1
  ·exact ih.1 e he
 ·rcases List.mem_cons.mp he with rfl | he
  ·exact this.2
  ·exact ih.2 e he
theorem Vv {H:Hp} {sh:Sh} {ts:List Addr} {ds:List PyData} {ks:List Ky} {gs:List (Int×List PyData)} (hs:Prt sh) (h:Prs H sh ts ds ks gs):(ds.map fun d=>(sh,d)).mapM (fun w=>ky [] 3 w.1 w.2)=some ks:=by
 refine Prs.ind (motive:=fun ts ds ks gs=>(ds.map fun d=>(sh,d)).mapM (fun w=>ky [] 3 w.1 w.2)=some ks) rfl ?_ h
 intro t d k g ts ds ks gs hp _ ih
 rw [List.map_cons,List.mapM_cons]
 dsimp only
 rw [Yeq hs hp.1,ih]
 rfl
theorem YaB {c:LK} {sh:Sh} {ds:List PyData} (hs:Prt sh):Enf [] 4 (.lst c sh) (.list ds):=fun _=>⟨trivial,fun w hw=>by
 obtain ⟨d,_,rfl⟩:=List.mem_map.mp (show w∈ds.map fun d=>(sh,d) from hw)
 exact YaA hs⟩
theorem Yb6 {n:Nat} {sh:Sh} {ds:List PyData} (hs:Prt sh):Enf [] 4 (.alike sh n) (.list ds):=fun _=>⟨trivial,fun w hw=>by
 obtain ⟨d,_,rfl⟩:=List.mem_map.mp (show w∈ds.map fun d=>(sh,d) from hw)
 exact YaA hs⟩
section
 variable {H:Hp} {sh:Sh} {ts:List Addr} {ds:List PyData} {ks:List Ky} {gs:List (Int×List PyData)}
open Classical in
theorem Yb7 (hs:Prt sh) (h:Prs H sh ts ds ks gs):(ky [] 4 (.lst .rising sh) (.list ds)).isSome=@decide (Adj (fun a b=>¬ KLt (kt b) (kt a)) ks) (Classical.propDecidable _)∧∀ k,ky [] 4 (.lst .rising sh) (.list ds)=some k→k.1=ts.length+(ks.map (·.1)).sum:=by
 have e:ky [] 4 (.lst .rising sh) (.list ds)=kz (.lst .rising sh) (.list ds) ks:=by
  rw [ky,if_pos (show (YL (.lst .rising sh) (.list ds)&&fnd [] (.lst .rising sh) (.list ds))=true from rfl)]
  show ((ds.map fun d=>(sh,d)).mapM (fun w=>ky [] 3 w.1 w.2)).bind _=_
  rw [Vv hs h];rfl
 rw [e]
 show (ite _ _ _:Option Ky).isSome=_∧∀ k,(ite _ _ _:Option Ky)=some k→_
 rw [← h.2.1]
 by_cases c:Adj (fun a b=>¬ KLt (kt b) (kt a)) ks
 ·rw [if_pos c,@decide_eq_true _ (Classical.propDecidable _) c]
  exact ⟨rfl,fun k hk=>by cases hk;rfl⟩
 ·rw [if_neg c,@decide_eq_false _ (Classical.propDecidable _) c]
  exact ⟨rfl,fun k hk=>by cases hk⟩
open Classical in
theorem Yb8 (hs:Prt sh) (h:Prs H sh ts ds ks gs):(ky [] 4 (.lst .unlike sh) (.list ds)).isSome=@decide (Adj (fun a b=>KLt (kt a) (kt b)) ks) (Classical.propDecidable _)∧∀ k,ky [] 4 (.lst .unlike sh) (.list ds)=some k→k.1=ts.length+(ks.map (·.1)).sum:=by
 have e:ky [] 4 (.lst .unlike sh) (.list ds)=kz (.lst .unlike sh) (.list ds) ks:=by
  rw [ky,if_pos (show (YL (.lst .unlike sh) (.list ds)&&fnd [] (.lst .unlike sh) (.list ds))=true from rfl)]
  show ((ds.map fun d=>(sh,d)).mapM (fun w=>ky [] 3 w.1 w.2)).bind _=_
  rw [Vv hs h];rfl
 rw [e]
 show (ite _ _ _:Option Ky).isSome=_∧∀ k,(ite _ _ _:Option Ky)=some k→_
 rw [← h.2.1]
 by_cases c:Adj (fun a b=>KLt (kt a) (kt b)) ks
 ·rw [if_pos c,@decide_eq_true _ (Classical.propDecidable _) c]
  exact ⟨rfl,fun k hk=>by cases hk;rfl⟩
 ·rw [if_neg c,@decide_eq_false _ (Classical.propDecidable _) c]
  exact ⟨rfl,fun k hk=>by cases hk⟩
open Classical in
theorem YcK {n:Nat} (hs:Prt sh) (h:Prs H sh ts ds ks gs):(ky [] 4 (.alike sh n) (.list ds)).isSome=@decide (ts.length=n∧∀ k∈ks,ks.head?=some k) (Classical.propDecidable _)∧∀ k,ky [] 4 (.alike sh n) (.list ds)=some k→k.1=ts.length+(ks.map (·.1)).sum:=by
 have e:ky [] 4 (.alike sh n) (.list ds)=if ds.length=n then kz (.alike sh n) (.list ds) ks else none:=by
  by_cases c:ds.length=n
  ·rw [if_pos c,ky,if_pos (show (YL (.alike sh n) (.list ds)&&fnd [] (.alike sh n) (.list ds))=true from by show (decide (ds.length=n)&&true)=true;rw [decide_eq_true c];rfl)]
   show ((ds.map fun d=>(sh,d)).mapM (fun w=>ky [] 3 w.1 w.2)).bind _=_
   rw [Vv hs h];rfl
  ·rw [if_neg c,ky,if_neg]
   show ¬ (decide (ds.length=n)&&true)=true
   rw [decide_eq_false c]
   simp
 rw [e,h.1]
 by_cases c:ts.length=n
 ·rw [if_pos c]
  show (ite _ _ _:Option Ky).isSome=_∧∀ k,(ite _ _ _:Option Ky)=some k→_
  by_cases c2:∀ k∈ks,ks.head?=some k
  ·rw [if_pos c2,@decide_eq_true _ (Classical.propDecidable _) ⟨c,c2⟩]
   exact ⟨rfl,fun k hk=>by cases hk;show ks.length+_=_;rw [h.2.1]⟩
  ·rw [if_neg c2,@decide_eq_false _ (Classical.propDecidable _) fun z=>c2 z.2]
   exact ⟨rfl,fun k hk=>by cases hk⟩
 ·rw [if_neg c,@decide_eq_false _ (Classical.propDecidable _) fun z=>c z.1]
  exact ⟨rfl,fun k hk=>by cases hk⟩
end
theorem SqT.kt {K:PySem.W.Frag} {H H':Hp} (e:Kt H H') {a:Addr} {xs:List V} (h:SqT K H a xs):SqT K H' a xs:=by
 rcases h with (h | ⟨o,h⟩) | h
 ·exact .inl (.inl (e _ _ (by intro ps z;cases z) h))
 ·exact .inl (.inr ⟨o,e _ _ (by intro ps z;cases z) h⟩)
 ·exact .inr h
theorem SqL.kt {K:PySem.W.Frag} {H H':Hp} (e:Kt H H') {a:Addr} {xs:List V} (h:SqL K H a xs):SqL K H' a xs:=by
 rcases h with (h | ⟨o,h⟩) | h
 ·exact .inl (.inl (e _ _ (by intro ps z;cases z) h))
 ·exact .inl (.inr ⟨o,e _ _ (by intro ps z;cases z) h⟩)
 ·exact .inr h
mutual
theorem Vd.kt {H H':Hp} (e:Kt H H'):∀ {v:V} {d:PyData},Vd H v d→Vd H' v d
 | _,_,.non => .non
 | _,_,.bl b => .bl b
 | _,_,.int i => .int i
 | _,_,.str x h hl => .str x h hl
 | _,_,.lst h hn hs => .lst (e.lst h) hn (hs.kt e)
 | _,_,.tup h hn hs => .tup (e.tup h) hn (hs.kt e)
theorem Vds.kt {H H':Hp} (e:Kt H H'):∀ {vs:List V} {ds:List PyData},Vds H vs ds→Vds H' vs ds
 | _,_,.nil => .nil
 | _,_,.cons h hs => .cons (h.kt e) (hs.kt e)
end
mutual
theorem ShAt.kt {K:PySem.W.Frag} {H H':Hp} (e:Kt H H'):∀ {v:V} {d:Sh},ShAt K H v d→ShAt K H' v d
 | _,_,.whole h => .whole (SqT.kt e h)
 | _,_,.text h hl => .text (SqT.kt e h) hl
 | _,_,.row h h2 hs hl => .row (SqT.kt e h) (SqT.kt e h2) (hs.kt e) hl
 | _,_,.lst k h h2 => .lst k (SqT.kt e h) (h2.kt e)
 | _,_,.alike n h h2 => .alike n (SqT.kt e h) (h2.kt e)
 | _,_,.pick h h2 hb hs hl => .pick (SqT.kt e h) (SqT.kt e h2) ⟨hb.1,hb.2.1,fun j a m v h1 h2 h3=>SqT.kt e (hb.2.2 j a m v h1 h2 h3)⟩ (hs.kt e) hl
 | _,_,.use h => .use (SqT.kt e h)
theorem ShAts.kt {K:PySem.W.Frag} {H H':Hp} (e:Kt H H'):∀ {vs:List V} {ds:List Sh},ShAts K H vs ds→ShAts K H' vs ds
 | _,_,.nil => .nil
 | _,_,.cons h hs => .cons (h.kt e) (hs.kt e)
end
theorem YaC (H:Hp):off H []=H:=by funext b;simp [off]
theorem Yer (H H':Hp):on H H' []=H:=by funext b;simp [on]
theorem YdP {n:Nat} {p:Array Nat} (h:PySem.W.KPm n p) {ts:List Addr} (hl:ts.length=n):(p.toList.map fun i=>(ts.map V.ref).getD i .non)=(p.toList.map fun i=>ts.getD i 0).map V.ref∧(p.toList.map fun i=>ts.getD i 0).length=n∧∀ t∈p.toList.map fun i=>ts.getD i 0,t∈ts:=by
 have pt:p.toList.Perm (List.range n):=by
  have:=Array.perm_iff_toList_perm.mp h
  simpa using this
 have hin:∀ i∈p.toList,i<ts.length:=fun i hi=>by
  have:=List.mem_range.mp (pt.mem_iff.mp hi)
  omega
 refine ⟨?_,by rw [List.length_map,pt.length_eq,List.length_range],fun t ht=>?_⟩
 ·rw [List.map_map]
  refine List.map_congr_left fun i hi=>?_
  have:=hin i hi
  simp [List.getD_eq_getElem?_getD,List.getElem?_eq_getElem,this]
 ·obtain ⟨i,hi,rfl⟩:=List.mem_map.mp ht
  have:=hin i hi
  rw [List.getD_eq_getElem?_getD,List.getElem?_eq_getElem this]
  exact List.getElem_mem _
def Of (H:Hp) (ts:List Addr) (m:Nat) (l:Addr):Prop:=∃ ts':List Addr,H l=some (.lst (ts'.map V.ref))∧ts'.length≤m∧∀ t∈ts',t∈ts
theorem Of.kt {H H':Hp} {ts:List Addr} {m:Nat} {l:Addr} (h:Of H ts m l) (e:Kt H H'):Of H' ts m l:=by
 obtain ⟨ts',h1,h2,h3⟩:=h
 exact ⟨ts',e.lst h1,h2,h3⟩
def Pg (H:Hp) (sh:Sh) (ts:List Addr):Prop:=∀ t∈ts,∃ d k g,PG H sh t d k g
theorem Pg.kt {H H':Hp} {sh:Sh} {ts:List Addr} (h:Pg H sh ts) (e:Kt H H'):Pg H' sh ts:=fun t ht=>by
 obtain ⟨d,k,g,hp⟩:=h t ht
 exact ⟨d,k,g,hp.keep e fun q=>q.kt e⟩
theorem Pg.den {K:PySem.W.Frag} {H:Hp} {sh:Sh} {ts:List Addr} (hs:Prt sh) (h:Pg H sh ts) {ts':List Addr} (hm:∀ t∈ts',t∈ts):∃ es,Dens K H (ts'.map V.ref) es∧PyData.depthAll es≤30∧es.length=ts'.length:=by
 obtain ⟨es,f1,f2,f3⟩:=Uc (K:=K) (H:=H) (n:=30) (vs:=ts'.map V.ref) (fun v hv=>by
  obtain ⟨t,ht,rfl⟩:=List.mem_map.mp hv
  obtain ⟨d,k,g,tg,x,y,e,v1,_,v2⟩:=h t (hm t ht)
  have:=Ud hs tg
  refine ⟨.tuple [d,gr g],.tup (SqT.of e) (.cons v1.den (.cons v2.den .nil)),?_⟩
  simp only [PyData.depth,PyData.depthAll] at *
  omega)
 exact ⟨es,f1,f2,by rw [f3,List.length_map]⟩
def VOf (ts:List Addr) (xs:List V):Prop:=∃ ts':List Addr,xs=ts'.map V.ref∧∀ t∈ts',t∈ts
theorem VOf.take {ts:List Addr} {xs:List V} (h:VOf ts xs) (n:Nat):VOf ts (xs.take n):=by
 obtain ⟨ts',rfl,h⟩:=h
 exact ⟨ts'.take n,by rw [List.map_take],fun t ht=>h t (List.mem_of_mem_take ht)⟩
theorem VOf.drop {ts:List Addr} {xs:List V} (h:VOf ts xs) (n:Nat):VOf ts (xs.drop n):=by
 obtain ⟨ts',rfl,h⟩:=h
 exact ⟨ts'.drop n,by rw [List.map_drop],fun t ht=>h t (List.mem_of_mem_drop ht)⟩
theorem VOf.cut {ts:List Addr} {xs:List V} (h:VOf ts xs) (lo hi:Option Int):VOf ts (YB xs lo hi):=by
 unfold YB
 exact (h.drop _).take _
theorem VOf.append {ts:List Addr} {xs ys:List V} (h:VOf ts xs) (h2:VOf ts ys):VOf ts (xs++ys):=by
 obtain ⟨ts',rfl,h⟩:=h
 obtain ⟨ts2,rfl,h2⟩:=h2
 refine ⟨ts'++ts2,by rw [List.map_append],fun t ht=>?_⟩
 rcases List.mem_append.mp ht with z | z
 ·exact h t z
 ·exact h2 t z
theorem VOf.reverse {ts:List Addr} {xs:List V} (h:VOf ts xs):VOf ts xs.reverse:=by
 obtain ⟨ts',rfl,h⟩:=h
 exact ⟨ts'.reverse,by rw [List.map_reverse],fun t ht=>h t (List.mem_reverse.mp ht)⟩
theorem VOf.one {ts:List Addr} {t:Addr} (h:t∈ts):VOf ts [.ref t]:=⟨[t],rfl,fun t' ht=>by rw [List.mem_singleton.mp ht];exact h⟩
theorem of_v {H:Hp} {ts:List Addr} {m:Nat} {l:Addr} {xs:List V} (h:H l=some (.lst xs)) (hv:VOf ts xs) (hl:xs.length≤m):Of H ts m l:=by
 obtain ⟨ts',rfl,hm⟩:=hv
 exact ⟨ts',h,by simpa using hl,hm⟩
theorem QR {xs:List V} (h:xs≠[]):∃ x,atI xs (-1)=some x∧x∈xs:=by
 have:=List.dropLast_concat_getLast h
 refine ⟨xs.getLast h,?_,List.getLast_mem h⟩
 have e:=W6 xs.dropLast (xs.getLast h)
 rwa [this] at e
def YcL (K:PySem.W.Frag) (_:List V):List V→Hp→VK→Prop:=fun vs H Q=>∃ (a:Addr) (x y:V),vs=[.ref a]∧SqT K H a [x,y]∧Q y H
theorem Z0Y {k:Nat}  {f_ c_:Addr} {pm ctv:Value} {l:YG}  (hl:l.map (·.1)=([]:List Str)) (hnd:l.as.Nodup):FnOk g.P g.w g.K g.mg g.base CX0 (k+1) f_ (Zm l.cl c_ pm ctv) ["_law_pair"] (fun vs H Q _=>Qo H f_ c_ (Zm l.cl c_ pm ctv) Z7 l∧(YcL g.K) l.vs vs (off H l.as) fun v H'=>(∀ c∈l.as,H' c=none)→Q v (on H' H l.as)):=by
 refine Yed (N:=["_law_pair"]) (by rw [hl];exact Z0U) hnd (fun vs H Q h=>by obtain ⟨a,x,y,rfl,ha,q⟩:=h;rfl) fun A outer s H vs Q hr h=>?_
 obtain ⟨a,x,y,rfl,ha,q⟩:=h
 refine ⟨_,(@Yj _ _ _ _ _ _ _ Yl (pv 0) Ye (fun _ _=>rfl)),?_⟩
 obtain rfl:l=[]:=List.map_eq_nil_iff.mp hl
 walk_at "rd"
 exact ⟨_,rfl,a,rfl,_,ha,_,YH _ _,q⟩
theorem WS {t:TS} {u:(St→V→Hp→Prop)→St→Hp→Prop} {R:St→V→Hp→Prop} {σ:St} {H:Hp} (M:St→Hp→Prop) (h1:∀ σ H,M σ H→u R σ H) (h2:∀ N:St→Hp→Prop,(∀ σ H,M σ H→N σ H)→t { nx:=N,rt:=fun _ _=>False } σ H):rSeq t u R σ H:=h2 (u R) h1
def Z0v (K:PySem.W.Frag) (P:Addr):Sp:=fun vs H Q _=>∃ (a:Addr) (sh:Sh) (ts:List Addr) (n:Nat) (c:Int),vs=[.ref a,.int n,.int c]∧H a=some (.lst (ts.map V.ref))∧ts.length≤40∧Prt sh∧Pg H sh ts∧1≤n∧n≤6∧H P=some (.tbl #[])∧∀ (L:Addr) (ls:List Addr) (H':Hp),Kt H H'→H' L=some (.lst (ls.map V.ref))→ls.length≤10→(∀ l∈ls,Of H' ts 43 l)→Q (.ref L) H'
theorem QS {k:Nat}  {c_law_lists P_law_lists:Addr} (R:g.RawT "_law_lists" "_law_lists" ZD ["_law_some","_law_times","_law_cell"] c_law_lists) (bm:Bm g.mg g.base) (Cd_law_lists:PySem.W.CodeHd g.base c_law_lists P_law_lists) (hkc:3≤k) (b_len:g.mg "len"=none) (b_max:g.mg "max"=none) (Zc:g.mg "range"=none) (ZW:g.mg "sorted"=none):g.Fn (k+1) "_law_lists" ["_law_some","_law_times","_law_cell"] (Z0v g.K P_law_lists):=by
 refine R.fnC Z2 (fun vs H Q E h=>by obtain ⟨a,sh,ts,n,c,rfl,ha,hl,hprt,hts,hn1,hn6,hT,q⟩:=h;rfl) fun f_ A outer s H vs Q E hr h=>?_
 obtain ⟨a,sh,ts,n,c,rfl,ha,hl,hprt,hts,hn1,hn6,hT,q⟩:=h
 refine ⟨_,(@XX _ _ _ _ _ (@YD _ _ (3) _ _ _ _ Z2.nd rfl (.inl rfl) (@YaZ _ (g) (1) (k) _ _ _ _ _ _ _ ZW hr (@Ya _ _ _ _ _ (pv 0) Yd (by rfl)) (@Yeb _ _ _ _ _ _ _ _ _ bm Cd_law_lists rfl rfl (Eq.trans rfl Vr) rfl) (by omega) (by rfl) (by rfl) (by rfl)) (by rfl) (by first | exact .inl rfl | exact .inr rfl | assumption)) (@XX _ _ _ _ _ (@YD _ _ (4) _ _ _ _ Z2.nd rfl (.inl rfl) (@Yt _ _ _ _ _ _ _ _ Xk (pv 2) (@YF _ _ _ _ _ _ _ _ _ _ b_max (Ybj rfl) (@Ya _ _ _ _ _ Ye (@Ya _ _ _ _ _ (@Yt _ _ _ _ _ _ _ _ WX (@YF _ _ _ _ _ _ _ _ _ _ b_len YN (@Ya _ _ _ _ _ (pv 0) Yd (by rfl)) (by decide +kernel) (by rfl) (by rfl) (by decide) (by decide) (by rfl) (by rfl)) Ye) Yd (by rfl)) (by rfl)) (by decide +kernel) (by rfl) (by rfl) (by decide) (by decide) (by rfl) (by rfl))) (by rfl) (by first | exact .inl rfl | exact .inr rfl | assumption)) (@XX _ _ _ _ _ (@YD _ _ (5) _ _ _ _ Z2.nd rfl (.inl rfl) (@YM _ _ _ _ (@Ya _ _ _ _ _ (pv 0) (@Ya _ _ _ _ _ (pv 3) (@Ya _ _ _ _ _ (@Yt _ _ _ _ _ _ _ _ X8 (@Yt _ _ _ _ _ _ _ _ X8 (@Y3 _ _ _ _ _ _ _ _ _ _ Y9 (pv 3) Xo (@YX _ _ _ (pv 4))) (@YbB _ _ _ _ _ _ _ (@Y3 _ _ _ _ _ _ _ _ _ _ Y9 (pv 3) (@YX _ _ _ (pv 4)) (@YX _ _ _ (@Yt _ _ _ _ _ _ _ _ Y8 (pv 4) Ye))) (@Wf _ _ _ _ _ _ XE Ye))) (@Y3 _ _ _ _ _ _ _ _ _ _ Y9 (pv 3) (@YX _ _ _ (@Yt _ _ _ _ _ _ _ _ Y8 (pv 4) Ye)) Xo)) Yd (by rfl)) (by rfl)) (by rfl))) (by rfl) (by first | exact .inl rfl | exact .inr rfl | assumption)) (@XX _ _ _ _ _ (@YD _ _ (6) _ _ _ _ Z2.nd rfl (.inl rfl) (@YM _ _ _ _ Yd) (by rfl) (by first | exact .inl rfl | exact .inr rfl | assumption)) (@XX _ _ _ _ _ (@X7 _ _ _ _ _ _ _ _ PassesOwn.never rfl (@YW _ _ _ _ (pv 3)) (@Yu _ _ (7) _ Z2.nd rfl (.inl rfl) (by first | exact .inl rfl | exact .inr rfl | assumption)) (@Yg _ _ _ (@YC _ _ _ _ _ _ _ _ (@W8 _ _ _ _ _ _ _ (@Yp _ _ _ _ _ _ _ _ (Qd hr.units) (pv 6) (@YM _ _ _ _ Yd) (Yo _)) (@WW _ _ _ _ (@Yp _ _ _ _ _ _ _ _ (VA hr.units) (@Yj _ _ _ _ _ _ _ Yl (@Yj _ _ _ _ _ _ _ YY (pv 6) (@Wf _ _ _ _ _ _ XE Ye) (fun _ _=>rfl)) Ye (fun _ _=>rfl)) (@Yj _ _ _ _ _ _ _ Yl (pv 7) Ye (fun _ _=>rfl)) (Yo _)))).pt (@Yg _ _ _ (@Xn _ _ _ _ (@XH _ _ _ _ _ _ _ _ _ _ _ _ PySem.F.plainAttrs_list PySem.F.slot_list_append PySem.F.type_list_append Y7 (pv 6) (@Ya _ _ _ _ _ (pv 7) Yd (by rfl)) (by rfl) (by rfl) (by rfl) (by rfl) (by rfl)) (by rfl))) Yq)) (by intro _;rfl)) (@XX _ _ _ _ _ (@Xn _ _ _ _ (@XH _ _ _ _ _ _ _ _ _ _ _ _ PySem.F.plainAttrs_list PySem.F.slot_list_append PySem.F.type_list_append Y7 (pv 5) (@Ya _ _ _ _ _ (pv 6) Yd (by rfl)) (by rfl) (by rfl) (by rfl) (by rfl) (by rfl)) (by rfl)) (@XX _ _ _ _ _ (@YC _ _ _ _ _ _ _ _ (@Yp _ _ _ _ _ _ _ _ (VA hr.units) (pv 0) (@YM _ _ _ _ Yd) (Yo _)) (@Yf _ _ _ _ _ (@W9 _ (8) _ _ _ _ _ _ _ _ _ ([none,some 0]) ((["_law_k","_law_some"]:List Str)) _ (Ys 0) _ _ Z2.nd rfl (.inl rfl) (.own (.cap (i:=0) rfl rfl (by first | exact .inl rfl | exact .inr rfl) .nil)) rfl (@Ue _ _ _ _ _ _ rfl Zc (@Ya _ _ _ _ _ (pv 1) Yd (by rfl)) (by rfl)) (fun cl C s₀ H₀ fp pn=>(@Yu _ _ (0) _ (show List.Nodup (["_law_k","_law_some"]:List Str) by decide +kernel) rfl (.inl rfl) (.inr rfl))) (fun cl C s₀ H₀ fp pn=>Y2) (fun cl C s₀ H₀ fp pn=>(@Yj _ _ _ _ _ _ _ (Vp (K:=g.K)) (pv 1) Ye (fun _ _=>rfl))) (by intro x hx;simp at hx;first | (subst hx;exact .inl rfl) | (rcases hx with rfl | rfl<;>exact .inl rfl) | (rcases hx with rfl | rfl | rfl<;>exact .inl rfl) | (rcases hx with rfl | rfl | rfl | rfl<;>exact .inl rfl) | (rcases hx with rfl | rfl | rfl | rfl | rfl<;>exact .inl rfl)) (by rfl) (by decide) (by decide +kernel) (by intro _;rfl) (by rfl) (by first | exact .inl rfl | exact .inr rfl | assumption)) (@Yf _ _ _ _ _ (@YD _ _ (9) _ _ _ _ Z2.nd rfl (.inl rfl) (@Yt _ _ _ _ _ _ _ _ Xk (@Yt _ _ _ _ _ _ _ _ Xv (pv 2) Ye) (pv 1)) (by rfl) (by first | exact .inl rfl | exact .inr rfl | assumption)) (@Yf _ _ _ _ _ (@Xn _ _ _ _ (@XH _ _ _ _ _ _ _ _ _ _ _ _ PySem.F.plainAttrs_list PySem.F.slot_list_append PySem.F.type_list_append Y7 (pv 5) (@Ya _ _ _ _ _ (pv 8) Yd (by rfl)) (by rfl) (by rfl) (by rfl) (by rfl) (by rfl)) (by rfl)) (@Yg _ _ _ (@Xn _ _ _ _ (@XH _ _ _ _ _ _ _ _ _ _ _ _ PySem.F.plainAttrs_list PySem.F.slot_list_append PySem.F.type_list_append Y7 (pv 5) (@Ya _ _ _ _ _ (@Yt _ _ _ _ _ _ _ _ X8 (@Yt _ _ _ _ _ _ _ _ X8 (@Y3 _ _ _ _ _ _ _ _ _ _ Y9 (pv 8) Xo (@YX _ _ _ (pv 9))) (@YM _ _ _ _ (@Ya _ _ _ _ _ (@Yj _ _ _ _ _ _ _ YY (pv 0) (@Wf _ _ _ _ _ _ XE Ye) (fun _ _=>rfl)) Yd (by rfl)))) (@Y3 _ _ _ _ _ _ _ _ _ _ Y9 (pv 8) (@YX _ _ _ (@Yt _ _ _ _ _ _ _ _ Y8 (pv 9) Ye)) Xo)) Yd (by rfl)) (by rfl) (by rfl) (by rfl) (by rfl) (by rfl)) (by rfl)))))) Yq) (@Yec _ _ _ _ (pv 5))))))))),?_⟩
 refine WS (fun σ H'=>∃ F,Kt H H'∧(∃ ts1:List Addr,H' F=some (.lst (ts1.map V.ref))∧ts1.length=ts.length∧∀ t∈ts1,t∈ts)∧σ=[some (.ref a),some (.int n),some (.int c),some (.ref F),none,none,none,none,none,none]) ?_ ?_
 rotate_left
 ·intro N hN
  walk_at "rd"
  obtain ⟨ds,ks,gs,hp⟩:=QN hts
  obtain ⟨hf1,hf2⟩:=QQ hprt hp
  obtain ⟨ps,p1,p2,p3,p4⟩:=hp.split
  have key:∀ (f cd:Addr) (pm ctv:Value) (H2:Hp),Kt H H2→H2 f=some (FnO f (Zm [] cd pm ctv))→H2 cd=some (CdO cd Z7)→V1 g 1 [.ref a] (fun x H1=>N [some (.ref a),some (.int n),some (.int c),some x,none,none,none,none,none,none] H1) (.ref f) H2:=?key
  ·refine ⟨_,rfl,_,hT,trivial,.inl ⟨rfl,fun f cd fd g1 g2 g3 ⟨pm,ctv,e⟩=>?_⟩⟩
   subst e
   refine key f cd pm ctv _ (fun b o no e=>?_) Yc ?_
   ·rw [Yh (Yv e g1),Yh (Yv e g2),Yh (X4 e hT (fun z=>no _ z))]
    exact e
   ·rw [Yh (Ne.symm g3)]
    exact Yc
  intro f cd pm ctv H2 hk hf hcd
  have Fk:=Z0Y (g:=g) (k:=0) (f_:=f) (c_:=cd) (pm:=pm) (ctv:=ctv) (l:=[]) rfl (by simp [YG.as])
  refine ⟨a,f,_,_,_,ts.map V.ref,ps.map (·.2),gs,rfl,rfl,Fk,fun us hl=>?_,hf,SqL.of (hk.lst ha),by simp;omega,by simp [p1],by simp [hp.2.2.1],?_,?_,?_⟩
  ·match us,hl with
   | [_],_=>rfl
  ·intro i y u qq hy hu hq
   rw [List.getElem?_map] at hy hu
   obtain ⟨t,ht,rfl⟩:=Option.map_eq_some_iff.mp hy
   obtain ⟨pr,hpr,rfl⟩:=Option.map_eq_some_iff.mp hu
   have e2:=p2 i t pr ht hpr
   have hdi:ds[i]?=some (ds[i]'(by have:=(List.getElem?_eq_some_iff.mp ht).1;have:=hp.1;omega)):=List.getElem?_eq_getElem _
   have hki:ks[i]?=some (ks[i]'(by have:=(List.getElem?_eq_some_iff.mp ht).1;have:=hp.2.1;omega)):=List.getElem?_eq_getElem _
   obtain ⟨tg,x,y,e3,_,⟨ya,rfl⟩,w⟩:=hp.2.2.2 i t _ _ qq ht hdi hki hq
   rw [e2] at e3
   obtain ⟨e5,e6⟩:pr.1=x∧pr.2 = .ref ya:=by
    have:=HO.tup.inj (Option.some.inj e3)
    simpa using this
   rw [e6]
   refine ⟨⟨⟨hf,hcd,fun p hp=>by simp at hp⟩,t,pr.1,.ref ya,rfl,?_,fun _=>⟨rfl,?_⟩⟩,⟨ya,rfl⟩,(w.kt hk).den⟩
   ·show SqT g.K (off H2 []) t _
    rw [YaC]
    rw [e6] at e2
    exact SqT.of (hk.tup e2)
   ·show on (off H2 []) H2 []=H2
    rw [Yer,YaC]
  ·intro qq hq
   obtain ⟨i,hi⟩:=List.mem_iff_getElem?.mp hq
   have at1:∀ {α:Type} (l:List α) (h:l.length=ts.length) (i:Nat),i<ts.length→∃ x,l[i]?=some x:=fun l h i hi=>⟨_,List.getElem?_eq_getElem (by omega)⟩
   have tgi:∀ (j:Nat) q',gs[j]?=some q'→∃ d k,TG sh d k q':=fun j q' hj=>by
    have hlt:=(List.getElem?_eq_some_iff.mp hj).1
    rw [hp.2.2.1] at hlt
    obtain ⟨t,h1⟩:=at1 ts rfl j hlt
    obtain ⟨d,h2⟩:=at1 ds hp.1 j hlt
    obtain ⟨k,h3⟩:=at1 ks hp.2.1 j hlt
    exact ⟨d,k,(hp.2.2.2 j t d k q' h1 h2 h3 hj).1⟩
   obtain ⟨d,k,tg⟩:=tgi i qq hi
   have:=hf2 qq hq
   refine ⟨tg.gd,by omega,fun q' hq'=>?_⟩
   obtain ⟨j,hj⟩:=List.mem_iff_getElem?.mp hq'
   obtain ⟨d',k',tg'⟩:=tgi j q' hj
   exact tg.sim tg'
  ·intro l' p hl' hpm _
   obtain ⟨e1,e2,e3⟩:=YdP hpm (ts:=ts) (by simp)
   exact hN _ _ ⟨l',hk.trans (Xj (Yb.upd_new hl' _)),⟨_,by rw [e1];exact Yc,by rw [e2,List.length_map],e3⟩,rfl⟩
 rintro σ H1 ⟨F,k1,⟨ts1,hF,hl1,hm1⟩,rfl⟩
 refine WS (fun σ H'=>H'=H1∧∃ z:Nat,σ=[some (.ref a),some (.int n),some (.int c),some (.ref F),some (.int z),none,none,none,none,none]) ?_ ?_
 rotate_left
 ·intro N hN
  walk_at "rd"
  refine ⟨_,.inl (SqL.of (k1.lst ha)),by split<;>omega,?_⟩
  generalize hm:(if ((ts.map V.ref).length:Int) - 1>1 then ((ts.map V.ref).length:Int) - 1 else 1)=m
  have m0:0<m:=by rw [← hm];split<;>omega
  exact hN _ _ ⟨rfl,(c%m).toNat,by rw [Int.toNat_of_nonneg (Int.emod_nonneg _ (by omega))]⟩
 rintro σ H2 ⟨rfl,z,rfl⟩
 refine WS (fun σ H'=>∃ (L:Addr) (ls:List Addr),Yb H2 H'∧σ=[some (.ref a),some (.int n),some (.int c),some (.ref F),some (.int z),some (.ref L),none,none,none,none]∧H' L=some (.lst (ls.map V.ref))∧ls.length=3∧L∉ls∧H2 L=none∧(∀ l∈ls,Of H' ts 43 l)) ?_ ?_
 rotate_left
 ·intro N hN
  walk_at "rd"
  have hv1:VOf ts (ts1.map V.ref):=⟨ts1,rfl,hm1⟩
  refine ⟨_,SqL.of hF,fun p g0=>?_⟩
  have w0:=Yb.upd_new g0 (.lst (YB (ts1.map V.ref) none (some (z:Int))))
  refine ⟨_,SqL.of (w0 _ _ hF),fun p1 g1=>⟨_,SqL.of Yc,fun p2 g2=>?_⟩⟩
  have w1:=Yb.upd_new g1 (.lst (YB (ts1.map V.ref) (some (z:Int)) (some ((z:Int)+2))))
  have w2:=Yb.upd_new g2 (.lst (YB (ts1.map V.ref) (some (z:Int)) (some ((z:Int)+2))).reverse)
  refine ⟨_,w2 _ _ (w1 _ _ Yc),_,Yc,?_,fun p3 g3=>?_⟩
  ·have:=Xe (ts1.map V.ref) none (some (z:Int))
   have:=Xe (ts1.map V.ref) (some (z:Int)) (some ((z:Int)+2))
   rw [List.length_map] at *
   refine few ?_
   rw [List.length_reverse]
   omega
  have w3:=Yb.upd_new g3 (.lst (YB (ts1.map V.ref) none (some (z:Int))++(YB (ts1.map V.ref) (some (z:Int)) (some ((z:Int)+2))).reverse))
  have wA:=((w0.trans w1).trans w2).trans w3
  refine ⟨_,SqL.of (wA _ _ hF),fun p4 g4=>?_⟩
  have w4:=Yb.upd_new g4 (.lst (YB (ts1.map V.ref) (some ((z:Int)+2)) none))
  have hlen:(YB (ts1.map V.ref) none (some (z:Int))++(YB (ts1.map V.ref) (some (z:Int)) (some ((z:Int)+2))).reverse).length+(YB (ts1.map V.ref) (some ((z:Int)+2)) none).length≤43:=by
   have e2:((z:Int)+2)=((z+2:Nat):Int):=by omega
   rw [e2,VT,Yam,VU]
   simp only [List.length_append,List.length_reverse,List.length_take,List.length_drop,List.length_map]
   omega
  refine ⟨_,w4 _ _ Yc,_,Yc,few (by omega),fun p5 g5=>?_⟩
  have w5:=Yb.upd_new g5 (.lst ((YB (ts1.map V.ref) none (some (z:Int))++(YB (ts1.map V.ref) (some (z:Int)) (some ((z:Int)+2))).reverse)++YB (ts1.map V.ref) (some ((z:Int)+2)) none))
  refine ⟨few (by decide),fun p6 g6=>?_⟩
  have w6:=Yb.upd_new g6 (.lst [V.ref a,V.ref F,V.ref p5])
  have wB:=((wA.trans w4).trans w5).trans w6
  have wC:=(wA.trans w4).trans w5
  have nin:p6∉[a,F,p5]:=fun z=>by
   simp only [List.mem_cons,List.not_mem_nil,or_false] at z
   rcases z with e | e | e
   ·exact Yv (wC _ _ (k1.lst ha)) g6 e.symm
   ·exact Yv (wC _ _ hF) g6 e.symm
   ·exact Yv Yc g6 e.symm
  refine hN _ _ ⟨p6,[a,F,p5],wB,rfl,Yc,rfl,nin,((wA.trans w4).trans w5).free g6,fun l hl'=>?_⟩
  simp only [List.mem_cons,List.not_mem_nil,or_false] at hl'
  rcases hl' with e | e | e<;>subst e
  ·exact ⟨ts,wB _ _ (k1.lst ha),by omega,fun t ht=>ht⟩
  ·exact ⟨ts1,wB _ _ hF,by omega,hm1⟩
  ·exact of_v (w6 _ _ Yc) (((hv1.cut _ _).append (hv1.cut _ _).reverse).append (hv1.cut _ _)) (by rw [List.length_append];exact hlen)
 rintro σ H3 ⟨L,ls,s3,rfl,hL,hL3,hLl,hLn,hLo⟩
 refine WS (fun σ H'=>∃ O,H'=upd H3 O (.lst [])∧H3 O=none∧σ=[some (.ref a),some (.int n),some (.int c),some (.ref F),some (.int z),some (.ref L),some (.ref O),none,none,none]) ?_ ?_
 rotate_left
 ·intro N hN
  walk_at "rd"
  exact ⟨few (by decide),fun p hp=>hN _ _ ⟨p,rfl,hp,rfl⟩⟩
 rintro σ H4 ⟨O,rfl,hO,rfl⟩
 refine WS (fun σ H'=>∃ o,Yb H3 H'∧σ=[some (.ref a),some (.int n),some (.int c),some (.ref F),some (.int z),some (.ref L),some (.ref O),o,none,none]∧Of H' ts 43 O) ?_ ?_
 rotate_left
 ·intro N hN
  have k3:Kt H H3:=k1.trans (Xj s3)
  have hF3:=s3 _ _ hF
  have nFO:F≠O:=Yv hF3 hO
  refine W1 (K:=g.K) (a:=F) (xs:=ts1.map V.ref) (fun i σ H'=>∃ (o:Option V) (os:List Addr),σ=[some (.ref a),some (.int n),some (.int c),some (.ref F),some (.int z),some (.ref L),some (.ref O),o,none,none]∧Yb H3 H'∧H' O=some (.lst (os.map V.ref))∧os.length≤i∧∀ t∈os,t∈ts) (fun R r=>by walk_at "rd";exact r) ⟨none,[],rfl,.upd_new hO _,Yc,Nat.le_refl _,by simp⟩ (fun i σ H' _ ⟨o,os,_,s',_⟩=>SqL.of (s' _ _ hF3)) ?_ ?_
  ·rintro i x σ H' hx ⟨o,os,rfl,s',hO',hol,hom⟩
   have hi:=(List.getElem?_eq_some_iff.mp hx).1
   rw [List.length_map] at hi
   rw [List.getElem?_map] at hx
   obtain ⟨t,ht,rfl⟩:=Option.map_eq_some_iff.mp hx
   have htm:=hm1 t (List.mem_of_getElem? ht)
   have hpg:=(hts.kt k3).kt (Xj s')
   have push:∀ H9,Yb H' H9→Yb H3 (upd H9 O (.lst (os.map V.ref++[.ref t])))∧∃ os':List Addr,upd H9 O (.lst (os.map V.ref++[.ref t])) O=some (.lst (os'.map V.ref))∧os'.length≤i+1∧∀ t∈os',t∈ts:=fun H9 s9 =>
    ⟨.upd_over hO (s'.trans s9) _,os++[t],by rw [Yc,List.map_append];rfl,by simp;omega,fun t' h'=>by
     rcases List.mem_append.mp h' with z | z
     ·exact hom t' z
     ·rw [List.mem_singleton.mp z];exact htm⟩
   walk_at "rd"
   refine ⟨few (by decide),fun p hp=>?_⟩
   have s2:=Yb.upd_new hp (.lst [])
   obtain ⟨es,f1,f2,f3⟩:=(hpg.kt (Xj s2)).den (K:=g.K) hprt hom
   refine ⟨_,.lst (SqL.of (s2 _ _ hO')) f1,_,.lst (SqL.of Yc) .nil,by rw [PyData.depth];omega,?_⟩
   rw [Ub]
   refine Wn (fun ce=>?_) (fun ce=>?_)
   ·exact ⟨.inl ⟨rfl,_,SqL.of (s2 _ _ hO')⟩,_,s2 _ _ hO',by rw [List.length_map];exact Nat.lt_of_lt_of_le (show os.length<100000 by omega) (few (Nat.le_refl _)),push _ s2⟩
   ·have hne:os≠[]:=fun z=>ce (by rw [z] at f3;rw [List.length_eq_zero_iff.mp f3];rfl)
    obtain ⟨x0,hx0,hx0m⟩:=QR (xs:=os.map V.ref) (by simpa using hne)
    obtain ⟨t0,ht0,rfl⟩:=List.mem_map.mp hx0m
    obtain ⟨d0,k0,g0,tg0,u0,y0,e0,_,_,w0⟩:=hpg t0 (hom t0 ht0)
    obtain ⟨d1,k1',g1,tg1,u1,y1,e1,_,_,w1⟩:=hpg t htm
    have:=(Ud hprt tg0).2
    refine ⟨_,SqL.of (s2 _ _ hO'),_,hx0,t0,rfl,_,SqT.of (s2 _ _ e0),_,YH _ _,_,SqT.of (s2 _ _ e1),_,YH _ _,_,(w0.keep s2).den,_,(w1.keep s2).den,by omega,?_⟩
    refine Wn (fun _=>?_) (fun _=>?_)
    ·exact ⟨.inl ⟨rfl,_,SqL.of (s2 _ _ hO')⟩,_,s2 _ _ hO',by rw [List.length_map];exact Nat.lt_of_lt_of_le (show os.length<100000 by omega) (few (Nat.le_refl _)),push _ s2⟩
    ·exact ⟨s'.trans s2,os,s2 _ _ hO',by omega,hom⟩
  ·rintro σ H' ⟨o,os,rfl,s',hO',hol,hom⟩
   rw [List.length_map] at hol
   exact hN _ _ ⟨o,s',rfl,⟨os,hO',by omega,hom⟩⟩
 rintro σ H5 ⟨o,s5,rfl,hO5⟩
 refine WS (fun σ H'=>Kt H H'∧σ=[some (.ref a),some (.int n),some (.int c),some (.ref F),some (.int z),some (.ref L),some (.ref O),o,none,none]∧∃ ls:List Addr,H' L=some (.lst (ls.map V.ref))∧ls.length=4∧L∉ls∧H2 L=none∧(∀ l∈ls,Of H' ts 43 l)) ?_ ?_
 rotate_left
 ·intro N hN
  walk_at "rd"
  have hL5:=s5 _ _ hL
  have nOL:O≠L:=Ne.symm (Yv hL hO)
  have kA:Kt H H5:=(k1.trans (Xj s3)).trans (Xj s5)
  have nold:∀ {b:Addr} {o:HO},H b=some o→(∀ ps,o ≠ .tbl ps)→b≠L:=fun e no=>Yv (k1 _ _ no e) hLn
  refine ⟨.inl ⟨rfl,_,SqL.of hL5⟩,_,hL5,by rw [List.length_map,hL3];decide,hN _ _ ⟨fun b o no e=>?_,rfl,ls++[O],by rw [Yc,List.map_append];rfl,by simp [hL3],fun z=>(by rcases List.mem_append.mp z with z | z;exact hLl z;exact nOL (List.mem_singleton.mp z).symm),hLn,fun l hl'=>?_⟩⟩
  ·rw [Yh (nold e no)]
   exact kA _ _ no e
  ·have:Of H5 ts 43 l∧l≠L:=by
    rcases List.mem_append.mp hl' with z | z
    ·exact ⟨(hLo l z).kt (Xj s5),fun e=>hLl (e▸z)⟩
    ·rw [List.mem_singleton.mp z];exact ⟨hO5,nOL⟩
   obtain ⟨⟨ts',h1,h2,h3⟩,hne⟩:=this
   exact ⟨ts',by rw [Yh hne];exact h1,h2,h3⟩
 rintro σ H6 ⟨k6,rfl,ls6,hL6,hl6,hLl6,hLn6,hLo6⟩
 refine WS (fun σ H'=>Kt H H'∧(∃ o1 o2,σ=[some (.ref a),some (.int n),some (.int c),some (.ref F),some (.int z),some (.ref L),some (.ref O),o,o1,o2])∧∃ ls:List Addr,H' L=some (.lst (ls.map V.ref))∧ls.length≤10∧(∀ l∈ls,Of H' ts 43 l)) ?_ ?_
 rotate_left
 ·intro N hN
  walk_at "rd"
  refine ⟨few (by decide),fun p hp=>?_⟩
  have s2:=Yb.upd_new hp (.lst [])
  have hts6:=hts.kt k6
  have ha6:=k6.lst ha
  obtain ⟨es,f1,f2,f3⟩:=(hts6.kt (Xj s2)).den (K:=g.K) hprt (ts':=ts) (fun t ht=>ht)
  refine ⟨_,.lst (SqL.of (s2 _ _ ha6)) f1,_,.lst (SqL.of Yc) .nil,by rw [PyData.depth];omega,?_⟩
  rw [Ub]
  refine Wn (fun ce=>?_) (fun ce=>?_)
  rotate_left
  ·exact hN _ _ ⟨k6.trans (Xj s2),⟨_,_,rfl⟩,ls6,s2 _ _ hL6,by omega,fun l hl'=>(hLo6 l hl').kt (Xj s2)⟩
  obtain ⟨t0,tr,ets⟩:∃ t r,ts=t::r:=by
   cases ts with
   | nil=>rw [List.length_eq_zero_iff.mp f3] at ce;simp at ce
   | cons t r=>exact ⟨t,r,rfl⟩
  have hat0:(ts.map V.ref)[0]?=some (.ref t0):=by rw [ets];rfl
  have ht0:t0∈ts:=by rw [ets];exact .head _
  refine VB (n:=n) (List.replicate n (V.ref t0)) (fun R r=>by walk_at "rd";exact r) (by simp) (by omega) (fun i y H' hi hy sm R r=>?_) ?_
  ·rw [List.getElem?_replicate,if_pos hi] at hy
   cases hy
   walk_at "rd"
   exact ⟨_,SqL.of (sm _ _ (s2 _ _ ha6)),_,XS (j:=0) hat0,r H' (.refl _)⟩
  intro D H9 hD s9 hd
  have s29:=s2.trans s9
  have hL9:=s29 _ _ hL6
  have nDL:D≠L:=Ne.symm (Yv (s2 _ _ hL6) hD)
  have naL:a≠L:=Yv (k1.lst ha) hLn6
  have hvD:VOf ts (List.replicate n (V.ref t0)):=⟨List.replicate n t0,by simp,fun t ht=>by rw [(List.mem_replicate.mp ht).2];exact ht0⟩
  have mn0:0≤c / 64%(n:Int):=Int.emod_nonneg _ (by omega)
  obtain ⟨x0,hx0,hx0m⟩:=QR (xs:=ts.map V.ref) (by rw [ets];simp)
  obtain ⟨tz,htz,rfl⟩:=List.mem_map.mp hx0m
  refine ⟨⟨by decide,by decide⟩,by omega,.inl ⟨rfl,_,SqL.of hL9⟩,_,hL9,by rw [List.length_map];exact Nat.lt_of_lt_of_le (show ls6.length<100000 by omega) (few (Nat.le_refl _)),?_⟩
  obtain ⟨HA,eHA⟩:∃ HA,HA=upd H9 L (.lst (ls6.map V.ref++[.ref D])):=⟨_,rfl⟩
  rw [← eHA]
  have hLA:HA L=some (.lst ((ls6++[D]).map V.ref)):=by rw [eHA,Yc,List.map_append];rfl
  have outA:∀ {b:Addr} {o:HO},b≠L→H9 b=some o→HA b=some o:=fun hb e=>by rw [eHA,Yh hb];exact e
  have hdA:=outA nDL hd
  have haA:=outA naL (s29 _ _ ha6)
  refine ⟨.inl ⟨rfl,_,SqL.of hLA⟩,D,rfl,_,SqL.of hdA,fun p0 g0=>?_⟩
  have w0:=Yb.upd_new g0 (.lst (YB (List.replicate n (V.ref t0)) none (some (c / 64%(n:Int)))))
  refine ⟨_,SqL.of (w0 _ _ haA),_,hx0,few (by decide),fun p1 g1=>?_⟩
  have w1:=Yb.upd_new g1 (.lst [V.ref tz])
  refine ⟨_,w1 _ _ Yc,_,Yc,?_,fun p2 g2=>?_⟩
  ·have:=Xe (List.replicate n (V.ref t0)) none (some (c / 64%(n:Int)))
   rw [List.length_replicate] at this
   exact few (by simp;omega)
  have w2:=Yb.upd_new g2 (.lst (YB (List.replicate n (V.ref t0)) none (some (c / 64%(n:Int)))++[V.ref tz]))
  have wA:=(w0.trans w1).trans w2
  refine ⟨D,rfl,_,SqL.of (wA _ _ hdA),fun p3 g3=>?_⟩
  have w3:=Yb.upd_new g3 (.lst (YB (List.replicate n (V.ref t0)) (some (c / 64%(n:Int)+1)) none))
  have hlen:(YB (List.replicate n (V.ref t0)) none (some (c / 64%(n:Int)))++[V.ref tz]).length+(YB (List.replicate n (V.ref t0)) (some (c / 64%(n:Int)+1)) none).length≤43:=by
   have h1:=Xe (List.replicate n (V.ref t0)) none (some (c / 64%(n:Int)))
   have h2:=Xe (List.replicate n (V.ref t0)) (some (c / 64%(n:Int)+1)) none
   rw [List.length_replicate] at h1 h2
   rw [List.length_append,List.length_singleton]
   omega
  refine ⟨_,w3 _ _ Yc,_,Yc,few (by omega),fun p4 g4=>?_⟩
  have w4:=Yb.upd_new g4 (.lst ((YB (List.replicate n (V.ref t0)) none (some (c / 64%(n:Int)))++[V.ref tz])++YB (List.replicate n (V.ref t0)) (some (c / 64%(n:Int)+1)) none))
  have wB:=(wA.trans w3).trans w4
  have hLB:=wB _ _ hLA
  refine ⟨_,hLB,by rw [List.length_map,List.length_append,hl6];exact (by decide:5<sizeLine),hN _ _ ⟨fun b u no e=>?_,⟨_,_,rfl⟩,(ls6++[D])++[p4],by rw [Yc];simp,by simp;omega,fun l hl'=>?_⟩⟩
  ·have nb:b≠L:=Yv (k1 _ _ no e) hLn6
   rw [Yh nb]
   exact wB _ _ (outA nb (s29 _ _ (k6 _ _ no e)))
  ·have n4:p4≠L:=Ne.symm (Yv ((wA.trans w3) _ _ hLA) g4)
   have:∃ xs,l≠L∧upd (upd (upd (upd (upd HA p0 (.lst (YB (List.replicate n (V.ref t0)) none (some (c / 64%(n:Int)))))) p1 (.lst [V.ref tz])) p2 (.lst (YB (List.replicate n (V.ref t0)) none (some (c / 64%(n:Int)))++[V.ref tz]))) p3 (.lst (YB (List.replicate n (V.ref t0)) (some (c / 64%(n:Int)+1)) none))) p4 (.lst ((YB (List.replicate n (V.ref t0)) none (some (c / 64%(n:Int)))++[V.ref tz])++YB (List.replicate n (V.ref t0)) (some (c / 64%(n:Int)+1)) none)) l=some (.lst xs)∧VOf ts xs∧xs.length≤43:=by
    rcases List.mem_append.mp hl' with z | z
    ·rcases List.mem_append.mp z with z | z
     ·have nl:l≠L:=fun e=>hLl6 (e▸z)
      obtain ⟨ts',h1,h2,h3⟩:=hLo6 l z
      exact ⟨_,nl,wB _ _ (outA nl (s29 _ _ h1)),⟨ts',rfl,h3⟩,by simpa using h2⟩
     ·rw [List.mem_singleton.mp z]
      exact ⟨_,nDL,wB _ _ hdA,hvD,by simp;omega⟩
    ·rw [List.mem_singleton.mp z]
     exact ⟨_,n4,Yc,((hvD.cut _ _).append (.one htz)).append (hvD.cut _ _),by rw [List.length_append];exact hlen⟩
   obtain ⟨xs,nl,h1,h2,h3⟩:=this
   exact of_v (by rw [Yh nl];exact h1) h2 h3
 rintro σ H7 ⟨k7,⟨o1,o2,rfl⟩,ls7,hL7,hl7,hLo7⟩
 walk_at "rd"
 refine ⟨_,rfl,[],⟨by simp [YG.as],fun p hp=>by simp at hp⟩,fun _=>?_⟩
 exact q L ls7 _ k7 hL7 hl7 hLo7
theorem Yes {sh:Sh} (h:Prt sh):Lv 2 sh:=by
 rcases h with h | h | h
 ·exact .inl ⟨.inl h,by omega⟩
 ·exact .inl ⟨.inr h,by omega⟩
 ·exact .inr ⟨h,Nat.le_refl _⟩
theorem YcM {k:Nat}  {c_law_lists P_law_lists:Addr} (Z5:g.Fn k "_law_cell_at" ["_law_script","_law_k"] (Zx g.K)) (F_law_part:g.Fn k "_law_part" ["_law_script"] (Z0E g.K)) (ZE:g.Fn k "_law_thing" ["_law_part_here","_law_cell"] (Zj g.K 2)) (F_law_lists:g.Fn k "_law_lists" ["_law_some","_law_times","_law_cell"] (Z0v g.K P_law_lists)) (Z16:g.Fn k "_law_good" ["_law_pairs","_law_most"] (Z0G g.K)) (F_law_alike:g.Fn k "_law_alike" ["_law_pairs","_law_times"] (Z0u g.K)) (ZX:g.Fn k "_law_judged" ["_law_shape","_law_pairs","_law_good_here"] (Z0c g.K)):YaN g k ["_law_script","_law_part_here","_law_times","_law_some","_law_pairs"] "law" UV (Vb g.K [("_law_lists",c_law_lists,P_law_lists)]):=by
 refine fun f_ cdv A outer s H vs Q E hr h=>?_
 obtain ⟨a,ns,rfl,hS,hl,ht,q⟩:=h
 refine ⟨_,(@Yf _ _ _ _ _ (@YD _ _ (1) _ _ _ _ W5.nd rfl (.inr rfl) (@Yz _ _ _ _ _ _ _ _ _ _ _ _ F_law_part hr (@Ya _ _ _ _ _ (pv 0) Yd (by rfl)) (by omega) (by rfl) (by rfl) (by decide) (by rfl) (by rfl)) (by rfl) (by first | exact .inl rfl | exact .inr rfl | assumption)) (@Yf _ _ _ _ _ (@YD _ _ (2) _ _ _ _ W5.nd rfl (.inl rfl) (@Yt _ _ _ _ _ _ _ _ Y8 Ye (@Yt _ _ _ _ _ _ _ _ Xk (@Yt _ _ _ _ _ _ _ _ Xv (@Yz _ _ _ _ _ _ _ _ _ _ _ _ Z5 hr (@Ya _ _ _ _ _ (pv 0) (@Ya _ _ _ _ _ Ye Yd (by rfl)) (by rfl)) (by omega) (by rfl) (by rfl) (by decide) (by rfl) (by rfl)) Ye) Ye)) (by rfl) (by first | exact .inl rfl | exact .inr rfl | assumption)) (@Yf _ _ _ _ _ (@W9 _ (3) _ _ _ _ _ _ _ _ _ ([none,some 1]) ((["_law_cell","_law_part_here"]:List Str)) _ (Ys 0) _ _ W5.nd rfl (.inl rfl) (.own (.cap (i:=1) rfl rfl (by first | exact .inl rfl | exact .inr rfl) .nil)) rfl (@YW _ _ _ _ (@Y3 _ _ _ _ _ _ _ _ _ _ Y9 (pv 0) (@YX _ _ _ Ye) (@YX _ _ _ Ye))) (fun cl C s₀ H₀ fp pn=>(@Yu _ _ (0) _ (show List.Nodup (["_law_cell","_law_part_here"]:List Str) by decide +kernel) rfl (.inl rfl) (.inr rfl))) (fun cl C s₀ H₀ fp pn=>Y2) (fun cl C s₀ H₀ fp pn=>(@Yz _ _ _ _ _ _ _ _ _ _ _ _ ZE hr (@Ya _ _ _ _ _ (pv 1) (@Ya _ _ _ _ _ (pv 0) Yd (by rfl)) (by rfl)) (by omega) (by rfl) (by rfl) (by decide) (by rfl) (by rfl))) (by intro x hx;simp at hx;first | (subst hx;exact .inl rfl) | (rcases hx with rfl | rfl<;>exact .inl rfl) | (rcases hx with rfl | rfl | rfl<;>exact .inl rfl) | (rcases hx with rfl | rfl | rfl | rfl<;>exact .inl rfl) | (rcases hx with rfl | rfl | rfl | rfl | rfl<;>exact .inl rfl)) (by rfl) (by decide) (by decide +kernel) (by intro _;rfl) (by rfl) (by first | exact .inl rfl | exact .inr rfl | assumption)) (@Yf _ _ _ _ _ (@X7 _ _ _ _ _ _ _ _ PassesOwn.never rfl (@YW _ _ _ _ (@Yz _ _ _ _ _ _ _ _ _ _ _ _ F_law_lists hr (@Ya _ _ _ _ _ (pv 3) (@Ya _ _ _ _ _ (pv 2) (@Ya _ _ _ _ _ (@Yz _ _ _ _ _ _ _ _ _ _ _ _ Z5 hr (@Ya _ _ _ _ _ (pv 0) (@Ya _ _ _ _ _ Ye Yd (by rfl)) (by rfl)) (by omega) (by rfl) (by rfl) (by decide) (by rfl) (by rfl)) Yd (by rfl)) (by rfl)) (by rfl)) (by omega) (by rfl) (by rfl) (by decide) (by rfl) (by rfl))) (@Yu _ _ (4) _ W5.nd rfl (.inl rfl) (by first | exact .inl rfl | exact .inr rfl | assumption)) (@Yf _ _ _ _ _ (@YC _ _ _ _ _ _ _ _ (@Wl _ _ _ _ (@XB _ _ _ (@Yz _ _ _ _ _ _ _ _ _ _ _ _ ZX hr (@Ya _ _ _ _ _ (@YR _ _ _ _ _ (@Ya _ _ _ _ _ YA (@Ya _ _ _ _ _ (pv 1) Yd (by rfl)) (by rfl))) (@Ya _ _ _ _ _ (pv 4) (@Ya _ _ _ _ _ (@Yz _ _ _ _ _ _ _ _ _ _ _ _ Z16 hr (@Ya _ _ _ _ _ (pv 4) (@Ya _ _ _ _ _ Ye Yd (by rfl)) (by rfl)) (by omega) (by rfl) (by rfl) (by decide) (by rfl) (by rfl)) Yd (by rfl)) (by rfl)) (Y0 _ _ _ _ _)) (by omega) (by rfl) (by rfl) (by decide) (by rfl) (by rfl)) (by intro _;rfl))) (@Yg _ _ _ (@Yk _ _ _ _ X5)) Yq) (@Yf _ _ _ _ _ (@YC _ _ _ _ _ _ _ _ (@Wl _ _ _ _ (@XB _ _ _ (@Yz _ _ _ _ _ _ _ _ _ _ _ _ ZX hr (@Ya _ _ _ _ _ (@YR _ _ _ _ _ (@Ya _ _ _ _ _ YA (@Ya _ _ _ _ _ (pv 1) Yd (by rfl)) (by rfl))) (@Ya _ _ _ _ _ (pv 4) (@Ya _ _ _ _ _ (@Yz _ _ _ _ _ _ _ _ _ _ _ _ Z16 hr (@Ya _ _ _ _ _ (pv 4) (@Ya _ _ _ _ _ (@Wf _ _ _ _ _ _ XE Ye) Yd (by rfl)) (by rfl)) (by omega) (by rfl) (by rfl) (by decide) (by rfl) (by rfl)) Yd (by rfl)) (by rfl)) (Y0 _ _ _ _ _)) (by omega) (by rfl) (by rfl) (by decide) (by rfl) (by rfl)) (by intro _;rfl))) (@Yg _ _ _ (@Yk _ _ _ _ X5)) Yq) (@Yg _ _ _ (@YC _ _ _ _ _ _ _ _ (@Wl _ _ _ _ (@XB _ _ _ (@Yz _ _ _ _ _ _ _ _ _ _ _ _ ZX hr (@Ya _ _ _ _ _ (@YR _ _ _ _ _ (@Ya _ _ _ _ _ YA (@Ya _ _ _ _ _ (pv 1) (@Ya _ _ _ _ _ (pv 2) Yd (by rfl)) (by rfl)) (by rfl))) (@Ya _ _ _ _ _ (pv 4) (@Ya _ _ _ _ _ (@Yz _ _ _ _ _ _ _ _ _ _ _ _ F_law_alike hr (@Ya _ _ _ _ _ (pv 4) (@Ya _ _ _ _ _ (pv 2) Yd (by rfl)) (by rfl)) (by omega) (by rfl) (by rfl) (by decide) (by rfl) (by rfl)) Yd (by rfl)) (by rfl)) (Y0 _ _ _ _ _)) (by omega) (by rfl) (by rfl) (by decide) (by rfl) (by rfl)) (by intro _;rfl))) (@Yg _ _ _ (@Yk _ _ _ _ X5)) Yq)))) (by intro _;rfl)) (@Yg _ _ _ (@Yk _ _ _ _ X5)))))),?_⟩
 have hT:H P_law_lists=some (.tbl #[]):=ht _ (.head _)
 refine cut2 (fun σ H'=>∃ (v:V) (sh:Sh) (n:Nat),Yb H H'∧ShAt g.K H' v sh∧Prt sh∧1≤n∧n≤6∧σ=[some (.ref a),some v,some (.int n),none,none]) ?_ ?_
 rotate_left
 ·intro N hN
  walk_at "rd"
  refine ⟨a,ns,rfl,hS,hl,fun v sh H1 s1 hv hp=>⟨a,ns,0,rfl,s1.seq hS,hl,_,rfl,⟨by decide,by decide⟩,by decide,?_⟩⟩
  have p0:0≤ns.getD 0 0 / 3%6:=Int.emod_nonneg _ (by decide)
  have p1:ns.getD 0 0 / 3%6<6:=Int.emod_lt_of_pos _ (by decide)
  have:=hN [some (.ref a),some v,some (.int (1+ns.getD 0 0 / 3%6).toNat),none,none] H1 ⟨v,sh,(1+ns.getD 0 0 / 3%6).toNat,s1,hv,hp,by omega,by omega,rfl⟩
  rw [Int.toNat_of_nonneg (by omega)] at this
  exact this
 rintro σ H1 ⟨v,sh,n,s1,hv,hprt,hn1,hn6,rfl⟩
 refine WK (fun σ H'=>∃ (D:Addr) (ts:List Addr),Yb H1 H'∧H' D=some (.lst (ts.map V.ref))∧ts.length≤40∧Pg H' sh ts∧σ=[some (.ref a),some v,some (.int n),some (.ref D),none]) ?_ ?_
 rotate_left
 ·intro N hN
  walk_at "rd"
  refine Ycq (K:=g.K) (fun b xs H2=>(∃ cs:List Int,xs=cs.map V.int∧cs.length≤40)∧Yb H1 H2) (fun R r=>?_) ?_
  ·walk_at "rd"
   refine ⟨_,s1.seq hS,fun p hp=>r p _ _ (SqL.of Yc) ⟨⟨(ns.drop 3).take 40,?_,by simp;omega⟩,.upd_new hp _⟩⟩
   rw [show (3:Int)=((3:Nat):Int) from rfl,show (43:Int)=((43:Nat):Int) from rfl,Yam,List.map_take,List.map_drop]
  ·rintro b xs H2 hb ⟨⟨cs,rfl,hcl⟩,s2⟩
   refine ⟨by simp;omega,fun D i y H'=>∃ t,y = .ref t∧∃ d k g,PG (hid D H') sh t d k g,?_,?_,?_,?_⟩
   ·rintro D i y H5 H6 ⟨t,e,d,k,g,h⟩ s
    exact ⟨t,e,d,k,g,h.same (YcJ s)⟩
   ·rintro D i y H5 zs zs' ⟨t,e,d,k,g,h⟩ _
    exact ⟨t,e,d,k,g,h.same YdN⟩
   ·intro D i x H' zs hx sm hD R r
    rw [List.getElem?_map] at hx
    obtain ⟨c,_,rfl⟩:=Option.map_eq_some_iff.mp hx
    walk_at "rd"
    exact ⟨v,sh,c,rfl,(hv.keep s2).keep sm,Yes hprt,fun t d k g H'' s'' pg=>r (.ref t) H'' s'' ⟨t,rfl,d,k,g,pg.same (YdO hD)⟩⟩
   ·intro D ys H' hD sm hd hyl hrel
    obtain ⟨ts,h1,h2⟩:=Vj (P:=fun (z:V) (t:Addr)=>z = .ref t∧∃ d k g,PG (hid D H') sh t d k g) ys (fun i z hi=>by
     obtain ⟨t,e,h⟩:=hrel i z hi
     exact ⟨t,e,h⟩)
    have ey:ys=ts.map V.ref:=by
     refine List.ext_getElem? fun j=>?_
     rw [List.getElem?_map]
     by_cases c:j<ys.length
     ·have e1:ys[j]?=some ys[j]:=List.getElem?_eq_getElem c
      have e2:ts[j]?=some (ts[j]'(by omega)):=List.getElem?_eq_getElem _
      rw [e1,e2,(h2 j _ _ e1 e2).1]
      rfl
     ·rw [List.getElem?_eq_none (by omega),List.getElem?_eq_none (by omega)]
      rfl
    refine hN _ _ ⟨D,ts,s2.trans sm,by rw [hd,ey],by rw [h1,hyl,List.length_map];exact hcl,fun t ht=>?_,rfl⟩
    obtain ⟨j,hj⟩:=List.mem_iff_getElem?.mp ht
    have hlt:=(List.getElem?_eq_some_iff.mp hj).1
    have e1:ys[j]?=some (ys[j]'(by omega)):=List.getElem?_eq_getElem _
    obtain ⟨_,d,k,g,h⟩:=h2 j _ _ e1 hj
    exact ⟨d,k,g,h.same YcI⟩
 rintro σ H2 ⟨D,ts,s2,hD,hlt,hpg,rfl⟩
 have hT2:H2 P_law_lists=some (.tbl #[]):=s2 _ _ (s1 _ _ hT)
 refine WK (fun σ H'=>True) (fun σ H' _=>?_) ?_
 ·walk_at "rd"
  exact q H'
 intro N hN
 refine WQ (K:=g.K) (fun L xs H3=>∃ ls:List Addr,xs=ls.map V.ref∧Kt H2 H3∧H3 L=some (.lst (ls.map V.ref))∧ls.length≤10∧∀ l∈ls,Of H3 ts 43 l) (fun R r=>?_) ?_
 ·walk_at "rd"
  exact ⟨a,ns,2,rfl,s2.seq (s1.seq hS),hl,D,sh,ts,n,_,rfl,hD,hlt,hprt,hpg,hn1,hn6,hT2,fun L ls H3 k3 hL hl3 hof=>r L _ H3 (SqL.of hL) ⟨ls,rfl,k3,hL,hl3,hof⟩⟩
 rintro L xs H3 hLS ⟨ls,rfl,k3,hL,hl3,hof⟩
 have hv3:=(hv.keep s2).kt k3
 have hpg3:=hpg.kt k3
 refine ⟨fun i σ H'=>Yb H3 H'∧∃ o,σ=[some (.ref a),some v,some (.int n),some (.ref D),o],⟨.refl _,_,rfl⟩,fun i σ H' _ h=>SqL.of (h.1 _ _ hL),?_,fun σ H' _=>hN _ _ trivial⟩
 rintro i x σ H' hx ⟨s',o,rfl⟩
 rw [List.getElem?_map] at hx
 obtain ⟨l,hlm,rfl⟩:=Option.map_eq_some_iff.mp hx
 obtain ⟨ts',hl',hlt',hsub⟩:=hof l (List.mem_of_getElem? hlm)
 obtain ⟨ds,ks,gs,hp⟩:=QN (fun t ht=>hpg3 t (hsub t ht))
 have hfl:=QQ hprt hp
 have hd64:∀ g∈gs,(gr g).depth≤64:=fun g hg=>by have:=hfl.2 g hg;omega
 show Wa _ _ _ _ _
 refine WK (fun σ H'=>Yb H3 H'∧σ=[some (.ref a),some v,some (.int n),some (.ref D),some (.ref l)]) ?_ ?_
 rotate_left
 ·intro N hN
  walk_at "rd"
  refine ⟨few (by decide),fun p hp0=>?_⟩
  have w:=Yb.upd_new hp0 (.tup [V.str (Str.ofString "rising"),v])
  have s4:=s'.trans w
  obtain ⟨e1,e2⟩:=Yb7 hprt hp
  refine ⟨l,sh,ts',ds,ks,gs,0,_,rfl,s4 _ _ hl',by omega,hp.keep s4,hd64,.inl ⟨rfl,rfl⟩,fun H5 s5=>?_⟩
  have s45:=s4.trans s5
  exact ⟨_,l,sh,.lst .rising sh,ts',ds,ks,gs,_,rfl,.lst .rising (SqT.of (s5 _ _ Yc)) (hv3.keep s45),s45 _ _ hl',by omega,hp.keep s45,hfl,YaB hprt,e1,e2,fun H6 s6=>⟨_,rfl,Ym (by decide) (hN _ _ ⟨s45.trans s6,rfl⟩)⟩⟩
 rintro σ H4 ⟨s4,rfl⟩
 refine WK (fun σ H'=>Yb H3 H'∧σ=[some (.ref a),some v,some (.int n),some (.ref D),some (.ref l)]) ?_ ?_
 rotate_left
 ·intro N hN
  walk_at "rd"
  refine ⟨few (by decide),fun p hp0=>?_⟩
  have w:=Yb.upd_new hp0 (.tup [V.str (Str.ofString "unlike"),v])
  have s4:=s4.trans w
  obtain ⟨e1,e2⟩:=Yb8 hprt hp
  refine ⟨l,sh,ts',ds,ks,gs,-1,_,rfl,s4 _ _ hl',by omega,hp.keep s4,hd64,.inr ⟨rfl,rfl⟩,fun H5 s5=>?_⟩
  have s45:=s4.trans s5
  exact ⟨_,l,sh,.lst .unlike sh,ts',ds,ks,gs,_,rfl,.lst .unlike (SqT.of (s5 _ _ Yc)) (hv3.keep s45),s45 _ _ hl',by omega,hp.keep s45,hfl,YaB hprt,e1,e2,fun H6 s6=>⟨_,rfl,Ym (by decide) (hN _ _ ⟨s45.trans s6,rfl⟩)⟩⟩
 rintro σ H4 ⟨s4,rfl⟩
 walk_at "rd"
 refine ⟨few (by decide),fun p hp0=>?_⟩
 have w:=Yb.upd_new hp0 (.tup [V.str (Str.ofString "alike"),v,.int n])
 have s4:=s4.trans w
 obtain ⟨e1,e2⟩:=YcK (n:=n) hprt hp
 refine ⟨l,sh,ts',ds,ks,gs,n,rfl,s4 _ _ hl',by omega,hp.keep s4,hfl,fun H5 s5=>?_⟩
 have s45:=s4.trans s5
 exact ⟨_,l,sh,.alike sh n,ts',ds,ks,gs,_,rfl,.alike n (SqT.of (s5 _ _ Yc)) (hv3.keep s45),s45 _ _ hl',by omega,hp.keep s45,hfl,Yb6 hprt,e1,e2,fun H6 s6=>⟨_,rfl,Ym (by decide) (s45.trans s6)⟩⟩
theorem us1 {α:Type} {us:List α} (h:us.length=1):∃ a0,us=[a0]:=by
 match us,h with
 | [a0],_=>exact ⟨_,rfl⟩
theorem us2 {α:Type} {us:List α} (h:us.length=2):∃ a0 a1,us=[a0,a1]:=by
 match us,h with
 | [a0,a1],_=>exact ⟨_,_,rfl⟩
theorem us3 {α:Type} {us:List α} (h:us.length=3):∃ a0 a1 a2,us=[a0,a1,a2]:=by
 match us,h with
 | [a0,a1,a2],_=>exact ⟨_,_,_,rfl⟩
structure Top (K:PySem.W.Frag) (mg:Str→Option Value)  (c_law_lists P_law_lists:Addr):Prop where
 Z07:∀ P w base,(Gx.mk P w K mg base).Raw "_law_whole" "_law_whole" Z03 ["_law_found"]
 ZI:∀ P w base,(Gx.mk P w K mg base).Raw "_law_cell_at" "_law_cell_at" ZH ["_law_script","_law_k"]
 Zf:∀ P w base,(Gx.mk P w K mg base).Raw "is_whole_number" "is_whole_number" Zd ["thing"]
 Zz:∀ P w base,(Gx.mk P w K mg base).Raw "branch_place" "branch_place" Zv ["branches","mark"]
 Z0l:∀ P w base,(Gx.mk P w K mg base).Raw "shape_of" "shape_of" Z0e ["book","name"]
 Z0m:∀ P w base,(Gx.mk P w K mg base).Raw "has_mark" "has_mark" Z0f ["branches","value"]
 Z0n:∀ P w base,(Gx.mk P w K mg base).Raw "has_form" "has_form" Z0g ["shape","value"]
 Zu:∀ P w base,(Gx.mk P w K mg base).Raw "things_within" "things_within" Zq ["book","shape","value"]
 ZA:∀ P w base,(Gx.mk P w K mg base).Raw "sum_of_sizes" "sum_of_sizes" Zw ["keys"]
 ZY:∀ P w base,(Gx.mk P w K mg base).Raw "none_ahead" "none_ahead" ZR ["keys"]
 ZZ:∀ P w base,(Gx.mk P w K mg base).Raw "all_behind" "all_behind" ZS ["keys"]
 Z08:∀ P w base,(Gx.mk P w K mg base).Raw "all_alike" "all_alike" Z01 ["keys"]
 Zn:∀ P w base,(Gx.mk P w K mg base).Raw "groups_by_size" "groups_by_size" Zk ["keys"]
 Z09:∀ P w base,(Gx.mk P w K mg base).Raw "risen_key" "risen_key" Z02 ["size","keys"]
 Z0o:∀ P w base,(Gx.mk P w K mg base).Raw "list_key" "list_key" Z0h ["shape","keys"]
 Z0p:∀ P w base,(Gx.mk P w K mg base).Raw "key_made" "key_made" Z0i ["shape","value","keys"]
 Zb:∀ P w base,(Gx.mk P w K mg base).Raw "weighed" "weighed" Z0y ["book","shape","value"]
 Zo:∀ P w base,(Gx.mk P w K mg base).Raw "key_or_refusal" "key_or_refusal" Zl ["book","shape","value"]
 Z0q:∀ P w base,(Gx.mk P w K mg base).Raw "_law_part" "_law_part" Z0j ["_law_script"]
 Zh:∀ P w base,(Gx.mk P w K mg base).Raw "_law_thing" "_law_thing" Z04 ["_law_part_here","_law_cell"]
 f_fits:∀ P w base,(Gx.mk P w K mg base).Raw "fits" "fits" Qv ["book","shape","value"]
 Z0H:∀ P w base,(Gx.mk P w K mg base).Raw "size_of" "size_of" Z0z ["book","shape","value"]
 Z0r:∀ P w base,(Gx.mk P w K mg base).Raw "_law_good" "_law_good" Z0k ["_law_pairs","_law_most"]
 Z0a:∀ P w base,(Gx.mk P w K mg base).Raw "_law_alike" "_law_alike" Z06 ["_law_pairs","_law_times"]
 Z00:∀ P w base,(Gx.mk P w K mg base).Raw "_law_judged" "_law_judged" ZU ["_law_shape","_law_pairs","_law_good_here"]
 Z0b:∀ P w base,(Gx.mk P w K mg base).RawT "_law_lists" "_law_lists" ZD ["_law_some","_law_times","_law_cell"] c_law_lists
 ZJ:∀ P w base,(Gx.mk P w K mg base).ConT "OF_ONE_PART" ([.str "many",.str "rising",.str "unlike"])
 b_all:mg "all"=none
 b_bool:mg "bool"=none
 Zg:mg "enumerate"=none
 b_int:mg "int"=none
 Z0:mg "isinstance"=none
 b_len:mg "len"=none
 b_list:mg "list"=none
 b_max:mg "max"=none
 Zc:mg "range"=none
 ZW:mg "sorted"=none
 b_str:mg "str"=none
 b_sum:mg "sum"=none
 Z1:mg "tuple"=none
 b_zip:mg "zip"=none
theorem YcN {K:PySem.W.Frag} {mg:Str→Option Value}  {c_law_lists P_law_lists:Addr}  (t:Top K mg  c_law_lists P_law_lists) (P:Program) (w:World) (base:Heap) (hB:Bm mg base) (hC_law_lists:PySem.W.CodeHd base c_law_lists P_law_lists) :
  YaN (Gx.mk P w K mg base) 11 ["_law_script","_law_part_here","_law_times","_law_some","_law_pairs"] "law" UV (Vb K [("_law_lists",c_law_lists,P_law_lists)]):=by
 have G_law_whole:=Qy (g:=Gx.mk P w K mg base) (c_law_lists:=c_law_lists) (P_law_lists:=P_law_lists) (t.Z07 P w base) t.b_bool t.b_int t.Z0
 have Z0w:=Z18 (g:=Gx.mk P w K mg base) (c_law_lists:=c_law_lists) (P_law_lists:=P_law_lists) (t.ZI P w base) t.b_len
 have Z0L:=Z0B (g:=Gx.mk P w K mg base) (c_law_lists:=c_law_lists) (P_law_lists:=P_law_lists) (t.Zf P w base) t.b_bool t.b_int t.Z0
 have ZB:=Z12 (g:=Gx.mk P w K mg base) (c_law_lists:=c_law_lists) (P_law_lists:=P_law_lists) (t.Zz P w base) t.Zg
 have G_shape_of:=Q3 (g:=Gx.mk P w K mg base) (c_law_lists:=c_law_lists) (P_law_lists:=P_law_lists) (t.Z0l P w base)
 have G_has_mark:=Q4 (g:=Gx.mk P w K mg base) (k:=1) (c_law_lists:=c_law_lists) (P_law_lists:=P_law_lists) (t.Z0m P w base) (ZB.mono (by decide)) t.Z0 t.b_len t.b_str t.Z1
 have ZO:=Q5 (g:=Gx.mk P w K mg base) (k:=2) (c_law_lists:=c_law_lists) (P_law_lists:=P_law_lists) (t.Z0n P w base) (Z0L.mono (by decide)) (G_has_mark.mono (by decide)) t.b_all t.Z0 t.b_len t.b_list t.b_str t.Z1 (t.ZJ P w base)
 have Z9:=Z0V (g:=Gx.mk P w K mg base) (k:=1) (c_law_lists:=c_law_lists) (P_law_lists:=P_law_lists) (t.Zu P w base) (G_shape_of.mono (by decide)) (ZB.mono (by decide)) t.b_list t.b_zip (t.ZJ P w base)
 have Z0d:=Z13 (g:=Gx.mk P w K mg base) (c_law_lists:=c_law_lists) (P_law_lists:=P_law_lists) (t.ZA P w base) t.b_sum
 have G_none_ahead:=UO (g:=Gx.mk P w K mg base) (c_law_lists:=c_law_lists) (P_law_lists:=P_law_lists) (t.ZY P w base) t.b_all t.b_zip
 have G_all_behind:=UP (g:=Gx.mk P w K mg base) (c_law_lists:=c_law_lists) (P_law_lists:=P_law_lists) (t.ZZ P w base) t.b_all t.b_zip
 have G_all_alike:=QF (g:=Gx.mk P w K mg base) (c_law_lists:=c_law_lists) (P_law_lists:=P_law_lists) (t.Z08 P w base) t.b_all
 have Z0Z:=Z0J (g:=Gx.mk P w K mg base) (c_law_lists:=c_law_lists) (P_law_lists:=P_law_lists) (t.Zn P w base) t.b_len
 have G_risen_key:=QH (g:=Gx.mk P w K mg base) (k:=1) (c_law_lists:=c_law_lists) (P_law_lists:=P_law_lists) (t.Z09 P w base) (Z0Z.mono (by decide)) t.b_len t.Z1
 have G_list_key:=Q7 (g:=Gx.mk P w K mg base) (k:=2) (c_law_lists:=c_law_lists) (P_law_lists:=P_law_lists) (t.Z0o P w base) (Z0d.mono (by decide)) (G_none_ahead.mono (by decide)) (G_all_behind.mono (by decide)) (G_all_alike.mono (by decide)) (G_risen_key.mono (by decide)) t.b_len t.Z1
 have ZP:=Q8 (g:=Gx.mk P w K mg base) (k:=3) (c_law_lists:=c_law_lists) (P_law_lists:=P_law_lists) (t.Z0p P w base) (ZB.mono (by decide)) (Z0d.mono (by decide)) (G_list_key.mono (by decide)) t.b_len t.Z1
 have G_weighed_1:=ZN (g:=Gx.mk P w K mg base) (m:=0) (k:=4) (c_law_lists:=c_law_lists) (P_law_lists:=P_law_lists) (t.Zb P w base) (ZO.mono (by decide)) (Z9.mono (by decide)) (ZP.mono (by decide)) ((t.Zb P w base).none (fun _ _ _ _ h=>Ya2 h))
 have G_weighed_2:=ZN (g:=Gx.mk P w K mg base) (m:=1) (k:=5) (c_law_lists:=c_law_lists) (P_law_lists:=P_law_lists) (t.Zb P w base) (ZO.mono (by decide)) (Z9.mono (by decide)) (ZP.mono (by decide)) (G_weighed_1.mono (by decide))
 have G_weighed_3:=ZN (g:=Gx.mk P w K mg base) (m:=2) (k:=6) (c_law_lists:=c_law_lists) (P_law_lists:=P_law_lists) (t.Zb P w base) (ZO.mono (by decide)) (Z9.mono (by decide)) (ZP.mono (by decide)) (G_weighed_2.mono (by decide))
 have G_weighed:=ZN (g:=Gx.mk P w K mg base) (m:=3) (k:=7) (c_law_lists:=c_law_lists) (P_law_lists:=P_law_lists) (t.Zb P w base) (ZO.mono (by decide)) (Z9.mono (by decide)) (ZP.mono (by decide)) (G_weighed_3.mono (by decide))
 have Z10:=Z0K (g:=Gx.mk P w K mg base) (k:=8) (c_law_lists:=c_law_lists) (P_law_lists:=P_law_lists) (t.Zo P w base) (G_weighed.mono (by decide))
 have G_law_part:=Q9 (g:=Gx.mk P w K mg base) (k:=1) (c_law_lists:=c_law_lists) (P_law_lists:=P_law_lists) (t.Z0q P w base) (Z0w.mono (by decide))
 have G_law_thing_1:=Z0F (g:=Gx.mk P w K mg base) (m:=0) (k:=0) (c_law_lists:=c_law_lists) (P_law_lists:=P_law_lists) (t.Zh P w base) ((t.Zh P w base).none (fun _ _ _ _ h=>YcH h)) t.b_len t.Zc
 have G_law_thing:=Z0F (g:=Gx.mk P w K mg base) (m:=1) (k:=1) (c_law_lists:=c_law_lists) (P_law_lists:=P_law_lists) (t.Zh P w base) (G_law_thing_1.mono (by decide)) t.b_len t.Zc
 have G_fits:=YdK (g:=Gx.mk P w K mg base) (k:=8) (c_law_lists:=c_law_lists) (P_law_lists:=P_law_lists) (t.f_fits P w base) (G_weighed.mono (by decide))
 have G_size_of:=Ya4 (g:=Gx.mk P w K mg base) (k:=9) (c_law_lists:=c_law_lists) (P_law_lists:=P_law_lists) (t.Z0H P w base) (Z10.mono (by decide))
 have G_law_good:=Yaa (g:=Gx.mk P w K mg base) (c_law_lists:=c_law_lists) (P_law_lists:=P_law_lists) (t.Z0r P w base) t.b_int t.b_zip
 have G_law_alike:=QL (g:=Gx.mk P w K mg base) (c_law_lists:=c_law_lists) (P_law_lists:=P_law_lists) (t.Z0a P w base) t.b_len
 have G_law_judged:=UQ (g:=Gx.mk P w K mg base) (k:=10) (c_law_lists:=c_law_lists) (P_law_lists:=P_law_lists) (t.Z00 P w base) (G_fits.mono (by decide)) (G_size_of.mono (by decide)) (G_law_whole.mono (by decide)) t.b_bool t.Z0 t.b_sum
 have G_law_lists:=QS (g:=Gx.mk P w K mg base) (k:=3) (c_law_lists:=c_law_lists) (P_law_lists:=P_law_lists) (t.Z0b P w base) hB hC_law_lists (by decide) t.b_len t.b_max t.Zc t.ZW
 exact YcM (g:=Gx.mk P w K mg base) (k:=11) (c_law_lists:=c_law_lists) (P_law_lists:=P_law_lists) (Z0w.mono (by decide)) (G_law_part.mono (by decide)) (G_law_thing.mono (by decide)) (G_law_lists.mono (by decide)) (G_law_good.mono (by decide)) (G_law_alike.mono (by decide)) (G_law_judged.mono (by decide))
end KW
theorem PySem.W.Fast.tw9071160040405104980:True:=trivial
theorem PySem.W.Fast.tw6961793341302479111:True:=trivial
theorem PySem.W.Fast.tw2806124951236141295:True:=trivial
theorem PySem.W.Fast.tw4410198423282948935:True:=trivial
theorem PySem.W.Fast.tw11156957838354920242:True:=trivial
theorem PySem.W.Fast.tw16492896238137814214:True:=trivial
theorem PySem.W.Fast.tw15379533976829470327:True:=trivial
theorem PySem.W.Fast.tw10362461072927667636:True:=trivial
theorem PySem.W.Fast.tw5247412166699444284:True:=trivial
theorem PySem.W.Fast.tw3664545703461799837:True:=trivial
theorem PySem.W.Fast.tw15989079794586251574:True:=trivial
theorem PySem.W.Fast.tw2573215062198191869:True:=trivial
theorem PySem.W.Fast.tw9685381799834504200:True:=trivial
theorem PySem.W.Fast.tw9177318799774327046:True:=trivial
theorem PySem.W.Fast.tw9167973499455659810:True:=trivial
theorem PySem.W.Fast.tw13579353171260691895:True:=trivial
theorem PySem.W.Fast.tw6975099505143979307:True:=trivial
theorem PySem.W.Fast.tw8622425274256304202:True:=trivial
theorem PySem.W.Fast.tw5030800020027436696:True:=trivial
theorem PySem.W.Fast.tw1477851177430202683:True:=trivial
theorem PySem.W.Fast.tw16855461927986224099:True:=trivial
theorem PySem.W.Fast.tw16164897620840707698:True:=trivial
theorem PySem.W.Fast.tw3272628827229789970:True:=trivial
theorem PySem.W.Fast.tw408177505474500307:True:=trivial
theorem PySem.W.Fast.tw2383111742754289810:True:=trivial
theorem PySem.W.Fast.tw18154066208709175302:True:=trivial
theorem PySem.W.Fast.tw5151148576858187040:True:=trivial
theorem PySem.W.Fast.tw15401698619196832611:True:=trivial
theorem PySem.W.Fast.tw6343740912847864306:True:=trivial
theorem PySem.W.Fast.tw12353091711545791405:True:=trivial
theorem PySem.W.Fast.tw11345169944537604285:True:=trivial
theorem PySem.W.Fast.tw5502570780651337157:True:=trivial
theorem PySem.W.Fast.tw15399955140929366997:True:=trivial
theorem PySem.W.Fast.tw213728622756419058:True:=trivial
theorem PySem.W.Fast.tw12786788680054699429:True:=trivial
theorem PySem.W.Fast.tw15202817690810125873:True:=trivial
theorem PySem.W.Fast.tw3928203794650747751:True:=trivial
theorem PySem.W.Fast.tw9320999364623958513:True:=trivial
theorem PySem.W.Fast.tw7785446961480778540:True:=trivial
theorem PySem.W.Fast.tw1986791335117694476:True:=trivial
theorem PySem.W.Fast.tw17777300268980892018:True:=trivial
theorem PySem.W.Fast.tw16226323983487501297:True:=trivial
theorem PySem.W.Fast.tw11098905791977716548:True:=trivial
theorem PySem.W.Fast.tw17247213199851982602:True:=trivial
theorem PySem.W.Fast.tw17479702638954732322:True:=trivial
theorem PySem.W.Fast.tw2096846848563218130:True:=trivial
theorem PySem.W.Fast.tw8313184263125141524:True:=trivial
theorem PySem.W.Fast.tw2011444330745405100:True:=trivial
theorem PySem.W.Fast.tw12220926628756885615:True:=trivial
theorem PySem.W.Fast.tw10149941212566465393:True:=trivial
theorem PySem.W.Fast.tw10141221349332683249:True:=trivial
theorem PySem.W.Fast.tw12524897706371891578:True:=trivial
theorem PySem.W.Fast.tw11742701540941723674:True:=trivial
theorem PySem.W.Fast.tw14446418946668407788:True:=trivial
theorem PySem.W.Fast.tw17573443009983594094:True:=trivial
theorem PySem.W.Fast.tw8664749694694552107:True:=trivial
theorem PySem.W.Fast.tw5643872488093227991:True:=trivial
theorem PySem.W.Fast.tw3851081470101698421:True:=trivial
theorem PySem.W.Fast.tw6488867815121805311:True:=trivial
theorem PySem.W.Fast.tw10355279164218822114:True:=trivial
theorem PySem.W.Fast.tw11277322443016323130:True:=trivial
theorem PySem.W.Fast.tw13967549778318677619:True:=trivial
theorem PySem.W.Fast.tw7060080867270758738:True:=trivial
theorem PySem.W.Fast.tw5947922277808242746:True:=trivial
theorem PySem.W.Fast.tw6742729111950481779:True:=trivial
theorem PySem.W.Fast.tw14916759650026733111:True:=trivial
theorem PySem.W.Fast.tw6917801767185819071:True:=trivial
theorem PySem.W.Fast.tw6937822704811200123:True:=trivial
theorem PySem.W.Fast.tw8689255131383797083:True:=trivial
theorem PySem.W.Fast.tw12263896688729568251:True:=trivial
theorem PySem.W.Fast.tw4587233877907445833:True:=trivial
theorem PySem.W.Fast.tw11710502019837847540:True:=trivial
theorem PySem.W.Fast.tw18109807134255820176:True:=trivial
theorem PySem.W.Fast.tw5516058820898682090:True:=trivial
theorem PySem.W.Fast.tw12351814790366005765:True:=trivial
theorem PySem.W.Fast.tw14407793995188562385:True:=trivial
theorem PySem.W.Fast.tw11678576097388829481:True:=trivial
theorem PySem.W.Fast.tw4208827288773683963:True:=trivial
theorem PySem.W.Fast.tw9053665521507274135:True:=trivial
theorem PySem.W.Fast.tw3656404126388138890:True:=trivial
theorem PySem.W.Fast.tw1966912008303138720:True:=trivial
theorem PySem.W.Fast.tw6322240977567900744:True:=trivial
theorem PySem.W.Fast.tw13654624931126009631:True:=trivial
theorem PySem.W.Fast.tw16289909893380791470:True:=trivial
theorem PySem.W.Fast.tw6422128218750912534:True:=trivial
theorem PySem.W.Fast.tw8794508130569403099:True:=trivial
theorem PySem.W.Fast.tw17021390629351536924:True:=trivial
theorem PySem.W.Fast.tw17532035407646391130:True:=trivial
theorem PySem.W.Fast.tw1945456034556316953:True:=trivial
theorem PySem.W.Fast.tw10039069570675592493:True:=trivial
theorem PySem.W.Fast.tw15278028173445058780:True:=trivial
theorem PySem.W.Fast.tw17456795171251969316:True:=trivial
theorem PySem.W.Fast.tw3515178905146789932:True:=trivial
theorem PySem.W.Fast.tw15020553686427375810:True:=trivial
theorem PySem.W.Fast.tw5291774197732712419:True:=trivial
theorem PySem.W.Fast.tw12809236353974870637:True:=trivial
theorem PySem.W.Fast.tw9482858175024264863:True:=trivial
theorem PySem.W.Fast.tw9057971750330354479:True:=trivial
theorem PySem.W.Fast.tw14552699871590886608:True:=trivial
theorem PySem.W.Fast.tw14420584520460730576:True:=trivial
theorem PySem.W.Fast.tw4679681107724813386:True:=trivial
theorem PySem.W.Fast.tw18398219915113557726:True:=trivial
theorem PySem.W.Fast.tw14339859936777322185:True:=trivial
theorem PySem.W.Fast.tw12100969709139396837:True:=trivial
theorem PySem.W.Fast.tw11266483174226062848:True:=trivial
theorem PySem.W.Fast.tw15873750235353457779:True:=trivial
theorem PySem.W.Fast.tw7988665970250757055:True:=trivial
theorem PySem.W.Fast.tw7424787450964577847:True:=trivial
theorem PySem.W.Fast.tw6987612785664920587:True:=trivial
theorem PySem.W.Fast.tw2574765725791667686:True:=trivial
theorem PySem.W.Fast.tw18118855159803484855:True:=trivial
theorem PySem.W.Fast.tw16204568485612140453:True:=trivial
theorem PySem.W.Fast.tw15576403756062646522:True:=trivial
theorem PySem.W.Fast.tw12945923657172378965:True:=trivial
theorem PySem.W.Fast.tw1179534996679896849:True:=trivial
theorem PySem.W.Fast.tw16643559296638225109:True:=trivial
theorem PySem.W.Fast.tw13282089070454511561:True:=trivial
theorem PySem.W.Fast.tw11293076216918884509:True:=trivial
theorem PySem.W.Fast.tw7839441732553292888:True:=trivial
theorem PySem.W.Fast.tw6365706876647611670:True:=trivial
theorem PySem.W.Fast.tw2563196001165275711:True:=trivial
theorem PySem.W.Fast.tw16413981333165727203:True:=trivial
theorem PySem.W.Fast.tw14862887562145147313:True:=trivial
theorem PySem.W.Fast.tw10664433185226690578:True:=trivial
theorem PySem.W.Fast.tw1046801580858566354:True:=trivial
theorem PySem.W.Fast.tw6711593135481595587:True:=trivial
theorem PySem.W.Fast.tw5195916802240297664:True:=trivial
theorem PySem.W.Fast.tw452250036638338823:True:=trivial
theorem PySem.W.Fast.tw3781085462435271223:True:=trivial
theorem PySem.W.Fast.tw17808247612320637418:True:=trivial
theorem PySem.W.Fast.tw17753743840489762868:True:=trivial
theorem PySem.W.Fast.tw17269263768092572848:True:=trivial
theorem PySem.W.Fast.tw16981086686696639389:True:=trivial
theorem PySem.W.Fast.tw10603054943202310452:True:=trivial
theorem PySem.W.Fast.tw333135275444085225:True:=trivial
theorem PySem.W.Fast.tw3307021474256234401:True:=trivial
open PySem PySem.W PyProof.Rows
set_option maxRecDepth 100000 in
set_option maxHeartbeats 0 in
theorem PySem.Challenge.cw_countgen_k24_lists_in_order_judged_holds : PySem.Challenge.rw_countgen_k24_lists_in_order_judged.Holds := by
 w_on;o_law;k_head;(case hw=>w_witness2)
 k_fill
 refine' L2.Ycr (l:=PySem.Challenge.rw_countgen_k24_lists_in_order_judged) (tabs:=[("_law_lists",201,199)]) 11 "_law_script" KW.UV ["_law_script","_law_part_here","_law_times","_law_some","_law_pairs"] rfl rfl ⟨rfl,by decide,by decide,rfl⟩ KW.W5 (fun w h Y=>by first | exact PySem.W.kIn_of Y | exact PySem.W.km_in_of Y) ?tR ?tT ?tN ?F
 case tR=>intro p hp;simp only [List.mem_cons,List.not_mem_nil,or_false] at hp;rcases hp with rfl<;>exact ⟨_,rfl⟩
 case tT=>intro w p hp;simp only [List.mem_cons,List.not_mem_nil,or_false] at hp;rcases hp with rfl<;>kernel_rfl
 case tN=>intro w p hp;simp only [List.mem_cons,List.not_mem_nil,or_false] at hp;rcases hp with rfl<;>kernel_rfl
 case F =>
  intro w mg h KX G
  refine' ⟨L2.Yby KX G ?a ?l ?c ?k (fun _ _ _ _ _ _ _ _ => .of_eq rfl),fun base hB hC=>KW.YcN ⟨?Z07,?ZI,?Zf,?Zz,?Z0l,?Z0m,?Z0n,?Zu,?ZA,?ZY,?ZZ,?Z08,?Zn,?Z09,?Z0o,?Z0p,?Zb,?Zo,?Z0q,?Zh,?f_fits,?Z0H,?Z0r,?Z0a,?Z00,?Z0b,?ZJ,?b_all,?b_bool,?Zg,?b_int,?Z0,?b_len,?b_list,?b_max,?Zc,?ZW,?b_str,?b_sum,?Z1,?b_zip⟩ _ w base hB (hC _ (.head _))⟩
  (case a=>k_is)
  (case l=>k_is)
  (case c=>k_is)
  (case k=>k_is)
  case Z07 =>
   refine' L2.YI KX G ["_law_found"] ?a ?l ?c ?k (fun _ _ _ _ _ _ us hl=>by obtain ⟨_,rfl⟩:=KW.us1 hl;rfl)
   (case a=>k_is)
   (case l=>k_is)
   (case c=>k_is)
   (case k=>k_is)
  case ZI =>
   refine' L2.YI KX G ["_law_script","_law_k"] ?a ?l ?c ?k (fun _ _ _ _ _ _ us hl=>by obtain ⟨_,_,rfl⟩:=KW.us2 hl;rfl)
   (case a=>k_is)
   (case l=>k_is)
   (case c=>k_is)
   (case k=>k_is)
  case Zf =>
   refine' L2.YI KX G ["thing"] ?a ?l ?c ?k (fun _ _ _ _ _ _ us hl=>by obtain ⟨_,rfl⟩:=KW.us1 hl;rfl)
   (case a=>k_is)
   (case l=>k_is)
   (case c=>k_is)
   (case k=>k_is)
  case Zz =>
   refine' L2.YI KX G ["branches","mark"] ?a ?l ?c ?k (fun _ _ _ _ _ _ us hl=>by obtain ⟨_,_,rfl⟩:=KW.us2 hl;rfl)
   (case a=>k_is)
   (case l=>k_is)
   (case c=>k_is)
   (case k=>k_is)
  case Z0l =>
   refine' L2.YI KX G ["book","name"] ?a ?l ?c ?k (fun _ _ _ _ _ _ us hl=>by obtain ⟨_,_,rfl⟩:=KW.us2 hl;rfl)
   (case a=>k_is)
   (case l=>k_is)
   (case c=>k_is)
   (case k=>k_is)
  case Z0m =>
   refine' L2.YI KX G ["branches","value"] ?a ?l ?c ?k (fun _ _ _ _ _ _ us hl=>by obtain ⟨_,_,rfl⟩:=KW.us2 hl;rfl)
   (case a=>k_is)
   (case l=>k_is)
   (case c=>k_is)
   (case k=>k_is)
  case Z0n =>
   refine' L2.YI KX G ["shape","value"] ?a ?l ?c ?k (fun _ _ _ _ _ _ us hl=>by obtain ⟨_,_,rfl⟩:=KW.us2 hl;rfl)
   (case a=>k_is)
   (case l=>k_is)
   (case c=>k_is)
   (case k=>k_is)
  case Zu =>
   refine' L2.YI KX G ["book","shape","value"] ?a ?l ?c ?k (fun _ _ _ _ _ _ us hl=>by obtain ⟨_,_,_,rfl⟩:=KW.us3 hl;rfl)
   (case a=>k_is)
   (case l=>k_is)
   (case c=>k_is)
   (case k=>k_is)
  case ZA =>
   refine' L2.YI KX G ["keys"] ?a ?l ?c ?k (fun _ _ _ _ _ _ us hl=>by obtain ⟨_,rfl⟩:=KW.us1 hl;rfl)
   (case a=>k_is)
   (case l=>k_is)
   (case c=>k_is)
   (case k=>k_is)
  case ZY =>
   refine' L2.YI KX G ["keys"] ?a ?l ?c ?k (fun _ _ _ _ _ _ us hl=>by obtain ⟨_,rfl⟩:=KW.us1 hl;rfl)
   (case a=>k_is)
   (case l=>k_is)
   (case c=>k_is)
   (case k=>k_is)
  case ZZ =>
   refine' L2.YI KX G ["keys"] ?a ?l ?c ?k (fun _ _ _ _ _ _ us hl=>by obtain ⟨_,rfl⟩:=KW.us1 hl;rfl)
   (case a=>k_is)
   (case l=>k_is)
   (case c=>k_is)
   (case k=>k_is)
  case Z08 =>
   refine' L2.YI KX G ["keys"] ?a ?l ?c ?k (fun _ _ _ _ _ _ us hl=>by obtain ⟨_,rfl⟩:=KW.us1 hl;rfl)
   (case a=>k_is)
   (case l=>k_is)
   (case c=>k_is)
   (case k=>k_is)
  case Zn =>
   refine' L2.YI KX G ["keys"] ?a ?l ?c ?k (fun _ _ _ _ _ _ us hl=>by obtain ⟨_,rfl⟩:=KW.us1 hl;rfl)
   (case a=>k_is)
   (case l=>k_is)
   (case c=>k_is)
   (case k=>k_is)
  case Z09 =>
   refine' L2.YI KX G ["size","keys"] ?a ?l ?c ?k (fun _ _ _ _ _ _ us hl=>by obtain ⟨_,_,rfl⟩:=KW.us2 hl;rfl)
   (case a=>k_is)
   (case l=>k_is)
   (case c=>k_is)
   (case k=>k_is)
  case Z0o =>
   refine' L2.YI KX G ["shape","keys"] ?a ?l ?c ?k (fun _ _ _ _ _ _ us hl=>by obtain ⟨_,_,rfl⟩:=KW.us2 hl;rfl)
   (case a=>k_is)
   (case l=>k_is)
   (case c=>k_is)
   (case k=>k_is)
  case Z0p =>
   refine' L2.YI KX G ["shape","value","keys"] ?a ?l ?c ?k (fun _ _ _ _ _ _ us hl=>by obtain ⟨_,_,_,rfl⟩:=KW.us3 hl;rfl)
   (case a=>k_is)
   (case l=>k_is)
   (case c=>k_is)
   (case k=>k_is)
  case Zb =>
   refine' L2.YI KX G ["book","shape","value"] ?a ?l ?c ?k (fun _ _ _ _ _ _ us hl=>by obtain ⟨_,_,_,rfl⟩:=KW.us3 hl;rfl)
   (case a=>k_is)
   (case l=>k_is)
   (case c=>k_is)
   (case k=>k_is)
  case Zo =>
   refine' L2.YI KX G ["book","shape","value"] ?a ?l ?c ?k (fun _ _ _ _ _ _ us hl=>by obtain ⟨_,_,_,rfl⟩:=KW.us3 hl;rfl)
   (case a=>k_is)
   (case l=>k_is)
   (case c=>k_is)
   (case k=>k_is)
  case Z0q =>
   refine' L2.YI KX G ["_law_script"] ?a ?l ?c ?k (fun _ _ _ _ _ _ us hl=>by obtain ⟨_,rfl⟩:=KW.us1 hl;rfl)
   (case a=>k_is)
   (case l=>k_is)
   (case c=>k_is)
   (case k=>k_is)
  case Zh =>
   refine' L2.YI KX G ["_law_part_here","_law_cell"] ?a ?l ?c ?k (fun _ _ _ _ _ _ us hl=>by obtain ⟨_,_,rfl⟩:=KW.us2 hl;rfl)
   (case a=>k_is)
   (case l=>k_is)
   (case c=>k_is)
   (case k=>k_is)
  case f_fits =>
   refine' L2.YI KX G ["book","shape","value"] ?a ?l ?c ?k (fun _ _ _ _ _ _ us hl=>by obtain ⟨_,_,_,rfl⟩:=KW.us3 hl;rfl)
   (case a=>k_is)
   (case l=>k_is)
   (case c=>k_is)
   (case k=>k_is)
  case Z0H =>
   refine' L2.YI KX G ["book","shape","value"] ?a ?l ?c ?k (fun _ _ _ _ _ _ us hl=>by obtain ⟨_,_,_,rfl⟩:=KW.us3 hl;rfl)
   (case a=>k_is)
   (case l=>k_is)
   (case c=>k_is)
   (case k=>k_is)
  case Z0r =>
   refine' L2.YI KX G ["_law_pairs","_law_most"] ?a ?l ?c ?k (fun _ _ _ _ _ _ us hl=>by obtain ⟨_,_,rfl⟩:=KW.us2 hl;rfl)
   (case a=>k_is)
   (case l=>k_is)
   (case c=>k_is)
   (case k=>k_is)
  case Z0a =>
   refine' L2.YI KX G ["_law_pairs","_law_times"] ?a ?l ?c ?k (fun _ _ _ _ _ _ us hl=>by obtain ⟨_,_,rfl⟩:=KW.us2 hl;rfl)
   (case a=>k_is)
   (case l=>k_is)
   (case c=>k_is)
   (case k=>k_is)
  case Z00 =>
   refine' L2.YI KX G ["_law_shape","_law_pairs","_law_good_here"] ?a ?l ?c ?k (fun _ _ _ _ _ _ us hl=>by obtain ⟨_,_,_,rfl⟩:=KW.us3 hl;rfl)
   (case a=>k_is)
   (case l=>k_is)
   (case c=>k_is)
   (case k=>k_is)
  case Z0b =>
   refine' L2.Ydz KX G ["_law_some","_law_times","_law_cell"] ?a ?l ?c ?k ?e (fun _ _ _ _ _ _ us hl=>by obtain ⟨_,_,_,rfl⟩:=KW.us3 hl;rfl)
   (case a=>k_is)
   (case l=>k_is)
   (case c=>k_is)
   (case k=>k_is)
   (case e=>rfl)
  case ZJ =>
   refine' L2.Ydr KX G ?a ?l ?z ?r
   (case a=>k_is)
   (case l=>k_is)
   (case z=>decide)
   (case r=>exact (.cons ⟨_,rfl⟩ (.cons ⟨_,rfl⟩ (.cons ⟨_,rfl⟩ .nil))))
  case b_all =>
   refine' PySem.W.mg_none_of KX G ?a
   (case a=>k_is)
  case b_bool =>
   refine' PySem.W.mg_none_of KX G ?a
   (case a=>k_is)
  case Zg =>
   refine' PySem.W.mg_none_of KX G ?a
   (case a=>k_is)
  case b_int =>
   refine' PySem.W.mg_none_of KX G ?a
   (case a=>k_is)
  case Z0 =>
   refine' PySem.W.mg_none_of KX G ?a
   (case a=>k_is)
  case b_len =>
   refine' PySem.W.mg_none_of KX G ?a
   (case a=>k_is)
  case b_list =>
   refine' PySem.W.mg_none_of KX G ?a
   (case a=>k_is)
  case b_max =>
   refine' PySem.W.mg_none_of KX G ?a
   (case a=>k_is)
  case Zc =>
   refine' PySem.W.mg_none_of KX G ?a
   (case a=>k_is)
  case ZW =>
   refine' PySem.W.mg_none_of KX G ?a
   (case a=>k_is)
  case b_str =>
   refine' PySem.W.mg_none_of KX G ?a
   (case a=>k_is)
  case b_sum =>
   refine' PySem.W.mg_none_of KX G ?a
   (case a=>k_is)
  case Z1 =>
   refine' PySem.W.mg_none_of KX G ?a
   (case a=>k_is)
  case b_zip =>
   refine' PySem.W.mg_none_of KX G ?a
   (case a=>k_is)
