import PyProof.Rows.All
import Wide.All
import OpenK.AllK
import Wide.FinOn
import Lean
import PyProof.EqAt
import PyProof.EqKinds
import PyProof.TupleCall
import PyProof.NeData
import KE.KTryMore
import PyProof.ExcBaseAll.ValueError
import PyProof.ExcArgsOwn
import KE.KIntText
import PyProof.Rows.SetFrom
import PyProof.SetRoads
import PyProof.StrWalks
import PyProof.ListStr
import PyProof.Rows.StrSplitCount
import PyProof.MeetsStr
import PyProof.MeetsStr2
import PyProof.StrOps2
import KE.KTryOn
import OpenK.KMake
import PyProof.ReprRoads
import PyProof.ReprLen
import PyProof.StrLawsRepr
import PyProof.CallFns
import KE.KSortTup
import PyProof.StrCalls6
import PyProof.MeetsStr3
import PyProof.CollectIter
import PySem.Challenge.RW_countgen_k61_too_many
set_option compiler.extract_closed false
set_option Elab.async false
set_option linter.all false
set_option maxRecDepth 100000
namespace L2
open PySem PySem.Spec PyProof.Rows
abbrev Key:=Sum Int Str
def Vj:Key→Value→Bool
 | .inl k,v=>Value.isInt k v
 | .inr x,v=>Value.isStrOf x v
def keyH (w:World):Key→Int
 | .inl k=>hashInt k
 | .inr x=>hashStr w x
theorem Y3:∀ {k:Key} {v:Value},Vj k v=true→(∃ i t,k=Sum.inl i∧v=Value.int i t)∨(∃ x t,k=Sum.inr x∧v=Value.str x t)
 | .inl i,v,h=>by
  obtain ⟨t,e⟩:=Value.isInt_shape (k:=i) (v:=v) h
  exact .inl ⟨i,t,rfl,e⟩
 | .inr x,v,h=>by
  obtain ⟨t,e⟩:=Value.isStrOf_shape (x:=x) (v:=v) h
  exact .inr ⟨x,t,rfl,e⟩
theorem Ybd (i:Int) (t:Tok):Vj (.inl i) (.int i t)=true:=by simp [Vj,Value.isInt]
theorem Ybe (x:Str) (t:Tok):Vj (.inr x) (.str x t)=true:=by simp [Vj,Value.isStrOf]
theorem YdZ (a b:Int):decide ((Sum.inl a:Key)=Sum.inl b)=(a==b):=by
 by_cases e:a=b
 ·subst e;simp
 ·have h:¬ (Sum.inl a:Key)=Sum.inl b:=fun q=>e (Sum.inl.inj q)
  rw [decide_eq_false h]
  exact (beq_eq_false_iff_ne.mpr e).symm
theorem Yd0 (a b:Str):decide ((Sum.inr a:Key)=Sum.inr b)=decide (a=b):=by
 by_cases e:a=b
 ·subst e;simp
 ·have h:¬ (Sum.inr a:Key)=Sum.inr b:=fun q=>e (Sum.inr.inj q)
  rw [decide_eq_false h,decide_eq_false e]
theorem Yd1 (a:Int) (b:Str):decide ((Sum.inl a:Key)=Sum.inr b)=false:=decide_eq_false (fun q=>nomatch q)
theorem Yd2 (a:Str) (b:Int):decide ((Sum.inr a:Key)=Sum.inl b)=false:=decide_eq_false (fun q=>nomatch q)
def Xu (prog:Program) (w:World):PySem.KeyKind prog w Key where
 is:=Vj
 hash:=keyH w
 inj:=fun v a b ha hb=>by
  rcases Y3 ha with ⟨i,t,rfl,rfl⟩ | ⟨x,t,rfl,rfl⟩
  ·rcases Y3 hb with ⟨j,u,rfl,e⟩ | ⟨y,u,rfl,e⟩
   ·injection e with e1 _;rw [e1]
   ·exact nomatch e
  ·rcases Y3 hb with ⟨j,u,rfl,e⟩ | ⟨y,u,rfl,e⟩
   ·exact nomatch e
   ·injection e with e1 _;rw [e1]
 byValue:=fun k v h=>by
  rcases Y3 h with ⟨i,t,rfl,rfl⟩ | ⟨x,t,rfl,rfl⟩<;>rfl
 pyHash:=fun hv h=>by
  rcases Y3 hv with ⟨i,t,rfl,rfl⟩ | ⟨x,t,rfl,rfl⟩
  ·exact wpAny_pyHash_int h
  ·exact wpAny_pyHash_str h
 eqBool:=fun hu hv h=>by
  rcases Y3 hu with ⟨i,t,rfl,rfl⟩ | ⟨x,t,rfl,rfl⟩
  ·rcases Y3 hv with ⟨j,u,rfl,rfl⟩ | ⟨y,u,rfl,rfl⟩
   ·rw [YdZ] at h;exact wpAny_eqBool_int h
   ·rw [Yd1] at h;exact SeqAt.EqAt.int_str i t y u _ _ _ _ h
  ·rcases Y3 hv with ⟨j,u,rfl,rfl⟩ | ⟨y,u,rfl,rfl⟩
   ·rw [Yd2] at h;exact SeqAt.EqAt.str_int x t j u _ _ _ _ h
   ·rw [Yd0] at h;exact wpAny_eqBool_str h
 «strs»:=fun k x t v h=>by
  rcases Y3 h with ⟨i,u,rfl,e⟩ | ⟨y,u,rfl,e⟩
  ·exact nomatch e
  ·injection e with e1 _
   subst e1
   cases v<;>rfl
theorem QI (prog:Program) (w:World) (i:Int) (t:Tok):(Xu prog w).is (.inl i) (.int i t)=true:=Ybd i t
theorem QJ (prog:Program) (w:World) (x:Str) (t:Tok):(Xu prog w).is (.inr x) (.str x t)=true:=Ybe x t
end L2
namespace L2
open PySem PySem.Spec PyProof.Rows
inductive V where
 | non | bl (b:Bool) | int (i:Int) | str (x:Str) | byt (b:Array UInt8) | flt (b:UInt64) | ref (a:Addr) | ty (n:String)
 deriving DecidableEq
def Ys:V→Value→Prop
 | .non,u=>u=Value.none
 | .bl b,u=>u=Value.bool b
 | .int i,u=>∃ t,u=Value.int i t
 | .str x,u=>∃ t,u=Value.str x t
 | .byt b,u=>∃ t,u=Value.bytes b t
 | .flt b,u=>∃ t,u=Value.float b t
 | .ref a,u=>u=Value.ref a
 | .ty n,u=>u=Value.type n
abbrev Ym:List V→List Value→Prop:=Paired Ys
theorem Ym.length {xs:List V} {us:List Value} (r:Ym xs us):xs.length=us.length:=Paired.length r
theorem Ym.get:∀ {xs:List V} {us:List Value} {i:Nat} {x:V},Ym xs us→xs[i]?=some x→∃ u,us[i]?=some u∧Ys x u
 | _,_,_,_,.nil,e=>by simp at e
 | _,_,0,_,.cons r _,e=>by simp at e;subst e;exact ⟨_,rfl,r⟩
 | _,_,i+1,x,.cons _ t,e=>by
  obtain ⟨u,h1,h2⟩:=Ym.get (i:=i) (x:=x) t (by simpa using e)
  exact ⟨u,by simpa using h1,h2⟩
theorem Ym.append:∀ {xs ys:List V} {us ws:List Value},Ym xs us→Ym ys ws→Ym (xs++ys) (us++ws)
 | _,_,_,_,.nil,s=>s
 | _,_,_,_,.cons r t,s => .cons r (Ym.append t s)
theorem Ym.take:∀ {xs:List V} {us:List Value} (n:Nat),Ym xs us→Ym (xs.take n) (us.take n)
 | _,_,0,_ => .nil
 | _,_,_+1,.nil => .nil
 | _,_,n+1,.cons r t => .cons r (Ym.take n t)
theorem Ym.drop:∀ {xs:List V} {us:List Value} (n:Nat),Ym xs us→Ym (xs.drop n) (us.drop n)
 | _,_,0,r=>r
 | _,_,_+1,.nil => .nil
 | _,_,n+1,.cons _ t=>Ym.drop n t
def XM:Option V→Option Value→Prop
 | some v,some u=>Ys v u
 | none,none=>True
 | _,_=>False
def KV {κ:Type}:List (κ×V)→List (κ×Value)→Prop:=Paired fun (p:κ×V) (q:κ×Value)=>p.1=q.1∧Ys p.2 q.2
def kV:Key→V
 | .inl i => .int i
 | .inr x => .str x
inductive HO where
 /-- a list -/
 | lst (xs:List V)
 /-- a tuple (never changes) -/
 | tup (xs:List V)
 /-- a dict whose keys are ints and texts;one whose keys are tuples of ints and texts (the empty one is both) -/
 | dK (kvs:List (Key×V)) | dT (kvs:List (List Key×V))
 /-- a set of ints: its members,its size -/
 | set (S:Int→Bool) (n:Nat)
 /-- an instance of the class at C,its dict at dx,its attributes -/
 | ins (C dx:Addr) (fs:List (Str×V))
 /-- the dict of the instance at x -/
 | own (x:Addr)
 /-- the dict of an exception -/
 | xd (fs:List (Str×V))
 /-- a bound method,f of x -/
 | met (f x:Addr)
 /-- a range object lo,lo+1,.. below hi -/
 | rng (lo hi:Int)
 /-- a thing that is known to the object (the script;a dict while a loop walks it): read,never written while it is so -/
 | frz (o:Obj) (u:HO)
 /-- a code object's table -/
 | tbl (ps:Array Value)
 /-- any other thing,by what is true of its one object (a def of one's own: SetO a S n:=HO.ext fun h => ..) -/
 | ext (φ:Heap→Prop)
abbrev Hp:=Addr→Option HO
def upd (H:Hp) (a:Addr) (o:HO):Hp:=fun b=>if b=a then some o else H b
theorem Yc {H:Hp} {a:Addr} {o:HO}:upd H a o a=some o:=by unfold upd;rw [if_pos rfl]
theorem Yb {H:Hp} {a b:Addr} {o:HO} (h:b≠a):upd H a o b=H b:=by unfold upd;rw [if_neg h]
theorem Yq {H:Hp} {a b:Addr} {o u:HO} (h:H a=some o) (h':H b=some u) (d:o≠u):a≠b:=by
 intro e;subst e;rw [h] at h';exact d (Option.some.inj h')
theorem Ye {H:Hp} {a b:Addr} {o:HO} (h:H a=some o) (h':H b=none):a≠b:=by
 intro e;subst e;rw [h] at h';cases h'
section
variable (P:Program) (w:World)
def Yz (H:Hp) (h:Heap) (a:Addr):HO→Prop
 | .lst xs=>xs.length≤sizeLine∧∃ (its:List Value) (n:Nat),Ym xs its∧h.get? a=some { cls := .type "list",data := .seq its.toArray n }
 | .tup xs=>xs.length≤sizeLine∧∃ its:List Value,Ym xs its∧IsTup h a its.toArray
 | .dK kvs=>kvs.length≤sizeLine∧(a==sysModules)=false∧∃ vs,KV kvs vs∧h.DictOf (Xu P w) a vs
 | .dT kvs=>kvs.length≤sizeLine∧(a==sysModules)=false∧∃ xs:List (List Key×Addr×Value),
   Paired (fun (p:List Key×V) (q:List Key×Addr×Value)=>p.1=q.1∧H q.2.1=some (.tup (p.1.map kV))∧Ys p.2 q.2.2) kvs xs ∧
   ∃ o es ep,h.get? a=some o∧o.ExactDict∧o.data = .dict es ep∧es.toList=xs.map (entryOfKey (tupleKind (Xu P w)))∧(xs.map (·.1)).Nodup
 | .set S n=>h.SetOf (intKind P w) a S n
 | .ins C dx fs=>H dx=some (.own a)∧fs.length≤1000∧dx≠a∧h.get? a=some (PySem.W.instObj C dx) ∧
   ∃ mA,h.Ns1 dx mA∧(∀ f,XM (fs.lookup f) (mA f))∧PySem.Within mA (fs.map (·.1))
 | .own _=>∃ o,h.get? a=some o
 | .xd fs=>∃ mA,h.Ns1 a mA∧∀ f,XM (fs.lookup f) (mA f)
 | .rng lo hi=>∃ t u v,h.get? a=some { cls := .type "range",data := .fields #[.int lo t,.int hi u,.int 1 v] }
 | .frz o u=>h.get? a=some o∧Yz H h a u
 | .tbl ps=>h.get? a=some { cls := .none,data := .fields ps }
 | .met f x=>h.get? a=some (PySem.W.methodObj (.ref f) (.ref x))
 | .ext φ=>φ h∧(∃ o,h.get? a=some o)∧∀ h1 h2:Heap,φ h1→(∀ o,h1.get? a=some o→h2.get? a=some o)→φ h2
def HOk (H:Hp) (h:Heap):Prop:=∀ a o,H a=some o→Yz P w H h a o
end
section
variable {P:Program} {w:World} {H H':Hp} {h h':Heap} {a:Addr} {o:HO}
theorem Yz.lt (x:Yz P w H h a o):a<h.objs.size:=by
 cases o with
 | lst xs=>obtain ⟨_,_,_,_,e⟩:=x;exact Heap.lt_size e
 | tup xs=>obtain ⟨_,_,_,p⟩:=x;exact p.lt
 | dK kvs=>obtain ⟨_,_,_,_,o,_,_,e,_⟩:=x;exact Heap.lt_size e
 | dT kvs=>obtain ⟨_,_,_,_,o,_,_,e,_⟩:=x;exact Heap.lt_size e
 | set S n=>obtain ⟨o,_,_,_,e,_⟩:=x;exact Heap.lt_size e
 | ins C dx fs=>obtain ⟨_,_,_,e,_⟩:=x;exact Heap.lt_size e
 | own y=>obtain ⟨_,e⟩:=x;exact Heap.lt_size e
 | xd fs=>obtain ⟨_,⟨_,_,_,e,_⟩,_⟩:=x;exact Heap.lt_size e
 | rng lo hi=>obtain ⟨_,_,_,e⟩:=x;exact Heap.lt_size e
 | frz ob u=>obtain ⟨e,_⟩:=x;exact Heap.lt_size e
 | tbl ps=>exact Heap.lt_size (show h.get? a=some _ from x)
 | met f y=>exact Heap.lt_size (show h.get? a=some _ from x)
 | ext φ=>obtain ⟨_,⟨_,e⟩,_⟩:=x;exact Heap.lt_size e
theorem Paired.mapP {α β:Type} {F G:α→β→Prop}:∀ {l₁:List α} {l₂:List β},Paired F l₁ l₂→(∀ a b,F a b→G a b)→Paired G l₁ l₂
 | _,_,.nil,_ => .nil
 | _,_,.cons r t,f => .cons (f _ _ r) (Paired.mapP t f)
theorem Yz.stay (x:Yz P w H h a o) (k:∀ b u,(b=a∨H b=some (.own a))→h.get? b=some u→h'.get? b=some u)
  (ho:∀ b,H b=some (.own a)→H' b=some (.own a)) (ht:∀ b xs,H b=some (.tup xs)→H' b=some (.tup xs)):Yz P w H' h' a o:=by
 induction o with
 | lst xs=>obtain ⟨z,its,n,r,e⟩:=x;exact ⟨z,its,n,r,k _ _ (.inl rfl) e⟩
 | tup xs=>obtain ⟨z,its,r,ob,e,c⟩:=x;exact ⟨z,its,r,ob,k _ _ (.inl rfl) e,c⟩
 | dK kvs=>obtain ⟨z,y,vs,r,ob,es,ep,e,c⟩:=x;exact ⟨z,y,vs,r,ob,es,ep,k _ _ (.inl rfl) e,c⟩
 | dT kvs =>
  obtain ⟨z,y,xs,r,ob,es,ep,e,c⟩:=x
  exact ⟨z,y,xs,Paired.mapP r fun p q z=>⟨z.1,ht _ _ z.2.1,z.2.2⟩,ob,es,ep,k _ _ (.inl rfl) e,c⟩
 | set S n=>obtain ⟨ob,es,ep,t,e,c⟩:=x;exact ⟨ob,es,ep,t,k _ _ (.inl rfl) e,c⟩
 | ins C dx fs =>
  obtain ⟨d,z,ne,e,mA,⟨od,es,ep,e2,c⟩,r⟩:=x
  exact ⟨ho _ d,z,ne,k _ _ (.inl rfl) e,mA,⟨od,es,ep,k _ _ (.inr d) e2,c⟩,r⟩
 | own y=>obtain ⟨ob,e⟩:=x;exact ⟨ob,k _ _ (.inl rfl) e⟩
 | xd fs=>obtain ⟨mA,⟨od,es,ep,e,c⟩,r⟩:=x;exact ⟨mA,⟨od,es,ep,k _ _ (.inl rfl) e,c⟩,r⟩
 | rng lo hi=>obtain ⟨t,u,v,e⟩:=x;exact ⟨t,u,v,k _ _ (.inl rfl) e⟩
 | frz ob u ih=>obtain ⟨e,q⟩:=x;exact ⟨k _ _ (.inl rfl) e,ih q⟩
 | tbl ps =>
  have e:h.get? a=some { cls := .none,data := .fields ps }:=x
  show h'.get? a=some { cls := .none,data := .fields ps }
  exact k a _ (.inl rfl) e
 | met f y =>
  have e:h.get? a=some (PySem.W.methodObj (.ref f) (.ref y)):=x
  show h'.get? a=some (PySem.W.methodObj (.ref f) (.ref y))
  exact k a _ (.inl rfl) e
 | ext φ=>obtain ⟨p,⟨o,e⟩,st⟩:=x;exact ⟨st _ _ p fun o q=>k _ _ (.inl rfl) q,⟨o,k _ _ (.inl rfl) e⟩,st⟩
theorem HOk.lt (x:HOk P w H h) (e:H a=some o):a<h.objs.size:=(x a o e).lt
theorem HOk.fresh (x:HOk P w H h) (e:h.objs.size≤a):H a=none:=by
 cases q:H a with
 | none=>rfl
 | some u=>exact absurd (Nat.lt_of_lt_of_le (x.lt q) e) (Nat.lt_irrefl _)
theorem HOk.kept (x:HOk P w H h) (k:∀ b u,h.get? b=some u→h'.get? b=some u):HOk P w H h':=fun a o e =>
 (x a o e).stay (fun b u _ q=>k b u q) (fun _ q=>q) fun _ _ q=>q
theorem HOk.laid (x:HOk P w H h) (k:∀ b u,h.get? b=some u→h'.get? b=some u) (hp:h.objs.size≤a) (new:Yz P w (upd H a o) h' a o):HOk P w (upd H a o) h':=fun b u e=>by
 have hn:=x.fresh hp
 by_cases hb:b=a
 ·subst hb;rw [Yc] at e;cases e;exact new
 ·rw [Yb hb] at e
  exact (x b u e).stay (fun c v _ q=>k c v q) (fun c q=>by rw [Yb (Ye q hn)];exact q) fun c xs q=>by rw [Yb (Ye q hn)];exact q
end
def Rd (H:Hp) (a:Addr) (u:HO):Prop:=H a=some u∨∃ o,H a=some (.frz o u)
theorem Rd.ok {P:Program} {w:World} {H:Hp} {h:Heap} {a:Addr} {u:HO} (r:Rd H a u) (x:HOk P w H h):Yz P w H h a u:=by
 rcases r with r | ⟨o,r⟩
 ·exact x a u r
 ·obtain ⟨_,q⟩:=x a _ r
  exact q
def Mut:Option HO→Prop
 | some (.lst _)=>True
 | some (.dK _)=>True
 | some (.dT _)=>True
 | some (.set _ _)=>True
 | some (.ins _ _ _)=>True
 | some (.ext _)=>True
 | _=>False
section
variable {P:Program} {w:World} {H:Hp} {h h':Heap} {x e:Addr} {o':HO}
theorem HOk.write (ok:HOk P w H h) (mu:Mut (H x)) (he:e=x∨H e=some (.own x)) (k:∀ b u,b≠e→h.get? b=some u→h'.get? b=some u) (heo:∃ u,h'.get? e=some u)
  (new:Yz P w (upd H x o') h' x o'):HOk P w (upd H x o') h':=fun b u q=>by
 have nown:∀ c y,H c=some (.own y)→c≠x:=fun c y r z=>by subst z;rw [r] at mu;exact mu
 have ntup:∀ c xs,H c=some (.tup xs)→c≠x:=fun c xs r z=>by subst z;rw [r] at mu;exact mu
 by_cases hb:b=x
 ·subst hb;rw [Yc] at q;cases q;exact new
 ·rw [Yb hb] at q
  by_cases hbe:b=e
  ·have q':H b=some (.own x):=by
    rcases he with z | z
    ·exact absurd (hbe.trans z) hb
    ·rw [hbe];exact z
   rw [q] at q';cases q'
   obtain ⟨v,hv⟩:=heo
   exact ⟨v,by rw [hbe];exact hv⟩
  ·refine (ok b u q).stay (fun c v hc r=>k c v ?_ r) (fun c r=>by rw [Yb (nown c b r)];exact r) fun c xs r=>by rw [Yb (ntup c xs r)];exact r
   rcases hc with rfl | hc
   ·exact hbe
   ·rintro rfl
    rcases he with z | z
    ·exact nown c b hc z
    ·rw [hc] at z;cases z;exact hb rfl
end
structure Un (fs ex:List Addr) (H H':Hp) (h h':Heap):Prop where
 keep:∀ b o,h.get? b=some o→H b=none→b∉fs→b∉ex→h'.get? b=some o
 slot:∀ b o,h.get? b=some o→H b=none→b∈fs→b∉ex→∃ sl,h'.get? b=some { o with slots:=sl }
 free:∀ b o,h.get? b=some o→H b=none→b∉ex→H' b=none
 there:∀ b o,h.get? b=some o→b∉ex→∃ o',h'.get? b=some o'
 tups:∀ b xs,H b=some (.tup xs)→H' b=some (.tup xs)
 frzs:∀ b o u,H b=some (.frz o u)→H' b=some (.frz o u)
 tbls:∀ b ps,H b=some (.tbl ps)→∃ more,H' b=some (.tbl (ps++more))
section
variable {fs fs' ex ex':List Addr} {H H1 H2:Hp} {h h1 h2 h':Heap} {a x e:Addr} {o:HO}
theorem Un.any (u:Un fs ex H H1 h h1) {b:Addr} {ob:Obj} (q:h.get? b=some ob) (n:H b=none) (hx:b∉ex):∃ sl,h1.get? b=some { ob with slots:=sl }:=by
 by_cases hb:b∈fs
 ·exact u.slot b ob q n hb hx
 ·exact ⟨ob.slots,u.keep b ob q n hb hx⟩
theorem Un.kept (k:∀ b u,h.get? b=some u→h'.get? b=some u):Un fs ex H H h h' :=
 ⟨fun b ob q _ _ _=>k b ob q,fun b ob q _ _ _=>⟨ob.slots,k b ob q⟩,fun _ _ _ n _=>n,fun b ob q _=>⟨ob,k b ob q⟩,fun _ _ q=>q,fun _ _ _ q=>q,fun _ ps q=>⟨#[],by rw [q];simp⟩⟩
theorem Un.refl:Un fs ex H H h h:=Un.kept fun _ _ q=>q
theorem Un.laid (k:∀ b u,h.get? b=some u→h'.get? b=some u) (hp:h.objs.size≤a) (hn:H a=none):Un fs ex H (upd H a o) h h' where
 keep:=fun b u q _ _ _=>k b u q
 slot:=fun b u q _ _ _=>⟨u.slots,k b u q⟩
 free:=fun b u q n _=>by rw [Yb (Nat.ne_of_lt (Nat.lt_of_lt_of_le (Heap.lt_size q) hp))];exact n
 there:=fun b u q _=>⟨u,k b u q⟩
 tups:=fun b xs q=>by rw [Yb (Ye q hn)];exact q
 frzs:=fun b u xs q=>by rw [Yb (Ye q hn)];exact q
 tbls:=fun b ps q=>⟨#[],by rw [Yb (Ye q hn),q];simp⟩
theorem Un.write (mu:Mut (H x)) (he:e=x∨H e=some (.own x)) (k:∀ b u,b≠e→h.get? b=some u→h'.get? b=some u) (heo:∃ u,h'.get? e=some u):Un fs ex H (upd H x o) h h':=by
 have hx:∀ b,H b=none→b≠x:=fun b n z=>by subst z;rw [n] at mu;exact mu
 have hb:∀ b,H b=none→b≠e:=fun b n z=>by
  subst z
  rcases he with r | r
  ·exact hx b n r
  ·rw [n] at r;cases r
 have hm:∀ b u,H b=some u→¬ Mut (some u)→b≠x:=fun b u q nm z=>by subst z;rw [q] at mu;exact nm mu
 refine ⟨fun b u q n _ _=>k b u (hb b n) q,fun b u q n _ _=>⟨u.slots,k b u (hb b n) q⟩,fun b u q n _=>by rw [Yb (hx b n)];exact n,fun b u q _=>?_,
  fun b xs q=>by rw [Yb (hm b _ q fun z=>z)];exact q,fun b u xs q=>by rw [Yb (hm b _ q fun z=>z)];exact q,fun b ps q=>⟨#[],by rw [Yb (hm b _ q fun z=>z),q];simp⟩⟩
 by_cases hbe:b=e
 ·subst hbe;exact heo
 ·exact ⟨u,k b u hbe q⟩
end
def trk (h:Heap) (H:Hp):List Addr:=(List.range h.objs.size).filter fun a=>(H a).isSome
def Wp (h:Heap) (H:Hp):Heap:=PySem.W.hideAll h (trk h H)
theorem Ybf (h:Heap) (H:Hp):(Wp h H).objs.size=h.objs.size:=PySem.W.hideAll_size _ _
theorem Ycc {h:Heap} {H:Hp} {b:Addr} {o:Obj} (e:h.get? b=some o) (n:H b=none):(Wp h H).get? b=some o :=
 PySem.W.hideAll_get _ e fun hm=>by
  have q:(H b).isSome=true:=(List.mem_filter.mp hm).2
  rw [n] at q;simp at q
theorem Ydh {h:Heap} {H:Hp} {b:Addr} {o:Obj} (e:(Wp h H).get? b=some o):h.get? b=some o∧H b=none:=by
 have e':h.get? b=some o:=PySem.W.of_hideAll (trk h H) e
 refine ⟨e',?_⟩
 cases q:H b with
 | none=>rfl
 | some x =>
  have hm:b∈trk h H:=List.mem_filter.mpr ⟨List.mem_range.mpr (Heap.lt_size e'),by simp [q]⟩
  have z:(Wp h H).get? b=none:=PySem.W.hideAll_none (trk h H) hm
  rw [z] at e;cases e
def Ydi (g h:Heap) (L:Addr):List (Addr×Obj):=(List.range h.objs.size).filterMap fun a=>if a=L∨(g.get? a).isSome=true then none else (h.get? a).map fun o=>(a,o)
def YQ (g h:Heap) (L d:Addr):List (Addr×Obj):=(Ydi g h L).filter fun p=>decide (p.1≠d)
end L2
namespace L2
open PySem PySem.Spec PyProof.Rows
structure Mod (K:PySem.W.Frag) (mg:Str→Option Value) (base:Heap):Prop where
 kin:K.In base
 glob:base.Ns mainGlobals mg
 blt:∃ mb,base.Ns builtinsNs mb∧∀ x:Str,x≠"__name__"→mb x=bootBuiltins x
 nolimit:base.NoLimit
structure Cx where
 prog:Program
 w:World
 K:PySem.W.Frag
 mg:Str→Option Value
 base:Heap
 A:Around
 N:List Str
 s₀:Shared
 H₀:Hp
 env:Env
 outer:List Env
 stack:List Env
 ex:List Addr
 fn:Str→Bool
 calm:Bool
 pn:List (Addr×Obj)
 xe:Value→Shared→Prop
def frs (l:List Env):List Addr:=l.filterMap (·.frame)
abbrev Cx.fs (X:Cx):List Addr:=frs X.outer
def Vis (sc:Scope) (x:Str):Prop:=sc.names.lookup x=some .local∨sc.names.lookup x=some .cell∨sc.names.lookup x=some .free
def Loc (sc:Scope) (x:Str):Prop:=sc.names.lookup x=some .local∨sc.names.lookup x=some .cell
def Look (env:Env) (h:Heap) (m:Str→Option Value) (x:Str) (u:Value):Prop :=
 (env.kindOf x=some .local∧m x=some u)∨((env.kindOf x=some .cell∨env.kindOf x=some .free)∧∃ c,env.cells.lookup x=some c∧h.IsCell c (some u))
structure Cx.Ok (X:Cx):Prop where
 mod:Mod X.K X.mg X.base
 kind:X.env.scope.kind = .function
 glob:X.env.globals=mainGlobals
 blt:X.env.builtins=builtinsNs
 above:X.s₀.heap.objs.size≤X.env.locals
 inj:∀ x y c,X.env.cells.lookup x=some c→X.env.cells.lookup y=some c→x=y
 has:∀ x,(X.env.kindOf x=some .cell∨X.env.kindOf x=some .free)→∃ c,X.env.cells.lookup x=some c
 cab:∀ x c,X.fn x=true→X.env.cells.lookup x=some c→X.s₀.heap.objs.size≤c
 hd:X.calm=true→X.A.handled=none
 frames:X.A.frames=some X.stack
 stk:X.stack=X.outer∨(X.stack=X.env::X.outer∧X.env.frame=some X.env.locals)
 exf:∀ b∈X.ex,b≠X.env.locals∧∀ x c,X.env.cells.lookup x=some c→c≠b
 bs:∀ b o,X.base.get? b=some o→X.s₀.heap.get? b=some o∧X.H₀ b=none
 bsz:X.base.objs.size≤X.s₀.heap.objs.size
 noex:∀ b o,X.base.get? b=some o→b∉X.ex
 exfs:∀ b∈X.ex,b∉X.fs
 funs:X.s₀.heap.FunFrames X.base X.outer
 frf:∀ b∈X.fs,X.H₀ b=none
structure Inv (X:Cx) (pins:List (Addr×Obj)) (σ:List (Option V)) (H:Hp) (s:Shared):Prop where
 ok:X.Ok
 os:s.os=X.s₀.os
 bare:AllBare s.gens
 base:Un X.fs X.ex X.H₀ H X.s₀.heap s.heap
 loc:∃ m,s.heap.Ns X.env.locals m∧∀ (i:Nat) (x:Str) (v:V),X.N[i]?=some x→σ[i]?=some (some v)→Vis X.env.scope x→∃ u,Ys v u∧Look X.env s.heap m x u
 cell:∀ x c,X.env.cells.lookup x=some c→∃ v,s.heap.IsCell c v
 free:H X.env.locals=none
 freeC:∀ x c,X.env.cells.lookup x=some c→H c=none
 pin:∀ p∈X.pn++pins,s.heap.get? p.1=some p.2∧H p.1=none∧p.1≠X.env.locals∧p.1∉X.fs∧∀ v,p.2.data ≠ .cell v
 hok:HOk X.prog X.w H s.heap
 len:σ.length=X.N.length
section
variable {X:Cx} {pins:List (Addr×Obj)} {σ:List (Option V)} {H H':Hp} {s:Shared} {h':Heap}
theorem Cx.Ok.nofr (ok:X.Ok) {b:Addr} {o:Obj} (e:X.base.get? b=some o):b∉X.fs:=fun hb=>by
 have:=(ok.funs.mem hb).1
 rw [e] at this;cases this
theorem Inv.bs (I:Inv X pins σ H s):∀ b o,X.base.get? b=some o→s.heap.get? b=some o∧H b=none:=fun b o e =>
 ⟨I.base.keep b o (I.ok.bs b o e).1 (I.ok.bs b o e).2 (I.ok.nofr e) (I.ok.noex b o e),I.base.free b o (I.ok.bs b o e).1 (I.ok.bs b o e).2 (I.ok.noex b o e)⟩
theorem Inv.bk (I:Inv X pins σ H s):∀ b o,X.base.get? b=some o→s.heap.get? b=some o:=fun b o e=>(I.bs b o e).1
theorem Inv.mod (I:Inv X pins σ H s):Mod X.K X.mg X.base:=I.ok.mod
theorem Inv.kIn (I:Inv X pins σ H s):X.K.In s.heap:=I.ok.mod.kin.keeps I.bk
theorem Inv.lt (I:Inv X pins σ H s):X.env.locals<s.heap.objs.size:=let ⟨_,hn,_⟩:=I.loc;hn.lt
theorem Inv.sz (I:Inv X pins σ H s):X.s₀.heap.objs.size≤s.heap.objs.size:=Nat.le_trans I.ok.above (Nat.le_of_lt I.lt)
theorem Inv.nofs (I:Inv X pins σ H s) {a:Addr} (h:s.heap.objs.size≤a):a∉X.fs:=fun hb=>by
 obtain ⟨_,o,ho,_⟩:=I.ok.funs.mem hb
 exact absurd (Nat.lt_of_lt_of_le (Heap.lt_size ho) (Nat.le_trans I.sz h)) (Nat.lt_irrefl _)
theorem Inv.cne (I:Inv X pins σ H s):∀ x c,X.env.cells.lookup x=some c→c≠X.env.locals:=fun x c e z=>by
 obtain ⟨v,o,ho,hd⟩:=I.cell x c e
 obtain ⟨m,⟨o',es,ep,ho',hd',_⟩,_⟩:=I.loc
 rw [z,ho'] at ho;cases ho;rw [hd'] at hd;cases hd
theorem Inv.funs (I:Inv X pins σ H s):s.heap.FunFrames X.base X.outer:=by
 have all:∀ (l:List Env),(∀ b∈frs l,b∈X.fs)→X.s₀.heap.FunFrames X.base l→s.heap.FunFrames X.base l:=by
  intro l
  induction l with
  | nil=>intro _ _;trivial
  | cons env r ih =>
   intro hs hl
   obtain ⟨hk,⟨L,o,hf,hn,ho,hd⟩,hr⟩:=hl
   have hL:L∈X.fs:=hs L (by unfold frs;rw [List.filterMap_cons,hf];exact List.mem_cons_self)
   obtain ⟨sl,e⟩:=I.base.slot L o ho (I.ok.frf L hL) hL fun z=>I.ok.exfs L z hL
   exact ⟨hk,⟨L,_,hf,hn,e,hd⟩,ih (fun b hb=>hs b (by unfold frs;rw [List.filterMap_cons,hf];exact List.mem_cons_of_mem _ hb)) hr⟩
 exact all X.outer (fun _ hb=>hb) I.ok.funs
theorem Inv.stack (I:Inv X pins σ H s):s.heap.FunFrames X.base X.stack:=by
 rcases I.ok.stk with e | ⟨e,hf⟩
 ·rw [e];exact I.funs
 ·rw [e]
  obtain ⟨m,hn,_⟩:=I.loc
  refine .cons (by rw [I.ok.kind];decide) hf hn ?_ I.funs
  exact Heap.get?_none_of_le (Nat.le_trans I.ok.bsz I.ok.above)
theorem Inv.stkSub (I:Inv X pins σ H s):∀ b∈frs X.stack,b∈X.env.locals::X.fs:=fun b hb=>by
 rcases I.ok.stk with e | ⟨e,hf⟩
 ·rw [e] at hb;exact List.mem_cons_of_mem _ hb
 ·rw [e] at hb
  unfold frs at hb
  rw [List.filterMap_cons,hf] at hb
  exact hb
theorem Inv.stkFree (I:Inv X pins σ H s):∀ b∈frs X.stack,H b=none:=fun b hb=>by
 rcases List.mem_cons.mp (I.stkSub b hb) with e | hb
 ·rw [e];exact I.free
 ·obtain ⟨_,o,ho,_⟩:=I.ok.funs.mem hb
  exact I.base.free b o ho (I.ok.frf b hb) fun z=>I.ok.exfs b z hb
theorem Inv.step {g':Array GenState} {t':Nat} {d':Drawn} {ch:List Addr} (I:Inv X pins σ H s)
  (hch:∀ b∈ch,(b∈X.ex∨X.s₀.heap.objs.size≤b)∧b≠X.env.locals∧(∀ x c,X.env.cells.lookup x=some c→c≠b)∧∀ p∈X.pn++pins,p.1≠b)
  (keep:∀ b o,b≠X.env.locals→b∉X.fs→b∉ch→s.heap.get? b=some o→H b=none→h'.get? b=some o)
  (slot:∀ b o,b≠X.env.locals→b∈X.fs→b∉ch→s.heap.get? b=some o→H b=none→∃ sl,h'.get? b=some { o with slots:=sl }) (free:∀ b o,b∉ch→s.heap.get? b=some o→H b=none→H' b=none)
  (there:∀ b o,b∉ch→s.heap.get? b=some o→∃ o',h'.get? b=some o')
  (tups:∀ b xs,H b=some (.tup xs)→H' b=some (.tup xs)) (frzs:∀ b o u,H b=some (.frz o u)→H' b=some (.frz o u)) (tbls:∀ b ps,H b=some (.tbl ps)→∃ more,H' b=some (.tbl (ps++more)))
  (ns:∀ m,s.heap.Ns X.env.locals m→h'.Ns X.env.locals m) (hok:HOk X.prog X.w H' h') (hg:AllBare g') :
  Inv X pins σ H' { s with heap:=h',gens:=g',drawn:=d',toks:=t' }:=by
 have neL:∀ b o,X.s₀.heap.get? b=some o→b≠X.env.locals:=fun b o e=>Nat.ne_of_lt (Nat.lt_of_lt_of_le (Heap.lt_size e) I.ok.above)
 have neC:∀ b o,X.s₀.heap.get? b=some o→b∉X.ex→b∉ch:=fun b o e hx hb=>by
  rcases (hch b hb).1 with z | z
  ·exact hx z
  ·exact absurd (Nat.lt_of_lt_of_le (Heap.lt_size e) z) (Nat.lt_irrefl _)
 have cellK:∀ x c,X.env.cells.lookup x=some c→∀ v,s.heap.IsCell c v→h'.IsCell c v:=fun x c e v ⟨o,ho,hd⟩=>by
  have nch:c∉ch:=fun z=>(hch c z).2.2.1 x c e rfl
  by_cases hc:c∈X.fs
  ·obtain ⟨sl,q⟩:=slot c o (I.cne x c e) hc nch ho (I.freeC x c e)
   exact ⟨_,q,hd⟩
  ·exact ⟨o,keep c o (I.cne x c e) hc nch ho (I.freeC x c e),hd⟩
 refine ⟨I.ok,I.os,hg,⟨fun b o e n hb hx=>?_,fun b o e n hb hx=>?_,fun b o e n hx=>?_,fun b o e hx=>?_,fun b xs e=>tups b xs (I.base.tups b xs e),fun b o xs e=>frzs b o xs (I.base.frzs b o xs e),fun b ps e=>?_⟩,?_,fun x c e=>?_,?_,fun x c e=>?_,fun p hp=>?_,hok,I.len⟩
 ·exact keep b o (neL b o e) hb (neC b o e hx) (I.base.keep b o e n hb hx) (I.base.free b o e n hx)
 ·obtain ⟨sl,e1⟩:=I.base.slot b o e n hb hx
  obtain ⟨sl',e2⟩:=slot b _ (neL b o e) hb (neC b o e hx) e1 (I.base.free b o e n hx)
  exact ⟨sl',e2⟩
 ·obtain ⟨o',e1⟩:=I.base.there b o e hx
  exact free b o' (neC b o e hx) e1 (I.base.free b o e n hx)
 ·obtain ⟨o',e1⟩:=I.base.there b o e hx
  exact there b o' (neC b o e hx) e1
 ·obtain ⟨m1,e1⟩:=I.base.tbls b ps e
  obtain ⟨m2,e2⟩:=tbls b _ e1
  exact ⟨m1++m2,by rw [e2,Array.append_assoc]⟩
 ·obtain ⟨m,hn,hl⟩:=I.loc
  refine ⟨m,ns m hn,fun i x v e1 e2 e3=>?_⟩
  obtain ⟨u,r,l⟩:=hl i x v e1 e2 e3
  refine ⟨u,r,?_⟩
  rcases l with l | ⟨k,c,e,z⟩
  ·exact .inl l
  ·exact .inr ⟨k,c,e,cellK x c e _ z⟩
 ·obtain ⟨v,z⟩:=I.cell x c e
  exact ⟨v,cellK x c e v z⟩
 ·obtain ⟨m,⟨o,_,_,ho,_⟩,_⟩:=I.loc
  exact free _ o (fun z=>(hch _ z).2.1 rfl) ho I.free
 ·obtain ⟨v,o,ho,hd⟩:=I.cell x c e
  exact free c o (fun z=>(hch c z).2.2.1 x c e rfl) ho (I.freeC x c e)
 ·obtain ⟨e,n,ne,nf,d⟩:=I.pin p hp
  have nch:p.1∉ch:=fun z=>(hch p.1 z).2.2.2 p hp rfl
  exact ⟨keep p.1 p.2 ne nf nch e n,free p.1 p.2 nch e n,ne,nf,d⟩
theorem Inv.un {t':Nat} (I:Inv X pins σ H s) (u:Un X.fs [] H H' s.heap h') (hok:HOk X.prog X.w H' h'):Inv X pins σ H' { s with heap:=h',toks:=t' }:=by
 obtain ⟨m,⟨o,es,ep,ho,r⟩,_⟩:=id I.loc
 obtain ⟨sl,hL⟩:=u.any ho I.free (by simp)
 exact I.step (g':=s.gens) (d':=s.drawn) (ch:=[]) (fun _ z=>nomatch z) (fun b o _ hb _ e n=>u.keep b o e n hb (by simp)) (fun b o _ hb _ e n=>u.slot b o e n hb (by simp)) (fun b o _ e n=>u.free b o e n (by simp)) (fun b o _ e=>u.there b o e (by simp)) u.tups u.frzs u.tbls (fun m' hm=>by
  obtain ⟨o',es',ep',ho',r'⟩:=hm
  rw [ho] at ho';cases ho'
  exact ⟨_,es',ep',hL,r'⟩) hok I.bare
theorem Inv.call {g':Array GenState} {t':Nat} {d':Drawn} {ch:List Addr} (I:Inv X pins σ H s) (u:Un (frs X.stack) ch H H' s.heap h') (hok:HOk X.prog X.w H' h') (hg:AllBare g')
  (hch:∀ b∈ch,(b∈X.ex∨X.s₀.heap.objs.size≤b)∧b≠X.env.locals∧(∀ x c,X.env.cells.lookup x=some c→c≠b)∧∀ p∈X.pn++pins,p.1≠b) :
  Inv X pins σ H' { s with heap:=h',gens:=g',drawn:=d',toks:=t' }:=by
 obtain ⟨m,⟨o,es,ep,ho,r⟩,_⟩:=id I.loc
 obtain ⟨sl,hL⟩:=u.any ho I.free fun z=>(hch _ z).2.1 rfl
 exact I.step (ch:=ch) hch (fun b o hL hb hc e n=>u.keep b o e n (fun z=>(List.mem_cons.mp (I.stkSub b z)).elim hL hb) hc) (fun b o _ _ hc e n=>u.any e n hc) (fun b o hc e n=>u.free b o e n hc) (fun b o hc e=>u.there b o e hc) u.tups u.frzs u.tbls (fun m' hm=>by
  obtain ⟨o',es',ep',ho',r'⟩:=hm
  rw [ho] at ho';cases ho'
  exact ⟨_,es',ep',hL,r'⟩) hok hg
theorem Inv.turned {t':Nat} {it:Addr} (I:Inv X pins σ H s) (k:∀ b o,b≠it→s.heap.get? b=some o→h'.get? b=some o) (hn:H it=none) (hL:it≠X.env.locals)
  (h1:it∈X.ex∨X.s₀.heap.objs.size≤it) (h2:∀ x c,X.env.cells.lookup x=some c→c≠it) (h3:∀ p∈X.pn++pins,p.1≠it):Inv X pins σ H { s with heap:=h',toks:=t' }:=by
 have nit:∀ b u,H b=some u→b≠it:=fun b u e z=>by rw [z,hn] at e;cases e
 refine I.step (g':=s.gens) (d':=s.drawn) (ch:=[it]) (fun b hb=>?_) (fun b o _ _ hc e _=>k b o (fun z=>hc (by simp [z])) e) (fun b o _ _ hc e _=>⟨o.slots,k b o (fun z=>hc (by simp [z])) e⟩) (fun _ _ _ _ n=>n)
  (fun b o hc e=>⟨o,k b o (fun z=>hc (by simp [z])) e⟩) (fun _ _ e=>e) (fun _ _ _ e=>e) (fun b ps e=>⟨#[],by rw [e];simp⟩) (fun m hm=>?_) (fun b u e=>?_) I.bare
 ·have e:b=it:=by simpa using hb
  subst e
  exact ⟨h1,hL,h2,h3⟩
 ·obtain ⟨o,es,ep,ho,r⟩:=hm
  exact ⟨o,es,ep,k _ o (Ne.symm hL) ho,r⟩
 ·refine (I.hok b u e).stay (fun c v hc q=>k c v ?_ q) (fun _ q=>q) fun _ _ q=>q
  rcases hc with z | z
  ·rw [z];exact nit b u e
  ·exact nit c _ z
theorem Inv.tok (I:Inv X pins σ H s) (t:Nat):Inv X pins σ H { s with toks:=t }:=I.un (h':=s.heap) (t':=t) Un.refl I.hok
theorem Inv.kept {t':Nat} (I:Inv X pins σ H s) (k:∀ b u,s.heap.get? b=some u→h'.get? b=some u):Inv X pins σ H { s with heap:=h',toks:=t' }:=I.un (Un.kept k) (I.hok.kept k)
theorem Inv.laid {a:Addr} {o:HO} {t':Nat} (I:Inv X pins σ H s) (k:∀ b u,s.heap.get? b=some u→h'.get? b=some u) (hp:s.heap.objs.size≤a) (new:Yz X.prog X.w (upd H a o) h' a o) :
  Inv X pins σ (upd H a o) { s with heap:=h',toks:=t' }:=I.un (Un.laid k hp (I.hok.fresh hp)) (I.hok.laid k hp new)
theorem Inv.write {x e:Addr} {o:HO} {t':Nat} (I:Inv X pins σ H s) (mu:Mut (H x)) (he:e=x∨H e=some (.own x)) (k:∀ b u,b≠e→s.heap.get? b=some u→h'.get? b=some u) (heo:∃ u,h'.get? e=some u)
  (new:Yz X.prog X.w (upd H x o) h' x o):Inv X pins σ (upd H x o) { s with heap:=h',toks:=t' }:=I.un (Un.write mu he k heo) (I.hok.write mu he k heo new)
theorem Inv.pins_of {pins':List (Addr×Obj)} (I:Inv X pins σ H s) (h:∀ p∈pins',s.heap.get? p.1=some p.2∧H p.1=none∧p.1≠X.env.locals∧p.1∉X.fs∧∀ v,p.2.data ≠ .cell v):Inv X pins' σ H s :=
 ⟨I.ok,I.os,I.bare,I.base,I.loc,I.cell,I.free,I.freeC,fun p hp=>(List.mem_append.mp hp).elim (fun z=>I.pin p (List.mem_append_left _ z)) (h p),I.hok,I.len⟩
theorem Vv {N:List Str} (hN:N.Nodup) {i j:Nat} {x:Str} (a:N[i]?=some x) (b:N[j]?=some x):i=j:=by
 obtain ⟨h1,e1⟩:=List.getElem?_eq_some_iff.mp a
 obtain ⟨h2,e2⟩:=List.getElem?_eq_some_iff.mp b
 exact (List.getElem_inj hN).mp (e1.trans e2.symm)
theorem Ybg {M:Model} {A:Around} {E:Value→Shared→Prop} {i:Nat} {x:Str} {v:V} {u:Value} {Q:Unit→Shared→Prop} (I:Inv X pins σ H s) (hN:X.N.Nodup) (hi:X.N[i]?=some x) (hx:Loc X.env.scope x) (r:Ys v u)
  (h:∀ s',Inv X pins (σ.set i (some v)) H s'→(∃ a,Heap.SameBut a s.heap s'.heap∧(a=X.env.locals∨X.env.cells.lookup x=some a))→Q () s') (hf:X.fn x=true∨X.env.scope.names.lookup x=some .local:=by first | exact .inl rfl | exact .inr rfl | assumption):wpAny M A (storeName X.env x u) Q E s:=by
 obtain ⟨m,hn,hl⟩:=id I.loc
 have hcls:(X.env.scope.kind == .class||(X.env.scope.kind == .module&&X.env.locals != X.env.globals))=false:=by rw [I.ok.kind];rfl
 have hiσ:i<σ.length:=by rw [I.len];exact (List.getElem?_eq_some_iff.mp hi).1
 have cne:=I.cne
 have tracked:∀ {a:Addr} {h':Heap},(∃ o,s.heap.get? a=some o∧H a=none)→Heap.SameBut a s.heap h'→HOk X.prog X.w H h':=fun {a h'} ha hs b ob e=>by
  obtain ⟨_,_,hfree⟩:=ha
  refine (I.hok b ob e).stay (fun c w' hc q=>(hs.2 c ?_).trans q) (fun _ q=>q) fun _ _ q=>q
  rintro rfl
  rcases hc with rfl | hc
  ·rw [hfree] at e;cases e
  ·rw [hfree] at hc;cases hc
 rcases hx with hk | hk
 ·refine wpAny_storeName_local hk hn (fun h' hn' hs=>?_) hcls
  obtain ⟨oL,_,_,hoL,_⟩:=id hn
  refine h _ ⟨I.ok,I.os,I.bare,⟨fun b o e n hb hx=>?_,fun b o e n hb hx=>?_,I.base.free,fun b o e hx=>?_,I.base.tups,I.base.frzs,I.base.tbls⟩,⟨_,hn',fun j y v' e1 e2 e3=>?_⟩,fun y c e=>?_,I.free,I.freeC,fun p hp=>?_,tracked ⟨oL,hoL,I.free⟩ hs,by simpa using I.len⟩ ⟨_,hs,.inl rfl⟩
  ·exact (hs.2 b (Nat.ne_of_lt (Nat.lt_of_lt_of_le (Heap.lt_size e) I.ok.above))).trans (I.base.keep b o e n hb hx)
  ·obtain ⟨sl,e1⟩:=I.base.slot b o e n hb hx
   exact ⟨sl,(hs.2 b (Nat.ne_of_lt (Nat.lt_of_lt_of_le (Heap.lt_size e) I.ok.above))).trans e1⟩
  ·obtain ⟨o',e1⟩:=I.base.there b o e hx
   exact ⟨o',(hs.2 b (Nat.ne_of_lt (Nat.lt_of_lt_of_le (Heap.lt_size e) I.ok.above))).trans e1⟩
  ·by_cases hj:j=i
   ·subst hj
    rw [hi] at e1;cases e1
    rw [List.getElem?_set_self hiσ] at e2
    cases e2
    exact ⟨u,r,.inl ⟨hk,by simp⟩⟩
   ·rw [List.getElem?_set_ne (Ne.symm hj)] at e2
    obtain ⟨u',r',q⟩:=hl j y v' e1 e2 e3
    refine ⟨u',r',?_⟩
    rcases q with ⟨k,e⟩ | ⟨k,c,e,z⟩
    ·refine .inl ⟨k,?_⟩
     have:y≠x:=fun e=>hj (Vv hN e1 (e▸hi))
     simp [this,e]
    ·exact .inr ⟨k,c,e,z.sameBut hs (cne y c e)⟩
  ·obtain ⟨w',z⟩:=I.cell y c e
   exact ⟨w',z.sameBut hs (cne y c e)⟩
  ·obtain ⟨e,n,ne,nf,d⟩:=I.pin p hp
   exact ⟨(hs.2 p.1 ne).trans e,n,ne,nf,d⟩
 ·have hfn:X.fn x=true:=by
   rcases hf with z | z
   ·exact z
   ·rw [z] at hk;cases hk
  obtain ⟨c,hc⟩:=I.ok.has x (.inl hk)
  obtain ⟨w',z⟩:=I.cell x c hc
  refine wpAny_storeName_cell I.ok.kind hk hc z (fun h' hc' hs=>?_)
  obtain ⟨oc,hoc,hocd⟩:=id z
  refine h { s with heap:=h' } ⟨I.ok,I.os,I.bare,⟨fun b o e n hb hx=>?_,fun b o e n hb hx=>?_,I.base.free,fun b o e hx=>?_,I.base.tups,I.base.frzs,I.base.tbls⟩,⟨m,hn.sameBut hs (Ne.symm (cne x c hc)),fun j y v' e1 e2 e3=>?_⟩,fun y c' e=>?_,I.free,I.freeC,fun p hp=>?_,tracked ⟨oc,hoc,I.freeC x c hc⟩ hs,by simpa using I.len⟩ ⟨c,hs,.inr hc⟩
  ·exact (hs.2 b (Nat.ne_of_lt (Nat.lt_of_lt_of_le (Heap.lt_size e) (I.ok.cab x c hfn hc)))).trans (I.base.keep b o e n hb hx)
  ·obtain ⟨sl,e1⟩:=I.base.slot b o e n hb hx
   exact ⟨sl,(hs.2 b (Nat.ne_of_lt (Nat.lt_of_lt_of_le (Heap.lt_size e) (I.ok.cab x c hfn hc)))).trans e1⟩
  ·obtain ⟨o',e1⟩:=I.base.there b o e hx
   exact ⟨o',(hs.2 b (Nat.ne_of_lt (Nat.lt_of_lt_of_le (Heap.lt_size e) (I.ok.cab x c hfn hc)))).trans e1⟩
  ·by_cases hj:j=i
   ·subst hj
    rw [hi] at e1;cases e1
    rw [List.getElem?_set_self hiσ] at e2
    cases e2
    exact ⟨u,r,.inr ⟨.inl hk,c,hc,hc'⟩⟩
   ·rw [List.getElem?_set_ne (Ne.symm hj)] at e2
    obtain ⟨u',r',q⟩:=hl j y v' e1 e2 e3
    refine ⟨u',r',?_⟩
    rcases q with q | ⟨k,c',e,z'⟩
    ·exact .inl q
    ·refine .inr ⟨k,c',e,z'.sameBut hs ?_⟩
     rintro rfl
     exact hj (Vv hN e1 (I.ok.inj _ _ _ e hc▸hi))
  ·by_cases hcc:c'=c
   ·subst hcc;exact ⟨_,hc'⟩
   ·obtain ⟨w2,z2⟩:=I.cell y c' e
    exact ⟨w2,z2.sameBut hs hcc⟩
  ·obtain ⟨e,n,ne,nf,d⟩:=I.pin p hp
   refine ⟨(hs.2 p.1 ?_).trans e,n,ne,nf,d⟩
   intro q
   rw [q,hoc] at e
   have q':oc=p.2:=Option.some.inj e
   exact d w' (by rw [← q'];exact hocd)
theorem XD {M:Model} {A:Around} {E:Value→Shared→Prop} {i:Nat} {x:Str} {v:V} {u:Value} {Q:Unit→Shared→Prop} (I:Inv X pins σ H s) (hN:X.N.Nodup) (hi:X.N[i]?=some x) (hx:Loc X.env.scope x) (r:Ys v u)
  (h:∀ s',Inv X pins (σ.set i (some v)) H s'→Q () s') (hf:X.fn x=true∨X.env.scope.names.lookup x=some .local:=by first | exact .inl rfl | exact .inr rfl | assumption):wpAny M A (storeName X.env x u) Q E s :=
 Ybg I hN hi hx r (fun s' I' _=>h s' I') hf
theorem Inv.call' {s':Shared} {ch:List Addr} (I:Inv X pins σ H s) (ho:s'.os=s.os) (u:Un (frs X.stack) ch H H' s.heap s'.heap) (hok:HOk X.prog X.w H' s'.heap) (hg:AllBare s'.gens)
  (hch:∀ b∈ch,(b∈X.ex∨X.s₀.heap.objs.size≤b)∧b≠X.env.locals∧(∀ x c,X.env.cells.lookup x=some c→c≠b)∧∀ p∈X.pn++pins,p.1≠b):Inv X pins σ H' s':=by
 obtain ⟨h',g',d',t',o'⟩:=s'
 have e:o'=s.os:=ho
 subst e
 exact I.call (g':=g') (t':=t') (d':=d') u hok hg hch
end
abbrev XK:=Value→Option Addr→Hp→Prop
abbrev St:=List (Option V)
abbrev VK:=V→Hp→Prop
abbrev TE:=St→Hp→VK→Prop
abbrev TT:=St→Hp→(Bool→Hp→Prop)→Prop
abbrev TA:=St→Hp→(List V→Hp→Prop)→Prop
structure Ends where
 nx:St→Hp→Prop
 rt:VK
 bk:St→Hp→Prop:=fun _ _=>False
 ct:St→Hp→Prop:=fun _ _=>False
abbrev TS:=Ends→St→Hp→Prop
def EP (X:Cx) (pins:List (Addr×Obj)) (σ:St) (Q:VK) (u:Value) (s':Shared):Prop:=∃ v H',Inv X pins σ H' s'∧Ys v u∧Q v H'
def TP (X:Cx) (pins:List (Addr×Obj)) (σ:St) (Q:Bool→Hp→Prop) (b:Bool) (s':Shared):Prop:=∃ H',Inv X pins σ H' s'∧Q b H'
def AP (X:Cx) (pins:List (Addr×Obj)) (σ:St) (Q:List V→Hp→Prop) (us:List Value) (s':Shared):Prop:=∃ vs H',Inv X pins σ H' s'∧Ym vs us∧Q vs H'
def SP (X:Cx) (pins:List (Addr×Obj)) (D:Ends) (f:Flow) (s':Shared):Prop :=
 match f with
 | .next=>∃ σ' H',Inv X pins σ' H' s'∧D.nx σ' H'
 | .brk=>∃ σ' H',Inv X pins σ' H' s'∧D.bk σ' H'
 | .cont=>∃ σ' H',Inv X pins σ' H' s'∧D.ct σ' H'
 | .ret u=>∃ v σ' H',Inv X pins σ' H' s'∧Ys v u∧D.rt v H'
def PE (X:Cx) (e:Expr) (t:TE):Prop :=
 ∀ (pins:List (Addr×Obj)) (s:Shared) (σ:St) (H:Hp) (Q:VK),Inv X pins σ H s→t σ H Q→wpAny (model X.prog X.w) X.A (eval e X.env) (EP X pins σ Q) X.xe s
def PT (X:Cx) (e:Expr) (t:TT):Prop :=
 ∀ (pins:List (Addr×Obj)) (s:Shared) (σ:St) (H:Hp) (Q:Bool→Hp→Prop),Inv X pins σ H s→t σ H Q→wpAny (model X.prog X.w) X.A (isTrue e X.env (eval e X.env)) (TP X pins σ Q) X.xe s
def PW (X:Cx) (e:Expr) (t:TT):Prop :=
 ∀ (whole:Sem Value) (pins:List (Addr×Obj)) (s:Shared) (σ:St) (H:Hp) (Q:Bool→Hp→Prop),Inv X pins σ H s→t σ H Q→wpAny (model X.prog X.w) X.A (isTrue e X.env whole) (TP X pins σ Q) X.xe s
theorem PW.pt {X:Cx} {e:Expr} {t:TT} (h:PW X e t):PT X e t:=h _
def PA (X:Cx) (es:List Expr) (t:TA):Prop :=
 ∀ (pos:Pos) (pins:List (Addr×Obj)) (s:Shared) (σ:St) (H:Hp) (Q:List V→Hp→Prop),Inv X pins σ H s→t σ H Q→wpAny (model X.prog X.w) X.A (spliced (backTo pos (starEach es X.env))) (AP X pins σ Q) X.xe s
def PS (X:Cx) (st:Stmt) (t:TS):Prop :=
 ∀ (pins:List (Addr×Obj)) (s:Shared) (σ:St) (H:Hp) (D:Ends),Inv X pins σ H s→t D σ H→wpAny (model X.prog X.w) X.A (exec st X.env) (SP X pins D) X.xe s
def PSs (X:Cx) (st:List Stmt) (t:TS):Prop :=
 ∀ (pins:List (Addr×Obj)) (s:Shared) (σ:St) (H:Hp) (D:Ends),Inv X pins σ H s→t D σ H→wpAny (model X.prog X.w) X.A (execs st X.env) (SP X pins D) X.xe s
theorem thn {α:Type} {t:Sem α} {Q Q':α→Shared→Prop} {M:Model} {A:Around} {E:Value→Shared→Prop} {s:Shared} (h:wpAny M A t Q E s) (hQ:∀ a s,Q a s→Q' a s):wpAny M A t Q' E s:=wpAny_mono h hQ fun _ _ x=>x
end L2
namespace L2
open PySem PySem.Spec PyProof.Rows
section
variable {X:Cx}
def W4 (i:Nat):TE:=fun σ H Q=>∃ v,σ[i]?=some (some v)∧Q v H
def tC (v:V):TE:=fun _ H Q=>Q v H
theorem Ybh {i:Nat} {x:Str} {pos:Pos} (hN:X.N[i]?=some x) (hv:Vis X.env.scope x) (hd:(x==("__debug__":Str))=false:=by decide) (hcd:(x==("__classdict__":Str))=false:=by decide):PE X (.Name x pos) (W4 i):=by
 intro pins s σ H Q I h
 obtain ⟨v,e,h⟩:=h
 obtain ⟨m,hn,hl⟩:=I.loc
 obtain ⟨u,r,l⟩:=hl i x v hN e hv
 have fin:EP X pins σ Q u s:=⟨v,H,I,r,h⟩
 rcases l with ⟨hk,hm⟩ | ⟨hk,c,hc,hcell⟩
 ·exact wpAny_Name (wpAny_loadName_local I.ok.kind hk hn hm fin) hd
 ·rcases hk with hk | hk
  ·exact wpAny_Name (wpAny_loadName_cell I.ok.kind hk hc hcell fin) hd
  ·exact wpAny_Name (wpAny_loadName_free I.ok.kind hk hc hcell fin hcd) hd
theorem Yj {i j pos}:PE X (.Constant (.int i) j pos) (tC (.int i)):=fun _ _ _ H _ I h=>wpAny_Constant_int ⟨.int i,H,I.tok _,⟨_,rfl⟩,h⟩
theorem WA {b j pos}:PE X (.Constant (.bool b) j pos) (tC (.bl b)):=fun _ _ _ H _ I h=>Constant_bool ⟨.bl b,H,I,rfl,h⟩
theorem X6 {j pos}:PE X (.Constant .none j pos) (tC .non):=fun _ _ _ H _ I h=>Constant_none ⟨.non,H,I,rfl,h⟩
theorem YF {x j pos}:PE X (.Constant (.str x) j pos) (tC (.str x)):=fun _ _ _ H _ I h=>Calls.Constant_str ⟨.str x,H,I.tok _,⟨_,rfl⟩,h⟩
def Gl (X:Cx) (x:Str):Prop:=X.env.kindOf x=some .globalImplicit
theorem Wl {E:Value→Shared→Prop} {pins:List (Addr×Obj)} {s:Shared} {σ:St} {H:Hp} {x:Str} {u:Value} {pos:Pos} {Q:Value→Shared→Prop} (I:Inv X pins σ H s) (hg:Gl X x) (hm:X.mg x=some u) (h:Q u s)
  (hd:(x==("__debug__":Str))=false:=by decide):wpAny (model X.prog X.w) X.A (eval (.Name x pos) X.env) Q E s :=
 Calls.Name_function_global I.ok.kind hg (Calls.loadGlobal_global (by rw [I.ok.glob];exact I.mod.glob.keeps I.bk) hm h) hd
theorem XN {E:Value→Shared→Prop} {pins:List (Addr×Obj)} {s:Shared} {σ:St} {H:Hp} {x:Str} {u:Value} {pos:Pos} {Q:Value→Shared→Prop} (I:Inv X pins σ H s) (hg:Gl X x) (hm:X.mg x=none) (hv:bootBuiltins x=some u) (h:Q u s)
  (hn:x≠"__name__":=by decide) (hd:(x==("__debug__":Str))=false:=by decide):wpAny (model X.prog X.w) X.A (eval (.Name x pos) X.env) Q E s:=by
 obtain ⟨mb,h1,h2⟩:=I.mod.blt
 exact Calls.Name_function_global I.ok.kind hg (Calls.loadGlobal_builtin (by rw [I.ok.glob];exact I.mod.glob.keeps I.bk) hm (by rw [I.ok.blt];exact h1.keeps I.bk) ((h2 x hn).trans hv) h) hd
theorem QY {x:Str} {v:V} {u:Value} {pos:Pos} (hg:Gl X x) (hm:X.mg x=some u) (r:Ys v u) (hd:(x==("__debug__":Str))=false:=by decide):PE X (.Name x pos) (tC v) :=
 fun _ _ _ H _ I h=>Wl I hg hm ⟨v,H,I,r,h⟩ hd
theorem Ydj {x:Str} {v:V} {u:Value} {pos:Pos} (hg:Gl X x) (hm:X.mg x=none) (hv:bootBuiltins x=some u) (r:Ys v u) (hn:x≠"__name__":=by decide) (hd:(x==("__debug__":Str))=false:=by decide):PE X (.Name x pos) (tC v) :=
 fun _ _ _ H _ I h=>XN I hg hm hv ⟨v,H,I,r,h⟩ hn hd
variable {a b:Expr} {ta tb:TE} {pos:Pos}
def tB (t:TE):TT:=fun σ H Q=>t σ H fun x H1=>∃ c,x = .bl c∧Q c H1
theorem Y7 {e:Expr} {t:TE} (h:PE X e t) (he:∀ whole,isTrue e X.env whole=(do let v ← whole;standAt e.pos;holding [v] (truthy v))):PT X e (tB t):=by
 intro pins s σ H Q I hw
 refine isTrue_plain (thn (h pins s σ H _ I hw) fun v s1 ⟨x,H1,I1,r1,q1⟩=>?_) (he _)
 obtain ⟨d,rfl,q⟩:=q1
 cases r1
 exact wpAny_truthy_bool ⟨H1,I1,q⟩
variable {tA tB':TT} {YQ:List Expr}
def tAnd (t u:TT):TT:=fun σ H Q=>t σ H fun c H1=>if c=true then u σ H1 Q else Q false H1
def tOr (t u:TT):TT:=fun σ H Q=>t σ H fun c H1=>if c=true then Q true H1 else u σ H1 Q
def tNot (t:TT):TT:=fun σ H Q=>t σ H fun c H1=>Q (!c) H1
theorem W5 (ha:PT X a tA):PW X (.BoolOp .Or [a] pos) tA:=by
 intro wh pins s σ H Q I h
 refine isTrue_or (thn (ha pins s σ H Q I h) fun c s1 e=>?_)
 cases c with
 | false=>exact isTrue_or_nil e
 | true=>exact e
theorem WT (ha:PT X a tA) (hb:PW X (.BoolOp .Or (b::YQ) pos) tB'):PW X (.BoolOp .Or (a::b::YQ) pos) (tOr tA tB'):=by
 intro wh pins s σ H Q I h
 refine isTrue_or (thn (ha pins s σ H _ I h) fun c s1 ⟨H1,I1,q1⟩=>?_)
 cases c with
 | true=>exact ⟨H1,I1,q1⟩
 | false=>exact hb wh pins s1 σ H1 Q I1 q1
theorem Xp (ha:PT X a tA):PT X (.UnaryOp .Not a pos) (tNot tA):=by
 intro pins s σ H Q I h
 exact isTrue_not (ha pins s σ H (fun c H1=>Q (!c) H1) I h)
def YcZ (ta tb:TE):TE:=fun σ H Q=>ta σ H fun x H1=>∃ c,x = .bl c∧if c=true then tb σ H1 Q else Q (.bl false) H1
def tOrV (ta tb:TE):TE:=fun σ H Q=>ta σ H fun x H1=>∃ c,x = .bl c∧if c=true then Q (.bl true) H1 else tb σ H1 Q
def Yc0 (ta:TE):TE:=fun σ H Q=>ta σ H fun x H1=>∃ c,x = .bl c∧Q (.bl (!c)) H1
theorem UY {op} {t:TE} (h:PE X a t):PE X (.BoolOp op [a] pos) t:=fun pins s σ H Q I hw=>BoolOp_one (h pins s σ H Q I hw)
theorem UZ (ha:PE X a ta) (hb:PE X (.BoolOp .And (b::YQ) pos) tb):PE X (.BoolOp .And (a::b::YQ) pos) (YcZ ta tb):=by
 intro pins s σ H Q I h
 refine BoolOp_and (thn (ha pins s σ H _ I h) fun v s1 ⟨x,H1,I1,r1,q1⟩=>?_)
 obtain ⟨c,rfl,q1⟩:=q1
 cases r1
 refine wpAny_truthy_bool ?_
 cases c with
 | true=>exact hb pins s1 σ H1 Q I1 q1
 | false=>exact ⟨.bl false,H1,I1,rfl,q1⟩
theorem Yd3 (ha:PE X a ta):PE X (.UnaryOp .Not a pos) (Yc0 ta):=by
 intro pins s σ H Q I h
 refine UnaryOp_ (thn (ha pins s σ H _ I h) fun v s1 ⟨x,H1,I1,r1,q1⟩=>?_)
 obtain ⟨c,rfl,q1⟩:=q1
 cases r1
 exact not_of (wpAny_truthy_bool ⟨.bl (!c),H1,I1,rfl,q1⟩)
def tIf (t:TT) (ta tb:TE):TE:=fun σ H Q=>t σ H fun c H1=>if c=true then ta σ H1 Q else tb σ H1 Q
theorem Vw {c:Expr} (hc:PT X c tA) (ha:PE X a ta) (hb:PE X b tb):PE X (.IfExp c a b pos) (tIf tA ta tb):=by
 intro pins s σ H Q I h
 refine wpAny_IfExp (thn (hc pins s σ H _ I h) fun d s1 ⟨H1,I1,q1⟩=>?_)
 cases d with
 | true=>exact ha pins s1 σ H1 Q I1 q1
 | false=>exact hb pins s1 σ H1 Q I1 q1
end
end L2
namespace L2
open PySem PySem.Spec PyProof.Rows
def SqL (K:PySem.W.Frag) (H:Hp) (a:Addr) (xs:List V):Prop :=
 Rd H a (.lst xs) ∨
  ∃ (o:Obj) (its:Array Value) (n:Nat),K.lookup a=some o∧o.cls = .type "list"∧o.dict=none∧o.data = .seq its n∧its.size≤sizeLine∧Ym xs its.toList
def SqT (K:PySem.W.Frag) (H:Hp) (a:Addr) (xs:List V):Prop :=
 Rd H a (.tup xs) ∨
  ∃ (o:Obj) (its:Array Value) (n:Nat),K.lookup a=some o∧o.cls = .type "tuple"∧o.data = .seq its n∧its.size≤sizeLine∧Ym xs its.toList
def absV:Value→Option V
 | .none=>some .non
 | .bool b=>some (.bl b)
 | .int i _=>some (.int i)
 | .str x _=>some (.str x)
 | .bytes b _=>some (.byt b)
 | .float b _=>some (.flt b)
 | .ref a=>some (.ref a)
 | .type n=>some (.ty n)
 | _=>none
theorem Ys.abs {x:V} {u:Value} (r:Ys x u):absV u=some x:=by
 cases x with
 | non=>cases r;rfl
 | bl _=>cases r;rfl
 | int _=>obtain ⟨t,rfl⟩:=r;rfl
 | str _=>obtain ⟨t,rfl⟩:=r;rfl
 | byt _=>obtain ⟨t,rfl⟩:=r;rfl
 | flt _=>obtain ⟨t,rfl⟩:=r;rfl
 | ref _=>cases r;rfl
 | ty _=>cases r;rfl
theorem Ys.inj {x y:V} {u:Value} (r:Ys x u) (q:Ys y u):x=y:=Option.some.inj (r.abs.symm.trans q.abs)
theorem Ym.inj:∀ {xs ys:List V} {us:List Value},Ym xs us→Ym ys us→xs=ys
 | _,_,_,.nil,.nil=>rfl
 | _,_,_,.cons r t,.cons r' t'=>by rw [r.inj r',Ym.inj t t']
section
variable {X:Cx} {pins:List (Addr×Obj)} {σ:St} {H:Hp} {s:Shared} {a:Addr} {xs ys:List V}
theorem SqL.of {K:PySem.W.Frag} (h:H a=some (.lst xs)):SqL K H a xs := .inl (.inl h)
theorem SqT.of {K:PySem.W.Frag} (h:H a=some (.tup xs)):SqT K H a xs := .inl (.inl h)
theorem Inv.list (I:Inv X pins σ H s) (h:SqL X.K H a xs):∃ its:List Value,Ym xs its∧PlainL s.heap a its.toArray∧xs.length≤sizeLine:=by
 rcases h with h | ⟨o,its,n,hk,hc,hd,hs,hz,r⟩
 ·obtain ⟨z,its,n,r,e⟩:=h.ok I.hok
  exact ⟨its,r,⟨_,n,e,rfl,rfl,rfl⟩,z⟩
 ·refine ⟨its.toList,r,⟨o,n,I.kIn a o hk,hc,hd,by simpa using hs⟩,?_⟩
  have e:=r.length
  simp only [Array.length_toList] at e
  omega
theorem Inv.tuple (I:Inv X pins σ H s) (h:SqT X.K H a xs):∃ its:List Value,Ym xs its∧IsTup s.heap a its.toArray∧xs.length≤sizeLine:=by
 rcases h with h | ⟨o,its,n,hk,hc,hs,hz,r⟩
 ·obtain ⟨z,its,r,p⟩:=h.ok I.hok
  exact ⟨its,r,p,z⟩
 ·refine ⟨its.toList,r,⟨o,I.kIn a o hk,hc,n,by simpa using hs⟩,?_⟩
  have e:=r.length
  simp only [Array.length_toList] at e
  omega
theorem Inv.list_inj (I:Inv X pins σ H s) (h:SqL X.K H a xs) (h':SqL X.K H a ys):xs=ys:=by
 obtain ⟨its,r,⟨o,n,e,_,_,d⟩,_⟩:=I.list h
 obtain ⟨its',r',⟨o',n',e',_,_,d'⟩,_⟩:=I.list h'
 rw [e] at e';cases e'
 rw [d] at d'
 injection d' with d1 _
 have:its=its':=by simpa using congrArg Array.toList d1
 subst this
 exact r.inj r'
theorem Inv.tuple_inj (I:Inv X pins σ H s) (h:SqT X.K H a xs) (h':SqT X.K H a ys):xs=ys:=by
 obtain ⟨its,r,⟨o,e,_,n,d⟩,_⟩:=I.tuple h
 obtain ⟨its',r',⟨o',e',_,n',d'⟩,_⟩:=I.tuple h'
 rw [e] at e';cases e'
 rw [d] at d'
 injection d' with d1 _
 have:its=its':=by simpa using congrArg Array.toList d1
 subst this
 exact r.inj r'
end
abbrev Cx.wish (X:Cx) (E:Value→Shared→Prop):Cx:={ X with xe:=E }
abbrev Cx.nox (X:Cx):Cx:=X.wish fun _ _=>False
theorem Cx.Ok.wish {X:Cx} (ok:X.Ok) (E:Value→Shared→Prop):(X.wish E).Ok :=
 ⟨ok.mod,ok.kind,ok.glob,ok.blt,ok.above,ok.inj,ok.has,ok.cab,ok.hd,ok.frames,ok.stk,ok.exf,ok.bs,ok.bsz,ok.noex,ok.exfs,ok.funs,ok.frf⟩
theorem Cx.Ok.unwish {X:Cx} {E:Value→Shared→Prop} (ok:(X.wish E).Ok):X.Ok :=
 ⟨ok.mod,ok.kind,ok.glob,ok.blt,ok.above,ok.inj,ok.has,ok.cab,ok.hd,ok.frames,ok.stk,ok.exf,ok.bs,ok.bsz,ok.noex,ok.exfs,ok.funs,ok.frf⟩
section
variable {X:Cx} {pins:List (Addr×Obj)} {σ:St} {H:Hp} {s:Shared} {E:Value→Shared→Prop}
theorem Inv.wish (I:Inv X pins σ H s) (E:Value→Shared→Prop):Inv (X.wish E) pins σ H s:=⟨I.ok.wish E,I.os,I.bare,I.base,I.loc,I.cell,I.free,I.freeC,I.pin,I.hok,I.len⟩
theorem Inv.unwish (I:Inv (X.wish E) pins σ H s):Inv X pins σ H s:=⟨I.ok.unwish,I.os,I.bare,I.base,I.loc,I.cell,I.free,I.freeC,I.pin,I.hok,I.len⟩
theorem SP.unwish {D:Ends} {f:Flow} {s':Shared} (h:SP (X.wish E) pins D f s'):SP X pins D f s':=by
 cases f with
 | next=>obtain ⟨σ',H',I,q⟩:=h;exact ⟨σ',H',I.unwish,q⟩
 | brk=>obtain ⟨σ',H',I,q⟩:=h;exact ⟨σ',H',I.unwish,q⟩
 | cont=>obtain ⟨σ',H',I,q⟩:=h;exact ⟨σ',H',I.unwish,q⟩
 | ret u=>obtain ⟨v,σ',H',I,r,q⟩:=h;exact ⟨v,σ',H',I.unwish,r,q⟩
theorem PSs.nox {st:List Stmt} {t:TS} (h:PSs X.nox st t):PSs X st t:=fun pins s σ H D I hw =>
 wpAny_mono (h pins s σ H D (I.wish _) hw) (fun _ _ q=>q.unwish) fun _ _ z=>False.elim z
end
section
variable {X:Cx} {st:Stmt} {YQ:List Stmt} {t u:TS} {e:Expr} {te:TE} {pos:Pos}
def Yc1:TS:=fun D σ H=>D.nx σ H
def Y8 (t u:TS):TS:=fun D σ H=>t { D with nx:=u D } σ H
theorem Yt:PSs X [] Yc1:=fun _ _ σ H _ I h=>wpAny_execs_nil ⟨σ,H,I,h⟩
theorem Yf (h1:PS X st t) (h2:PSs X YQ u):PSs X (st::YQ) (Y8 t u):=by
 intro pins s σ H D I h
 refine wpAny_execs_cons (thn (h1 pins s σ H { D with nx:=u D } I h) fun f s1 q=>?_)
 cases f with
 | next =>
  obtain ⟨σ',H',I',q⟩:=q
  exact h2 pins s1 σ' H' D I' q
 | ret v=>exact q
 | brk=>exact q
 | cont=>exact q
theorem Yh (h1:PS X st t):PSs X [st] t:=by
 intro pins s σ H D I h
 refine wpAny_execs_cons (thn (h1 pins s σ H D I h) fun f s1 q=>?_)
 cases f with
 | next=>exact wpAny_execs_nil q
 | ret v=>exact q
 | brk=>exact q
 | cont=>exact q
def Yd4:TS:=fun D σ H=>D.bk σ H
def tCont:TS:=fun D σ H=>D.ct σ H
theorem Inv.quiet {pins:List (Addr×Obj)} {σ:St} {H:Hp} {s:Shared} (I:Inv X pins σ H s):interactive X.env=false:=by simp [interactive,I.ok.kind]
def Yat (te:TE):TS:=fun D σ H=>te σ H fun _ H1=>D.nx σ H1
theorem YV (he:PE X e te) (hs:swapsWith e none pos.line X.env=pure false:=by rfl):PS X (.Expr e pos) (Yat te):=by
 intro pins s σ H D I h
 exact wpAny_Expr_any (thn (he pins s σ H _ I h) fun v s1 ⟨x,H1,I1,r1,q1⟩=>⟨σ,H1,I1,q1⟩) I.quiet hs
def tRet (te:TE):TS:=fun D σ H=>te σ H D.rt
theorem Yl (he:PE X e te):PS X (.Return (some e) pos) (tRet te):=by
 intro pins s σ H D I h
 exact wpAny_Return_some (thn (he pins s σ H _ I h) fun v s1 ⟨x,H1,I1,r1,q1⟩=>⟨x,σ,H1,I1,r1,q1⟩)
def tRetN:TS:=fun D _ H=>D.rt .non H
def tIfS (c:TT) (t u:TS):TS:=fun D σ H=>c σ H fun b H1=>if b=true then t D σ H1 else u D σ H1
theorem YO {c:Expr} {a b:List Stmt} {tc:TT} (hc:PT X c tc) (ha:PSs X a t) (hb:PSs X b u):PS X (.If c a b pos) (tIfS tc t u):=by
 intro pins s σ H D I h
 refine wpAny_If (thn (hc pins s σ H _ I h) fun d s1 ⟨H1,I1,q1⟩=>?_)
 cases d with
 | true=>exact ha pins s1 σ H1 D I1 q1
 | false=>exact hb pins s1 σ H1 D I1 q1
def Ybi:TS:=fun _ _ _=>False
theorem XE:PS X st Ybi:=fun _ _ _ _ _ _ h=>h.elim
end
abbrev TG:=V→St→Hp→(St→Hp→Prop)→Prop
abbrev TGs:=List V→St→Hp→(St→Hp→Prop)→Prop
def PG (X:Cx) (target:Expr) (t:TG):Prop :=
 ∀ (pins:List (Addr×Obj)) (s:Shared) (σ:St) (H:Hp) (v:V) (u:Value) (Q:St→Hp→Prop),Inv X pins σ H s→Ys v u→t v σ H Q →
  wpAny (model X.prog X.w) X.A (assign target X.env u) (fun _ s'=>∃ σ' H',Inv X pins σ' H' s'∧Q σ' H') X.xe s
def PGs (X:Cx) (ts:List Expr) (t:TGs):Prop :=
 ∀ (pins:List (Addr×Obj)) (s:Shared) (σ:St) (H:Hp) (vs:List V) (us:List Value) (Q:St→Hp→Prop),Inv X pins σ H s→Ym vs us→t vs σ H Q →
  wpAny (model X.prog X.w) X.A (assignInOrder ((assignEach ts X.env).map (·.2)) us) (fun _ s'=>∃ σ' H',Inv X pins σ' H' s'∧Q σ' H') X.xe s
abbrev TSet:=V→V→V→Hp→(Hp→Prop)→Prop
abbrev TIp:=V→V→Hp→VK→Prop
def PIp (X:Cx) (op:Operator) (t:TIp):Prop :=
 ∀ (pins:List (Addr×Obj)) (s:Shared) (σ:St) (H:Hp) (x y:V) (v u:Value) (Q:VK),Inv X pins σ H s→Ys x v→Ys y u→t x y H Q →
  wpAny (model X.prog X.w) X.A (inplaceOp op v u) (EP X pins σ Q) X.xe s
section
variable {X:Cx} {pos:Pos}
def YM (i:Nat):TG:=fun v σ H Q=>Q (σ.set i (some v)) H
theorem YJ {i:Nat} {x:Str} (hN:X.N.Nodup) (hi:X.N[i]?=some x) (hx:Loc X.env.scope x) (hf:X.fn x=true∨X.env.scope.names.lookup x=some .local:=by first | exact .inl rfl | exact .inr rfl | assumption):PG X (.Name x pos) (YM i):=by
 intro pins s σ H v u Q I r h
 exact wpAny_assign_Name (XD I hN hi hx r (fun s' I'=>⟨_,H,I',h⟩) hf)
def V5:TGs:=fun vs σ H Q=>vs=[]∧Q σ H
def X4 (t:TG) (u:TGs):TGs:=fun vs σ H Q=>∃ v r,vs=v::r∧t v σ H fun σ' H'=>u r σ' H' Q
theorem V6:PGs X [] V5:=by
 intro pins s σ H vs us Q I r h
 obtain ⟨e,h⟩:=h
 subst e
 cases r
 exact assignInOrder_nil ⟨σ,H,I,h⟩
theorem XT {e:Expr} {es:List Expr} {t:TG} {u:TGs} (h1:PG X e t) (h2:PGs X es u)
  (hs:(assignEach (e::es) X.env).map (·.2)=assign e X.env::(assignEach es X.env).map (·.2)):PGs X (e::es) (X4 t u):=by
 intro pins s σ H vs us Q I r h
 obtain ⟨v,vr,e1,h⟩:=h
 subst e1
 cases r with
 | cons r rr =>
  rw [hs]
  refine assignInOrder_cons (thn (h1 pins s σ H _ _ _ I r h) fun _ s1 ⟨σ1,H1,I1,q1⟩=>?_)
  exact h2 pins s1 σ1 H1 _ _ Q I1 rr q1
def V7 (K:PySem.W.Frag) (n:Nat) (t:TGs):TG:=fun v σ H Q=>∃ a xs,v = .ref a∧SqT K H a xs∧xs.length=n∧t xs σ H Q
theorem U0 {es:List Expr} {k:Nat} {t:TGs} {n:Nat} (hc:X.calm=true) (h:PGs X es t)
  (hn:(assignEach es X.env).length=n) (hst:(assignEach es X.env).findIdx? (·.1)=none):PG X (.Tuple es k pos) (V7 X.K n t):=by
 intro pins s σ H v u Q I r hw
 obtain ⟨a,xs,e1,hq,hl,hw⟩:=hw
 subst e1
 cases r
 obtain ⟨its,rv,ht,hz⟩:=I.tuple hq
 refine assign_Tuple_tuple (I.ok.hd hc) ht (by simp [hn,← hl,rv.length]) hst fun h' hx=>?_
 have I1:Inv X pins σ H { s with heap:=h' }:=I.kept (t':=s.toks) fun b o e=>hx b o (Nat.ne_of_lt (Heap.lt_size e)) e
 exact h pins _ σ H xs _ Q I1 (by simpa using rv) hw
def gSub (to ti:TE) (t:TSet):TG:=fun v σ H Q=>to σ H fun o H1=>ti σ H1 fun i H2=>t o i v H2 fun H3=>Q σ H3
def tAsg (te:TE) (g:TG):TS:=fun D σ H=>te σ H fun x H1=>g x σ H1 D.nx
theorem Yp {i:Nat} {x:Str} {e:Expr} {te:TE} {pos':Pos} (hN:X.N.Nodup) (hi:X.N[i]?=some x) (hx:Loc X.env.scope x) (he:PE X e te) (hs:swapsWith e (some (.Name x pos')) pos.line X.env=pure false) (hf:X.fn x=true∨X.env.scope.names.lookup x=some .local) :
  PS X (.Assign [.Name x pos'] e pos) (tAsg te (YM i)):=by
 intro pins s σ H D I h
 refine wpAny_Assign_Name (thn (he pins s σ H _ I h) fun v s1 ⟨y,H1,I1,r1,q1⟩=>?_) hs
 exact XD I1 hN hi hx r1 (fun s2 I2=>⟨_,H1,I2,q1⟩) hf
def tAug (i:Nat) (te:TE) (ti:TIp):TS:=fun D σ H=>∃ x,σ[i]?=some (some x)∧te σ H fun y H1=>ti x y H1 fun z H2=>D.nx (σ.set i (some z)) H2
theorem VF {i:Nat} {x:Str} {e:Expr} {te:TE} {op:Operator} {ti:TIp} {pos':Pos} (hN:X.N.Nodup) (hi:X.N[i]?=some x) (hx:Loc X.env.scope x) (he:PE X e te) (ho:PIp X op ti) (hf:X.fn x=true∨X.env.scope.names.lookup x=some .local) :
  PS X (.AugAssign (.Name x pos') op e pos) (tAug i te ti):=by
 intro pins s σ H D I h
 obtain ⟨v,e1,h⟩:=h
 obtain ⟨m,hn,hl⟩:=I.loc
 have vis:Vis X.env.scope x:=by rcases hx with k | k;exact .inl k;exact .inr (.inl k)
 obtain ⟨u,r,l⟩:=hl i x v hi e1 vis
 refine wpAny_AugAssign_Name ?_
 have go:wpAny (model X.prog X.w) X.A (eval e X.env) (fun w s₂=>wpAny (model X.prog X.w) X.A (inplaceOp op u w) (fun r s₃=>wpAny (model X.prog X.w) X.A (storeName X.env x r) (fun _=>SP X pins D .next) X.xe s₃) X.xe s₂) X.xe s:=by
  refine thn (he pins s σ H _ I h) fun w s1 ⟨y,H1,I1,r1,q1⟩=>?_
  refine thn (ho pins s1 σ H1 v y u w _ I1 r r1 q1) fun z s2 ⟨zv,H2,I2,r2,q2⟩=>?_
  exact XD I2 hN hi hx r2 (fun s3 I3=>⟨_,H2,I3,q2⟩) hf
 rcases l with ⟨hk,hm⟩ | ⟨hk,c,hc,hcell⟩
 ·exact wpAny_loadName_local I.ok.kind hk hn hm go
 ·rcases hk with hk | hk
  ·exact wpAny_loadName_cell I.ok.kind hk hc hcell go
  ·rcases hx with k | k
   ·have:X.env.scope.names.lookup x=some .free:=hk
    rw [k] at this;cases this
   ·have:X.env.scope.names.lookup x=some .free:=hk
    rw [k] at this;cases this
def ipI (f:Int→Int→Int):TIp:=fun x y H Q=>∃ i j,x = .int i∧y = .int j∧Q (.int (f i j)) H
theorem Yd5:PIp X .Add (ipI fun i j=>i+j):=by
 intro pins s σ H x y v u Q I r1 r2 h
 obtain ⟨i,j,e1,e2,q⟩:=h
 subst e1;subst e2
 obtain ⟨t,rfl⟩:=r1
 obtain ⟨t',rfl⟩:=r2
 exact iadd_int ⟨.int _,H,I.tok _,⟨_,rfl⟩,q⟩
theorem U1:PIp X .Sub (ipI fun i j=>i - j):=by
 intro pins s σ H x y v u Q I r1 r2 h
 obtain ⟨i,j,e1,e2,q⟩:=h
 subst e1;subst e2
 obtain ⟨t,rfl⟩:=r1
 obtain ⟨t',rfl⟩:=r2
 exact isub_int ⟨.int _,H,I.tok _,⟨_,rfl⟩,q⟩
end
section
variable {X:Cx} {pos:Pos}
def Ybj (c:TT) (tb:TS):TS:=fun D σ H=>∃ W:Nat→St→Hp→Prop,(∃ m,W m σ H)∧∀ m σ H,W m σ H →
 c σ H fun b H1=>if b=true then ∃ N:St→Hp→Prop,(∀ σ' H',N σ' H'→∃ m',m'<m∧W m' σ' H')∧tb { D with nx:=N,ct:=N,bk:=D.nx } σ H1 else D.nx σ H1
theorem XF {c:Expr} {body:List Stmt} {tc:TT} {tb:TS} (hp:PassesOwn (model X.prog X.w) X.A X.env X.xe) (hc:PT X c tc) (hb:PSs X body tb):PS X (.While c body [] pos) (Ybj tc tb):=by
 intro pins s σ H D I h
 obtain ⟨W,⟨m0,w0⟩,turn⟩:=h
 refine wpAny_While (codeAny_whileLoop (fun n s'=>∃ σ' H',Inv X pins σ' H' s'∧W n σ' H') ?_ m0 ⟨σ,H,I,w0⟩)
 rintro n s1 ⟨σ1,H1,I1,w1⟩
 refine wpAny_passesOwn hp (thn (hc pins s1 σ1 H1 _ I1 (turn n σ1 H1 w1)) fun b s2 ⟨H2,I2,q2⟩=>?_)
 cases b with
 | true =>
  obtain ⟨N,hN,q2⟩:=q2
  rw [if_pos rfl]
  refine wpAny_passesOwn hp (thn (hb pins s2 σ1 H2 _ I2 q2) fun f s3 q3=>?_)
  cases f with
  | next =>
   obtain ⟨σ3,H3,I3,n3⟩:=q3
   obtain ⟨m',hm,w3⟩:=hN σ3 H3 n3
   exact ⟨m',hm,σ3,H3,I3,w3⟩
  | cont =>
   obtain ⟨σ3,H3,I3,n3⟩:=q3
   obtain ⟨m',hm,w3⟩:=hN σ3 H3 n3
   exact ⟨m',hm,σ3,H3,I3,w3⟩
  | brk=>exact q3
  | ret v=>exact q3
 | false =>
  rw [if_neg Bool.false_ne_true]
  exact wpAny_execs_nil ⟨σ1,H2,I2,q2⟩
end
structure It where
 go:Nat→Hp→Prop
 yld:Nat→Hp→V→Hp→Prop
 stop:Nat→Hp→Prop
def XU (X:Cx) (pins:List (Addr×Obj)) (H:Hp) (b:Addr):Prop :=
 H b=none∧b≠X.env.locals∧b∉X.fs∧(b∈X.ex∨X.s₀.heap.objs.size≤b)∧(∀ x c,X.env.cells.lookup x=some c→c≠b)∧∀ p∈X.pn++pins,p.1≠b
theorem Inv.fpOk {X:Cx} {pins:List (Addr×Obj)} {σ:St} {H H':Hp} {s:Shared} {b:Addr} (I:Inv X pins σ H s) (hb:s.heap.objs.size≤b) (hn:H' b=none):XU X pins H' b:=by
 refine ⟨hn,Nat.ne_of_gt (Nat.lt_of_lt_of_le I.lt hb),I.nofs hb,.inr (Nat.le_trans I.sz hb),fun x c e z=>?_,fun p hp z=>?_⟩
 ·obtain ⟨v,q⟩:=I.cell x c e
  exact absurd (Nat.lt_of_lt_of_le q.lt (by rw [z];exact hb)) (Nat.lt_irrefl _)
 ·exact absurd (Nat.lt_of_lt_of_le (Heap.lt_size (I.pin p hp).1) (by rw [z];exact hb)) (Nat.lt_irrefl _)
structure Turn (P:Program) (w:World) (K:PySem.W.Frag) (tg:Expr) (J:It) (fp:List Addr) (it:Addr) (tn:Nat→Heap→Prop):Prop where
 mem:it∈fp
 obj:∀ i h,tn i h→∀ b∈fp,∃ o,h.get? b=some o∧∀ v,o.data ≠ .cell v
 keep:∀ i h h',tn i h→(∀ b∈fp,∀ o,h.get? b=some o→h'.get? b=some o)→tn i h'
 item:∀ (X:Cx),X.prog=P→X.w=w→X.K=K→X.calm=true→∀ (i:Nat) (pins:List (Addr×Obj)) (s:Shared) (σ:St) (H:Hp) (E:Value→Shared→Prop),Inv X pins σ H s→(∀ b∈fp,XU X pins H b)→tn i s.heap→J.go i H →
  wpAny (model P w) X.A (pyNext (.ref it)) (fun r s1=>∃ u,r=some u ∧
   wpAny (model P w) X.A (letOwnedTupleGo tg (.ref it) u) (fun _ s2=>∃ x H',Inv X pins σ H' s2∧Ys x u∧J.yld i H x H'∧tn (i+1) s2.heap∧∀ b∈fp,H' b=none) E s1) E s
 done:∀ (X:Cx),X.prog=P→X.w=w→X.K=K→X.calm=true→∀ (i:Nat) (pins:List (Addr×Obj)) (s:Shared) (σ:St) (H:Hp) (E:Value→Shared→Prop),Inv X pins σ H s→(∀ b∈fp,XU X pins H b)→tn i s.heap→J.stop i H →
  wpAny (model P w) X.A (pyNext (.ref it)) (fun r s1=>r=none∧Inv X pins σ H s1) E s
 self:∀ (A:Around) (i:Nat) (s:Shared) (Q:Value→Shared→Prop) (E:Value→Shared→Prop),tn i s.heap→Q (.ref it) s→wpAny (model P w) A (pyIter (.ref it)) Q E s
abbrev TI:=St→Hp→(It→Hp→Prop)→Prop
def PIE (X:Cx) (pins:List (Addr×Obj)) (σ:St) (tg:Expr) (R:It→Hp→Prop) (itv:Value) (s2:Shared):Prop :=
 ∃ (it:Addr) (fp:List Addr) (tn:Nat→Heap→Prop) (J:It) (H':Hp),itv = .ref it∧Inv X pins σ H' s2∧Turn X.prog X.w X.K tg J fp it tn∧tn 0 s2.heap∧(∀ b∈fp,XU X pins H' b)∧R J H'
def PI (X:Cx) (tg iter:Expr) (wi:TI):Prop :=
 ∀ (pins:List (Addr×Obj)) (s:Shared) (σ:St) (H:Hp) (R:It→Hp→Prop),Inv X pins σ H s→wi σ H R →
  wpAny (model X.prog X.w) X.A (eval iter X.env) (fun v s1=>wpAny (model X.prog X.w) X.A (pyIter v) (PIE X pins σ tg R) X.xe s1) X.xe s
theorem UM {M:Model} {A:Around} {E:Value→Shared→Prop} {s:Shared} {tg:Expr} {it:Addr} {u:Value} {o:Obj} {n:String} {vs:Array Value} {Q:Unit→Shared→Prop} (ho:s.heap.get? it=some o) (hc:o.cls = .type n) (hd:o.data = .fields vs)
  (hn:["enumerate","zip","dict_itemiterator","dict_reverseitemiterator","odict_iterator","itertools.zip_longest","itertools.pairwise"].contains n=false) (hQ:Q () s):wpAny M A (letOwnedTupleGo tg (.ref it) u) Q E s:=by
 unfold letOwnedTupleGo
 cases tg<;>first
  | exact wpAny_pure hQ
  | (cases u<;>first
    | exact wpAny_pure hQ
    | (refine wpAny_bind (wpAny_load ho ?_)
       rw [hc,hd]
       show wpAny M A (if (["enumerate","zip","dict_itemiterator","dict_reverseitemiterator","odict_iterator","itertools.zip_longest","itertools.pairwise"].contains n&&vs[0]?==some (rawInt _))=true then _ else _) Q E s
       rw [if_neg (by intro h;rw [hn,Bool.false_and] at h;cases h)]
       exact wpAny_pure hQ))
def Itl (K:PySem.W.Frag) (a:Addr):It :=
 ⟨fun i H=>∃ xs x,SqL K H a xs∧xs[i]?=some x,fun i H x H'=>H'=H∧∀ xs,SqL K H a xs→xs[i]?=some x,fun i H=>∃ xs,SqL K H a xs∧xs.length≤i⟩
def Itt (K:PySem.W.Frag) (a:Addr):It :=
 ⟨fun i H=>∃ xs x,SqT K H a xs∧xs[i]?=some x,fun i H x H'=>H'=H∧∀ xs,SqT K H a xs→xs[i]?=some x,fun i H=>∃ xs,SqT K H a xs∧xs.length≤i⟩
def Itr (lo:Int) (n:Nat):It:=⟨fun i _=>i<n,fun i H x H'=>H'=H∧x = .int (lo+i),fun i _=>n≤i⟩
theorem Ybk {P:Program} {w:World} {K:PySem.W.Frag} {tg:Expr} (a it:Addr):Turn P w K tg (Itl K a) [it] it (fun i h=>h.IsListIter it a i) where
 mem:=by simp
 obj:=fun i h st b hb=>by
  have e:b=it:=by simpa using hb
  subst e
  obtain ⟨o,e,c,d⟩:=st
  exact ⟨o,e,fun v z=>by rw [d] at z;cases z⟩
 keep:=fun i h h' st k=>st.at fun o e=>k it (by simp) o e
 item:=by
  intro X hP hw hK hc i pins s σ H E I hf st hg
  subst hP hw hK
  obtain ⟨xs,x,hq,hx⟩:=hg
  obtain ⟨its,rv,p,hz⟩:=I.list hq
  obtain ⟨u,hu,ru⟩:=rv.get hx
  obtain ⟨f0,f1,f2,f3,f4,f5⟩:=hf it (by simp)
  refine wpAny_pyNext_list_item st p.isList (x:=u) (by simpa using hu) fun h' st' sb=>?_
  have I1:Inv X pins σ H { s with heap:=h' }:=I.turned (t':=s.toks) (fun b o hb e=>(sb.2 b hb).trans e) f0 f1 f3 f4 f5
  obtain ⟨o,e,c,d⟩:=id st'
  exact ⟨u,rfl,UM (s:={ s with heap:=h' }) e c d (by decide) ⟨x,H,I1,ru,⟨rfl,fun ys hy=>by rw [I.list_inj hy hq];exact hx⟩,st',fun b hb=>(hf b hb).1⟩⟩
 done:=by
  intro X hP hw hK hc i pins s σ H E I hf st hg
  subst hP hw hK
  obtain ⟨xs,hq,hx⟩:=hg
  obtain ⟨its,rv,p,hz⟩:=I.list hq
  obtain ⟨f0,f1,f2,f3,f4,f5⟩:=hf it (by simp)
  have hl:=rv.length
  exact wpAny_pyNext_list_end (I.ok.hd hc) st p.isList (by simp;omega) fun h' eb=>⟨rfl,I.turned (t':=s.toks) (fun b o hb e=>eb b o hb e) f0 f1 f3 f4 f5⟩
 self:=fun _ _ _ _ _ st h=>wpAny_pyIter_listiter st h
theorem Yau {P:Program} {w:World} {K:PySem.W.Frag} {tg:Expr} (a it:Addr):Turn P w K tg (Itt K a) [it] it (fun i h=>h.IsTupleIter it a i) where
 mem:=by simp
 obj:=fun i h st b hb=>by
  have e:b=it:=by simpa using hb
  subst e
  obtain ⟨o,e,c,d⟩:=st
  exact ⟨o,e,fun v z=>by rw [d] at z;cases z⟩
 keep:=fun i h h' st k=>st.at fun o e=>k it (by simp) o e
 item:=by
  intro X hP hw hK hc i pins s σ H E I hf st hg
  subst hP hw hK
  obtain ⟨xs,x,hq,hx⟩:=hg
  obtain ⟨its,rv,p,hz⟩:=I.tuple hq
  obtain ⟨u,hu,ru⟩:=rv.get hx
  obtain ⟨f0,f1,f2,f3,f4,f5⟩:=hf it (by simp)
  refine wpAny_pyNext_tuple_item st (show s.heap.IsTuple a its.toArray from p) (x:=u) (by simpa using hu) fun h' st' sb=>?_
  have I1:Inv X pins σ H { s with heap:=h' }:=I.turned (t':=s.toks) (fun b o hb e=>(sb.2 b hb).trans e) f0 f1 f3 f4 f5
  obtain ⟨o,e,c,d⟩:=id st'
  exact ⟨u,rfl,UM (s:={ s with heap:=h' }) e c d (by decide) ⟨x,H,I1,ru,⟨rfl,fun ys hy=>by rw [I.tuple_inj hy hq];exact hx⟩,st',fun b hb=>(hf b hb).1⟩⟩
 done:=by
  intro X hP hw hK hc i pins s σ H E I hf st hg
  subst hP hw hK
  obtain ⟨xs,hq,hx⟩:=hg
  obtain ⟨its,rv,p,hz⟩:=I.tuple hq
  obtain ⟨f0,f1,f2,f3,f4,f5⟩:=hf it (by simp)
  have hl:=rv.length
  exact wpAny_pyNext_tuple_end (I.ok.hd hc) st (show s.heap.IsTuple a its.toArray from p) (by simp;omega) fun h' eb=>⟨rfl,I.turned (t':=s.toks) (fun b o hb e=>eb b o hb e) f0 f1 f3 f4 f5⟩
 self:=fun _ _ _ _ _ st h=>wpAny_pyIter_tupleiter st h
theorem Yav {P:Program} {w:World} {K:PySem.W.Frag} {tg:Expr} (it:Addr) (lo:Int) (n:Nat):Turn P w K tg (Itr lo n) [it] it (fun i h=>IsRangeIter h it (lo+(i:Nat)*1) ((n:Int) - (i:Nat)) 1) where
 mem:=by simp
 obj:=fun i h st b hb=>by
  have e:b=it:=by simpa using hb
  subst e
  exact ⟨_,st,fun v z=>by
   have z':Data.fields _=Data.cell v:=z
   cases z'⟩
 keep:=fun i h h' st k=>k it (by simp) _ st
 item:=by
  intro X hP hw hK hc i pins s σ H E I hf st hg
  subst hP hw hK
  obtain ⟨f0,f1,f2,f3,f4,f5⟩:=hf it (by simp)
  have W:=Walks.range (prog:=X.prog) (w:=X.w) (I.ok.hd hc) it lo 1 n
  refine W.item i s _ _ hg st fun v h' tk hv st' kk=>?_
  obtain ⟨t,rfl⟩:=hv
  have I1:Inv X pins σ H { s with heap:=h',toks:=tk }:=I.turned (fun b o hb e=>kk b o (by simpa using hb) e) f0 f1 f3 f4 f5
  refine ⟨_,rfl,UM (s:={ s with heap:=h',toks:=tk }) (n:="range_iterator") st' rfl rfl (by decide) ⟨.int (lo+i),H,I1,⟨t,?_⟩,⟨rfl,rfl⟩,st',fun b hb=>(hf b hb).1⟩⟩
  rw [Int.mul_one]
 done:=by
  intro X hP hw hK hc i pins s σ H E I hf st hg
  subst hP hw hK
  obtain ⟨f0,f1,f2,f3,f4,f5⟩:=hf it (by simp)
  exact wpAny_pyNext_range_end (I.ok.hd hc) st (by have:n≤i:=hg;omega) fun h' eb=>⟨rfl,I.turned (t':=s.toks) (fun b o hb e=>eb b o hb e) f0 f1 f3 f4 f5⟩
 self:=fun _ _ _ _ _ st h=>wpAny_pyIter_rangeiter st h
end L2
namespace L2
open PySem PySem.Spec PyProof.Rows
section
variable {X:Cx} {tg:Expr}
def Vk (K:PySem.W.Frag) (tl:TE):TI:=fun σ H R=>tl σ H fun x H1=>∃ a,x = .ref a∧(∃ xs,SqL K H1 a xs)∧R (Itl K a) H1
def iTup (K:PySem.W.Frag) (tl:TE):TI:=fun σ H R=>tl σ H fun x H1=>∃ a,x = .ref a∧(∃ xs,SqT K H1 a xs)∧R (Itt K a) H1
theorem XV {l:Expr} {tl:TE} (hl:PE X l tl):PI X tg l (Vk X.K tl):=by
 intro pins s σ H R I h
 refine thn (hl pins s σ H _ I h) fun v s1 ⟨x,H1,I1,r1,q1⟩=>?_
 obtain ⟨a,e,⟨xs,hq⟩,q⟩:=q1
 subst e
 cases r1
 obtain ⟨its,rv,p,hz⟩:=I1.list hq
 refine wpAny_pyIter_list p.isList ?_
 refine ⟨s1.heap.objs.size,[s1.heap.objs.size],_,_,H1,rfl,I1.kept (t':=s1.toks) fun b o e=>Heap.get?_push_of_some _ e,Ybk a _,⟨_,Heap.get?_push_size _ rfl,rfl,rfl⟩,fun b hb=>?_,q⟩
 have e:b=s1.heap.objs.size:=by simpa using hb
 subst e
 exact I1.fpOk (Nat.le_refl _) (I1.hok.fresh (Nat.le_refl _))
theorem Yd6 {l:Expr} {tl:TE} (hl:PE X l tl):PI X tg l (iTup X.K tl):=by
 intro pins s σ H R I h
 refine thn (hl pins s σ H _ I h) fun v s1 ⟨x,H1,I1,r1,q1⟩=>?_
 obtain ⟨a,e,⟨xs,hq⟩,q⟩:=q1
 subst e
 cases r1
 obtain ⟨its,rv,p,hz⟩:=I1.tuple hq
 refine wpAny_pyIter_tuple (show s1.heap.IsTuple a its.toArray from p) ?_
 refine ⟨s1.heap.objs.size,[s1.heap.objs.size],_,_,H1,rfl,I1.kept (t':=s1.toks) fun b o e=>Heap.get?_push_of_some _ e,Yau a _,⟨_,Heap.get?_push_size _ rfl,rfl,rfl⟩,fun b hb=>?_,q⟩
 have e:b=s1.heap.objs.size:=by simpa using hb
 subst e
 exact I1.fpOk (Nat.le_refl _) (I1.hok.fresh (Nat.le_refl _))
theorem Ycd {pins:List (Addr×Obj)} {σ:St} {H:Hp} {s:Shared} {R:It→Hp→Prop} {E:Value→Shared→Prop} {lo hi:Int} {t u v:Tok} {tk:Nat} (I:Inv X pins σ H s) (h1 : -(2^62)≤lo) (h2:lo<2^62) (h3 : -(2^62)≤hi) (h4:hi<2^62)
  (q:R (Itr lo (hi - lo).toNat) H):wpAny (model X.prog X.w) X.A (pyIter (.ref s.heap.objs.size)) (PIE X pins σ tg R) E { s with heap:=s.heap.push { cls := .type "range",data := .fields #[.int lo t,.int hi u,.int 1 v] },toks:=tk }:=by
 refine wpAny_pyIter_range (IsRange.new ..) (small_one h1 h2 h3 h4) ?_
 have I1:Inv X pins σ H { s with heap:=s.heap.push { cls := .type "range",data := .fields #[.int lo t,.int hi u,.int 1 v] },toks:=tk }:=I.kept fun b o e=>Heap.get?_push_of_some _ e
 refine ⟨(s.heap.push { cls := .type "range",data := .fields #[.int lo t,.int hi u,.int 1 v] }).objs.size,[(s.heap.push { cls := .type "range",data := .fields #[.int lo t,.int hi u,.int 1 v] }).objs.size],_,_,H,rfl,
  I1.kept (t':=tk) fun b o e=>Heap.get?_push_of_some _ e,Yav _ lo (hi - lo).toNat,?_,fun b hb=>?_,q⟩
 ·have e1:lo+((0:Nat):Int)*1=lo:=by simp
  have e2:(((hi - lo).toNat:Nat):Int) - ((0:Nat):Int)=Builtin.Range.rangeSize lo hi 1:=by rw [rangeSize_one];split<;>omega
  show IsRangeIter _ _ (lo+((0:Nat):Int)*1) ((((hi - lo).toNat:Nat):Int) - ((0:Nat):Int)) 1
  rw [e1,e2]
  exact Heap.get?_push_size _ rfl
 ·have e:b=(s.heap.push { cls := .type "range",data := .fields #[.int lo t,.int hi u,.int 1 v] }).objs.size:=by simpa using hb
  subst e
  exact I1.fpOk (Nat.le_refl _) (I1.hok.fresh (Nat.le_refl _))
def VG (ta:TA):TI:=fun σ H R=>ta σ H fun vs H1=>∃ j:Int,vs=[.int j] ∧ -(2^62)≤j∧j<2^62∧R (Itr 0 j.toNat) H1
theorem Xc {a:Expr} {ta:TA} {p pos:Pos} (hg:Gl X "range") (hm:X.mg "range"=none) (ha:PA X [a] ta) (hs:starEach [a] X.env=[(false,eval a X.env)]):PI X tg (.Call (.Name "range" p) [a] [] pos) (VG ta):=by
 intro pins s σ H R I h
 refine Call_ (XN I hg hm boot_range (PyProof.Rows.callWith_type1 (thn (ha pos pins s σ H _ I h) fun us s1 ⟨vs,H1,I1,r1,q1⟩=>?_) hs rfl))
 obtain ⟨j,e,q1,q2,q⟩:=q1
 subst e
 cases r1 with
 | cons r rr =>
  cases rr
  obtain ⟨t,rfl⟩:=r
  exact call_range_1 (Ycd I1 (by omega) (by omega) q1 q2 (by simpa using q))
def V8 (wi:TI) (g:TG) (tb:TS):TS:=fun D σ H=>wi σ H fun J H1=>∃ W:Nat→Nat→St→Hp→Prop,(∃ m,W 0 m σ H1)∧∀ i m σ H,W i m σ H →
 (J.stop i H∧D.nx σ H)∨(J.go i H∧∃ N:St→Hp→Prop,(∀ σ' H',N σ' H'→∃ m',m'<m∧W (i+1) m' σ' H')∧∀ x H',J.yld i H x H'→g x σ H' fun σ2 H2=>tb { D with nx:=N,ct:=N,bk:=D.nx } σ2 H2)
def W6 (fp:List Addr) (h:Heap):List (Addr×Obj):=fp.filterMap fun b=>(h.get? b).map fun o=>(b,o)
theorem XO {fp:List Addr} {h:Heap} {b:Addr} {o:Obj} (hb:b∈fp) (e:h.get? b=some o):(b,o)∈W6 fp h:=List.mem_filterMap.mpr ⟨b,hb,by rw [e];rfl⟩
theorem Ybl {fp:List Addr} {h:Heap} {p:Addr×Obj} (hp:p∈W6 fp h):p.1∈fp∧h.get? p.1=some p.2:=by
 obtain ⟨b,hb,e⟩:=List.mem_filterMap.mp hp
 cases q:h.get? b with
 | none=>rw [q] at e;cases e
 | some o =>
  rw [q] at e
  have e':(b,o)=p:=Option.some.inj e
  subst e'
  exact ⟨hb,q⟩
theorem Inv.pinned {pins:List (Addr×Obj)} {σ:St} {H:Hp} {s:Shared} {fp:List Addr} (I:Inv X pins σ H s) (hf:∀ b∈fp,XU X pins H b) (ho:∀ b∈fp,∃ o,s.heap.get? b=some o∧∀ v,o.data ≠ .cell v):Inv X (pins++W6 fp s.heap) σ H s :=
 I.pins_of fun p hp=>(List.mem_append.mp hp).elim (fun z=>I.pin p (List.mem_append_right _ z)) fun z=>by
  obtain ⟨hb,e⟩:=Ybl z
  obtain ⟨f0,f1,f2,_⟩:=hf p.1 hb
  obtain ⟨o,e',d⟩:=ho p.1 hb
  rw [e] at e';cases e'
  exact ⟨e,f0,f1,f2,d⟩
theorem Inv.unpinned {pins pl:List (Addr×Obj)} {σ:St} {H:Hp} {s:Shared} (I:Inv X (pins++pl) σ H s):Inv X pins σ H s:=I.pins_of fun p hp=>I.pin p (List.mem_append_right _ (List.mem_append_left _ hp))
theorem Xz {iter:Expr} {body:List Stmt} {wi:TI} {g:TG} {tb:TS} {pos:Pos} (hp:PassesOwn (model X.prog X.w) X.A X.env X.xe) (hc:X.calm=true) (hi:PI X tg iter wi) (hg:PG X tg g) (hb:PSs X body tb)
  (hs:∀ x,foldedSetIterable iter X.env x=pure x):PS X (.For tg iter body [] pos) (V8 wi g tb):=by
 intro pins s σ H D I h
 refine wpAny_For (thn (hi pins s σ H _ I h) fun v s1 h1=>thn h1 fun itv s2 h2=>?_) hs
 obtain ⟨it,fp,tn,J,H2,e,I2,T,st2,f2,W,⟨m0,w0⟩,turn⟩:=h2
 subst e
 -- what stays true of the iterator's objects through the loop
 have stat:∀ {H':Hp},(∀ b∈fp,H' b=none)→∀ b∈fp,XU X pins H' b:=fun hn b hb=>⟨hn b hb,(f2 b hb).2⟩
 refine codeAny_forLoop_any (fun n s'=>∃ i σ' H',Inv X pins σ' H' s'∧tn i s'.heap∧(∀ b∈fp,H' b=none)∧W i n σ' H') ?_ m0 ⟨0,σ,H2,I2,st2,fun b hb=>(f2 b hb).1,w0⟩
 rintro n s3 ⟨i,σ3,H3,I3,st3,fr3,w3⟩
 rcases turn i n σ3 H3 w3 with ⟨stop,qn⟩ | ⟨go,N,hN,step⟩
 ·refine wpAny_passesOwn hp (thn (T.done X rfl rfl rfl hc i pins s3 σ3 H3 X.xe I3 (stat fr3) st3 stop) fun r s4 ⟨hr,I4⟩=>?_)
  subst hr
  exact wpAny_execs_nil ⟨σ3,H3,I4,qn⟩
 ·refine wpAny_passesOwn hp (thn (T.item X rfl rfl rfl hc i pins s3 σ3 H3 X.xe I3 (stat fr3) st3 go) fun r s4 ⟨u,hr,h4⟩=>?_)
  subst hr
  refine wpAny_passesOwn hp (thn h4 fun _ s5 ⟨x,H5,I5,r5,y5,st5,fr5⟩=>?_)
  have I5':=I5.pinned (stat fr5) (T.obj _ _ st5)
  refine wpAny_passesOwn hp (thn (hg _ s5 σ3 H5 x u _ I5' r5 (step x H5 y5)) fun _ s6 ⟨σ6,H6,I6,q6⟩=>?_)
  refine wpAny_passesOwn hp (thn (hb _ s6 σ6 H6 _ I6 q6) fun f s7 q7=>?_)
  have again:∀ {σ7:St} {H7:Hp},Inv X (pins++W6 fp s5.heap) σ7 H7 s7→N σ7 H7→∃ m,m<n∧∃ i σ' H',Inv X pins σ' H' s7∧tn i s7.heap∧(∀ b∈fp,H' b=none)∧W i m σ' H':=fun {σ7 H7} I7 n7=>by
   obtain ⟨m',hm,w7⟩:=hN σ7 H7 n7
   refine ⟨m',hm,i+1,σ7,H7,I7.unpinned,T.keep _ _ _ st5 fun b hb o e=>(I7.pin (b,o) (List.mem_append_right _ (List.mem_append_right _ (XO hb e)))).1,fun b hb=>?_,w7⟩
   obtain ⟨o,e,d⟩:=T.obj _ _ st5 b hb
   exact (I7.pin (b,o) (List.mem_append_right _ (List.mem_append_right _ (XO hb e)))).2.1
  cases f with
  | next=>obtain ⟨σ7,H7,I7,n7⟩:=q7;exact again I7 n7
  | cont=>obtain ⟨σ7,H7,I7,n7⟩:=q7;exact again I7 n7
  | brk=>obtain ⟨σ7,H7,I7,q7⟩:=q7;exact ⟨σ7,H7,I7.unpinned,q7⟩
  | ret v=>obtain ⟨x7,σ7,H7,I7,r7,q7⟩:=q7;exact ⟨x7,σ7,H7,I7.unpinned,r7,q7⟩
end
theorem Yce {K:PySem.W.Frag} {a:Addr} {xs:List V} {g:TG} {tb:TS} {D:Ends} {σ:St} {H:Hp} (Pv:Nat→St→Hp→Prop) (h0:Pv 0 σ H) (hl:∀ i σ H,i≤xs.length→Pv i σ H→SqL K H a xs)
  (hs:∀ i x σ H,xs[i]?=some x→Pv i σ H→g x σ H fun σ2 H2=>tb { D with nx:=Pv (i+1),ct:=Pv (i+1),bk:=D.nx } σ2 H2) (hd:∀ σ H,Pv xs.length σ H→D.nx σ H) :
  ∃ W:Nat→Nat→St→Hp→Prop,(∃ m,W 0 m σ H)∧∀ i m σ H,W i m σ H →
   ((Itl K a).stop i H∧D.nx σ H)∨((Itl K a).go i H∧∃ N:St→Hp→Prop,(∀ σ' H',N σ' H'→∃ m',m'<m∧W (i+1) m' σ' H')∧∀ x H',(Itl K a).yld i H x H'→g x σ H' fun σ2 H2=>tb { D with nx:=N,ct:=N,bk:=D.nx } σ2 H2):=by
 refine ⟨fun i m σ H=>m=xs.length - i∧i≤xs.length∧Pv i σ H,⟨xs.length,by simp,Nat.zero_le _,h0⟩,?_⟩
 rintro i m σ H ⟨rfl,hi,p⟩
 have q:=hl i σ H hi p
 by_cases hlt:i<xs.length
 ·refine .inr ⟨⟨xs,xs[i],q,by simp [hlt]⟩,Pv (i+1),fun σ' H' p'=>⟨xs.length - (i+1),by omega,rfl,hlt,p'⟩,fun x H' y=>?_⟩
  obtain ⟨e,y⟩:=y
  subst e
  exact hs i x σ _ (y xs q) p
 ·have e:i=xs.length:=by omega
  subst e
  exact .inl ⟨⟨xs,q,Nat.le_refl _⟩,hd σ H p⟩
theorem Ybm {lo:Int} {n:Nat} {g:TG} {tb:TS} {D:Ends} {σ:St} {H:Hp} (Pv:Nat→St→Hp→Prop) (h0:Pv 0 σ H)
  (hs:∀ i σ H,i<n→Pv i σ H→g (.int (lo+i)) σ H fun σ2 H2=>tb { D with nx:=Pv (i+1),ct:=Pv (i+1),bk:=D.nx } σ2 H2) (hd:∀ σ H,Pv n σ H→D.nx σ H) :
  ∃ W:Nat→Nat→St→Hp→Prop,(∃ m,W 0 m σ H)∧∀ i m σ H,W i m σ H →
   ((Itr lo n).stop i H∧D.nx σ H)∨((Itr lo n).go i H∧∃ N:St→Hp→Prop,(∀ σ' H',N σ' H'→∃ m',m'<m∧W (i+1) m' σ' H')∧∀ x H',(Itr lo n).yld i H x H'→g x σ H' fun σ2 H2=>tb { D with nx:=N,ct:=N,bk:=D.nx } σ2 H2):=by
 refine ⟨fun i m σ H=>m=n - i∧i≤n∧Pv i σ H,⟨n,by simp,Nat.zero_le _,h0⟩,?_⟩
 rintro i m σ H ⟨rfl,hi,p⟩
 by_cases hlt:i<n
 ·refine .inr ⟨hlt,Pv (i+1),fun σ' H' p'=>⟨n - (i+1),by omega,rfl,hlt,p'⟩,fun x H' y=>?_⟩
  obtain ⟨e,y⟩:=y
  subst e y
  exact hs i σ _ hlt p
 ·have e:i=n:=by omega
  subst e
  exact .inl ⟨Nat.le_refl _,hd σ H p⟩
end L2
namespace L2
open PySem PySem.Spec PyProof.Rows
abbrev R2:=V→V→Hp→VK→Prop
def OpR (X:Cx) (f:Value→Value→Sem Value) (r:R2):Prop :=
 ∀ (pins:List (Addr×Obj)) (s:Shared) (σ:St) (H:Hp) (x y:V) (v u:Value) (Q:VK),Inv X pins σ H s→Ys x v→Ys y u→r x y H Q →
  wpAny (model X.prog X.w) X.A (f v u) (EP X pins σ Q) X.xe s
def UnR (X:Cx) (f:Value→Sem Value) (r:V→Hp→VK→Prop):Prop :=
 ∀ (pins:List (Addr×Obj)) (s:Shared) (σ:St) (H:Hp) (x:V) (v:Value) (Q:VK),Inv X pins σ H s→Ys x v→r x H Q →
  wpAny (model X.prog X.w) X.A (f v) (EP X pins σ Q) X.xe s
def Xv (X:Cx) (f:Value) (r:List V→Hp→VK→Prop):Prop :=
 ∀ (pins:List (Addr×Obj)) (s:Shared) (σ:St) (H:Hp) (xs:List V) (us:List Value) (Q:VK),Inv X pins σ H s→Ym xs us→r xs H Q →
  wpAny (model X.prog X.w) X.A (call f us) (EP X pins σ Q) X.xe s
def tOp (r:R2) (ta tb:TE):TE:=fun σ H Q=>ta σ H fun x H1=>tb σ H1 fun y H2=>r x y H2 Q
def tUn (r:V→Hp→VK→Prop) (ta:TE):TE:=fun σ H Q=>ta σ H fun x H1=>r x H1 Q
def rI (C:Int→Int→Prop) (g:Int→Int→V):R2:=fun x y H Q=>∃ i j,x = .int i∧y = .int j∧C i j∧Q (g i j) H
def rI0 (g:Int→Int→V):R2:=fun x y H Q=>∃ i j,x = .int i∧y = .int j∧Q (g i j) H
def rU (g:Int→V):V→Hp→VK→Prop:=fun x H Q=>∃ i,x = .int i∧Q (g i) H
section
variable {X:Cx} {a b c:Expr} {ta tb tc:TE} {pos:Pos}
theorem binT (ha:PE X a ta) (hb:PE X b tb) {pins:List (Addr×Obj)} {s:Shared} {σ:St} {H:Hp} {R:V→V→Hp→Prop} (I:Inv X pins σ H s)
  (h:ta σ H fun x H1=>tb σ H1 fun y H2=>R x y H2) {Q:Value→Shared→Prop} {f:Value→Value→Sem Value}
  (hf:∀ v u s2 x y H2,Inv X pins σ H2 s2→Ys x v→Ys y u→R x y H2→wpAny (model X.prog X.w) X.A (f v u) Q X.xe s2) :
  wpAny (model X.prog X.w) X.A (eval a X.env) (fun v s₁=>wpAny (model X.prog X.w) X.A (eval b X.env) (fun u s₂=>wpAny (model X.prog X.w) X.A (f v u) Q X.xe s₂) X.xe s₁) X.xe s:=by
 refine thn (ha pins s σ H _ I h) fun v s1 ⟨x,H1,I1,r1,q1⟩=>?_
 refine thn (hb pins s1 σ H1 _ I1 q1) fun u s2 ⟨y,H2,I2,r2,q2⟩=>?_
 exact hf v u s2 x y H2 I2 r1 r2 q2
theorem Yn {op:Operator} {r:R2} (ho:OpR X (binaryOp op) r) (ha:PE X a ta) (hb:PE X b tb):PE X (.BinOp a op b pos) (tOp r ta tb):=by
 intro pins s σ H Q I h
 exact wpAny_BinOp (binT ha hb I h fun v u s2 x y H2 I2 rx ry q=>ho pins s2 σ H2 x y v u Q I2 rx ry q)
theorem VH {op:UnaryOp} {r:V→Hp→VK→Prop} (ho:UnR X (unaryOp op) r) (ha:PE X a ta):PE X (.UnaryOp op a pos) (tUn r ta):=by
 intro pins s σ H Q I h
 exact UnaryOp_ (thn (ha pins s σ H _ I h) fun v s1 ⟨x,H1,I1,r1,q1⟩=>ho pins s1 σ H1 x v Q I1 r1 q1)
theorem opI {f:Value→Value→Sem Value} {C:Int→Int→Prop} {g:Int→Int→Int}
  (rule:∀ (i j:Int) (t u:Tok) (s:Shared) (Q:Value→Shared→Prop) (E:Value→Shared→Prop),C i j→Q (.int (g i j) s.toks) { s with toks:=s.toks+1 }→wpAny (model X.prog X.w) X.A (f (.int i t) (.int j u)) Q E s) :
  OpR X f (rI C fun i j => .int (g i j)):=by
 intro pins s σ H x y v u Q I rx ry h
 obtain ⟨i,j,rfl,rfl,hc,q⟩:=h
 obtain ⟨t,rfl⟩:=rx
 obtain ⟨t',rfl⟩:=ry
 exact rule i j t t' s _ _ hc ⟨.int (g i j),H,I.tok _,⟨_,rfl⟩,q⟩
theorem opI0 {f:Value→Value→Sem Value} {g:Int→Int→Int}
  (rule:∀ (i j:Int) (t u:Tok) (s:Shared) (Q:Value→Shared→Prop) (E:Value→Shared→Prop),Q (.int (g i j) s.toks) { s with toks:=s.toks+1 }→wpAny (model X.prog X.w) X.A (f (.int i t) (.int j u)) Q E s) :
  OpR X f (rI0 fun i j => .int (g i j)):=by
 intro pins s σ H x y v u Q I rx ry h
 obtain ⟨i,j,rfl,rfl,q⟩:=h
 obtain ⟨t,rfl⟩:=rx
 obtain ⟨t',rfl⟩:=ry
 exact rule i j t t' s _ _ ⟨.int (g i j),H,I.tok _,⟨_,rfl⟩,q⟩
theorem Yaw {f:Value→Value→Sem Value} {g:Int→Int→Bool}
  (rule:∀ (i j:Int) (t u:Tok) (s:Shared) (Q:Value→Shared→Prop) (E:Value→Shared→Prop),Q (.bool (g i j)) s→wpAny (model X.prog X.w) X.A (f (.int i t) (.int j u)) Q E s) :
  OpR X f (rI0 fun i j => .bl (g i j)):=by
 intro pins s σ H x y v u Q I rx ry h
 obtain ⟨i,j,rfl,rfl,q⟩:=h
 obtain ⟨t,rfl⟩:=rx
 obtain ⟨t',rfl⟩:=ry
 exact rule i j t t' s _ _ ⟨.bl (g i j),H,I,rfl,q⟩
def CPow (i j:Int):Prop:=0≤j∧j≤1000000∧i.natAbs<2^64
def CMul (i j:Int):Prop:=(-(2^64)<i∧i<2^64)∨(-(2^64)<j∧j<2^64)
theorem CMul.ok {i j:Int} (h:CMul i j):IntMulOk i j:=by
 rcases h with ⟨h1,h2⟩ | ⟨h1,h2⟩
 ·exact .of_left (intBits_le_64 h1 h2)
 ·exact .of_right (intBits_le_64 h1 h2)
theorem Yax (k:Nat):(0:Int)≤2^k:=by
 rw [two_pow_cast]
 exact Int.natCast_nonneg _
theorem Y1:OpR X (binaryOp .Add) (rI0 fun i j => .int (i+j)):=opI0 fun _ _ _ _ _ _ _ q=>add_int q
theorem XA:OpR X (binaryOp .Sub) (rI0 fun i j => .int (i - j)):=opI0 fun _ _ _ _ _ _ _ q=>sub_int q
theorem Y9:OpR X (binaryOp .Mod) (rI (fun _ j=>0<j) fun i j => .int (i%j)):=opI fun i j _ _ _ _ _ hc q=>by
 have h1:(0:Int)<j:=hc
 exact mod_int' (by omega) (by rw [Int.fmod_eq_emod_of_nonneg i (by omega)];exact q)
theorem U2:OpR X (binaryOp .Pow) (rI CPow fun i j => .int (i^j.toNat)):=opI fun _ _ _ _ _ _ _ hc q=>pow_int_small hc.1 hc.2.1 hc.2.2 q
theorem Ybn:OpR X (binaryOp .LShift) (rI CPow fun i j => .int (i*2^j.toNat)):=opI fun _ _ _ _ _ _ _ hc q=>lshift_int_small hc.1 hc.2.1 hc.2.2 q
theorem Yd7:OpR X (binaryOp .RShift) (rI (fun _ j=>0≤j) fun i j => .int (i / 2^j.toNat)):=opI fun i j _ _ _ _ _ hc q =>
 rshift_int hc (by rw [Int.fdiv_eq_ediv_of_nonneg i (Yax _)];exact q)
theorem unI {f:Value→Sem Value} {g:Int→Int}
  (rule:∀ (i:Int) (t:Tok) (s:Shared) (Q:Value→Shared→Prop) (E:Value→Shared→Prop),Q (.int (g i) s.toks) { s with toks:=s.toks+1 }→wpAny (model X.prog X.w) X.A (f (.int i t)) Q E s) :
  UnR X f (rU fun i => .int (g i)):=by
 intro pins s σ H x v Q I rx h
 obtain ⟨i,rfl,q⟩:=h
 obtain ⟨t,rfl⟩:=rx
 exact rule i t s _ _ ⟨.int (g i),H,I.tok _,⟨_,rfl⟩,q⟩
theorem W7:UnR X (unaryOp .USub) (rU fun i => .int (-i)):=unI fun _ _ _ _ _ q=>neg_int q
end
def Yay:V→V→Bool
 | .non,.non=>true | .non,.int _=>true | .int _,.non=>true | .non,.bl _=>true | .bl _,.non=>true | .non,.str _=>true | .str _,.non=>true
 | .int _,.int _=>true | .bl _,.bl _=>true | .str _,.str _=>true | .byt _,.byt _=>true
 | .int _,.str _=>true | .str _,.int _=>true | .bl _,.str _=>true | .str _,.bl _=>true
 | _,_=>false
def rEq:R2:=fun x y H Q=>Yay x y=true∧Q (.bl (decide (x=y))) H
def rNe:R2:=fun x y H Q=>Yay x y=true∧Q (.bl (!decide (x=y))) H
theorem QZ {i j:Int}:decide (V.int i=V.int j)=(i==j):=by
 rw [Bool.eq_iff_iff]
 simp
theorem Ybo {i j:Bool}:decide (V.bl i=V.bl j)=(i==j):=by
 rw [Bool.eq_iff_iff]
 simp
theorem Q0 {i j:Str}:decide (V.str i=V.str j)=(i==j):=by
 rw [Bool.eq_iff_iff]
 simp
theorem Q1 {i j:Array UInt8}:decide (V.byt i=V.byt j)=(i.toList==j.toList):=by
 rw [Bool.eq_iff_iff]
 cases i
 cases j
 simp
section
variable {X:Cx} {a b c:Expr} {ta tb tc:TE} {pos:Pos}
theorem YB {pins:List (Addr×Obj)} {σ:St} {H:Hp} {s:Shared} {Q:VK} {k k':Bool} (I:Inv X pins σ H s) (q:Q (.bl k) H) (e:k=k'):EP X pins σ Q (.bool k') s:=by
 subst e
 exact ⟨.bl k,H,I,rfl,q⟩
theorem Xd:OpR X (compareOp .Eq) rEq:=by
 intro pins s σ H x y v u Q I rx ry h
 obtain ⟨hs,q⟩:=h
 cases x with
 | non =>
  cases rx
  cases y with
  | non=>cases ry;exact PySem.EqNone.eq_none_none (YB I q (by simp))
  | bl j=>cases ry;exact PySem.EqNone.eq_none_bool (YB I q (by simp))
  | int j=>obtain ⟨t',rfl⟩:=ry;exact PySem.EqNone.eq_none_int (YB I q (by simp))
  | str j=>obtain ⟨t',rfl⟩:=ry;exact PySem.EqNone.eq_none_str (YB I q (by simp))
  | _=>exact absurd (show false=true from hs) Bool.false_ne_true
 | bl i =>
  cases rx
  cases y with
  | non=>cases ry;exact PySem.EqNone.eq_bool_none (YB I q (by simp))
  | bl j=>cases ry;exact eq_bool (YB I q Ybo)
  | str j=>obtain ⟨t',rfl⟩:=ry;exact PySem.EqMixed.eq_bool_str (YB I q (by simp))
  | _=>exact absurd (show false=true from hs) Bool.false_ne_true
 | int i =>
  obtain ⟨t,rfl⟩:=rx
  cases y with
  | non=>cases ry;exact PySem.EqNone.eq_int_none (YB I q (by simp))
  | int j=>obtain ⟨t',rfl⟩:=ry;exact eq_int (YB I q QZ)
  | str j=>obtain ⟨t',rfl⟩:=ry;exact PySem.EqMixed.eq_int_str (YB I q (by simp))
  | _=>exact absurd (show false=true from hs) Bool.false_ne_true
 | str i =>
  obtain ⟨t,rfl⟩:=rx
  cases y with
  | non=>cases ry;exact PySem.EqNone.eq_str_none (YB I q (by simp))
  | bl j=>cases ry;exact PySem.EqMixed.eq_str_bool (YB I q (by simp))
  | int j=>obtain ⟨t',rfl⟩:=ry;exact PySem.EqMixed.eq_str_int (YB I q (by simp))
  | str j=>obtain ⟨t',rfl⟩:=ry;exact eq_str (YB I q Q0)
  | _=>exact absurd (show false=true from hs) Bool.false_ne_true
 | byt i =>
  obtain ⟨t,rfl⟩:=rx
  cases y with
  | byt j=>obtain ⟨t',rfl⟩:=ry;exact PySem.W.eq_bytes (YB I q Q1)
  | _=>exact absurd (show false=true from hs) Bool.false_ne_true
 | _=>cases y<;>exact absurd (show false=true from hs) Bool.false_ne_true
theorem op_ne:OpR X (compareOp .NotEq) rNe:=by
 intro pins s σ H x y v u Q I rx ry h
 obtain ⟨hs,q⟩:=h
 cases x with
 | non =>
  cases rx
  cases y with
  | non=>cases ry;exact PySem.EqNone.ne_none_none (YB I q (by simp))
  | bl j=>cases ry;exact PySem.EqNone.ne_none_bool (YB I q (by simp))
  | int j=>obtain ⟨t',rfl⟩:=ry;exact PySem.EqNone.ne_none_int (YB I q (by simp))
  | str j=>obtain ⟨t',rfl⟩:=ry;exact PySem.EqNone.ne_none_str (YB I q (by simp))
  | _=>exact absurd (show false=true from hs) Bool.false_ne_true
 | bl i =>
  cases rx
  cases y with
  | non=>cases ry;exact PySem.EqNone.ne_bool_none (YB I q (by simp))
  | bl j=>cases ry;exact ne_bool (YB I q (congrArg not Ybo))
  | str j=>obtain ⟨t',rfl⟩:=ry;exact PySem.EqMixed.ne_bool_str (YB I q (by simp))
  | _=>exact absurd (show false=true from hs) Bool.false_ne_true
 | int i =>
  obtain ⟨t,rfl⟩:=rx
  cases y with
  | non=>cases ry;exact PySem.EqNone.ne_int_none (YB I q (by simp))
  | int j=>obtain ⟨t',rfl⟩:=ry;exact ne_int (YB I q (congrArg not QZ))
  | str j=>obtain ⟨t',rfl⟩:=ry;exact PySem.EqMixed.ne_int_str (YB I q (by simp))
  | _=>exact absurd (show false=true from hs) Bool.false_ne_true
 | str i =>
  obtain ⟨t,rfl⟩:=rx
  cases y with
  | non=>cases ry;exact PySem.EqNone.ne_str_none (YB I q (by simp))
  | bl j=>cases ry;exact PySem.EqMixed.ne_str_bool (YB I q (by simp))
  | int j=>obtain ⟨t',rfl⟩:=ry;exact PySem.EqMixed.ne_str_int (YB I q (by simp))
  | str j=>obtain ⟨t',rfl⟩:=ry;exact ne_str (YB I q (congrArg not Q0))
  | _=>exact absurd (show false=true from hs) Bool.false_ne_true
 | byt i =>
  obtain ⟨t,rfl⟩:=rx
  cases y with
  | byt j=>obtain ⟨t',rfl⟩:=ry;exact PySem.W.ne_bytes (YB I q (congrArg not Q1))
  | _=>exact absurd (show false=true from hs) Bool.false_ne_true
 | _=>cases y<;>exact absurd (show false=true from hs) Bool.false_ne_true
theorem op_lt:OpR X (compareOp .Lt) (rI0 fun i j => .bl (decide (i<j))):=Yaw fun _ _ _ _ _ _ _ q=>lt_int q
theorem VI:OpR X (compareOp .LtE) (rI0 fun i j => .bl (decide (i≤j))):=Yaw fun _ _ _ _ _ _ _ q=>le_int q
theorem UN:OpR X (compareOp .Gt) (rI0 fun i j => .bl (decide (j<i))):=Yaw fun _ _ _ _ _ _ _ q=>gt_int q
theorem op_ge:OpR X (compareOp .GtE) (rI0 fun i j => .bl (decide (j≤i))):=Yaw fun _ _ _ _ _ _ _ q=>ge_int q
theorem Ybp:OpR X (compareOp .Is) (fun x y H Q=>y = .non∧Q (.bl (decide (x = .non))) H):=by
 intro pins s σ H x y v u Q I rx ry h
 obtain ⟨rfl,q⟩:=h
 cases ry
 refine is_none_gen (YB I q ?_)
 cases x<;>first
  | (cases rx;rfl)
  | (obtain ⟨t,rfl⟩:=rx;rfl)
theorem Ydk:OpR X (compareOp .IsNot) (fun x y H Q=>y = .non∧Q (.bl (!decide (x = .non))) H):=by
 intro pins s σ H x y v u Q I rx ry h
 obtain ⟨rfl,q⟩:=h
 cases ry
 refine isnot_none_gen (YB I q ?_)
 cases x<;>first
  | (cases rx;rfl)
  | (obtain ⟨t,rfl⟩:=rx;rfl)
theorem Yv (b:Expr) {op:CmpOp} (h:op ≠ .In:=by decide) (h2:op ≠ .NotIn:=by decide):behindInMarks op b=false:=by
 have e1:(op==CmpOp.In)=false:=by cases op<;>first | rfl | exact absurd rfl h
 have e2:(op==CmpOp.NotIn)=false:=by cases op<;>first | rfl | exact absurd rfl h2
 cases b<;>simp [behindInMarks,e1,e2]
theorem Vl {op:CmpOp} {r:R2} (ho:OpR X (compareOp op) r) (ha:PE X a ta) (hb:PE X b tb) (hm:behindInMarks op b=false):PE X (.Compare a [op] [b] pos) (tOp r ta tb):=by
 intro pins s σ H Q I h
 exact wpAny_Compare1 (binT ha hb I h fun v u s2 x y H2 I2 rx ry q=>ho pins s2 σ H2 x y v u Q I2 rx ry q) hm
def Yc2 (t:TE):TT:=fun σ H Q=>t σ H fun x H'=>∃ k,x = .bl k∧Q k H'
theorem Yr {op:CmpOp} {r:R2} (ho:OpR X (compareOp op) r) (ha:PE X a ta) (hb:PE X b tb) (hm:behindInMarks op b=false):PT X (.Compare a [op] [b] pos) (Yc2 (tOp r ta tb)):=by
 intro pins s σ H Q I h
 refine wpAny_isTrue_Compare1 (thn (ha pins s σ H _ I h) fun v s1 ⟨x,H1,I1,r1,q1⟩=>thn (hb pins s1 σ H1 _ I1 q1) fun u s2 ⟨y,H2,I2,r2,q2⟩ =>
  thn (ho pins s2 σ H2 x y v u _ I2 r1 r2 q2) fun c s3 ⟨z,H3,I3,r3,k,e,q3⟩=>?_) hm
 subst e
 cases r3
 exact wpAny_truthy_bool ⟨H3,I3,q3⟩
def Yd8 (r r':R2) (ta tb tc:TE):TE:=fun σ H Q=>ta σ H fun x H1=>tb σ H1 fun y H2=>r x y H2 fun z H3=>∃ k,z = .bl k ∧
 (if k=true then tc σ H3 fun w' H4=>r' y w' H4 Q else Q (.bl false) H3)
theorem W8:(sizeLine:Nat)<2^63:=by rw [sizeLine_eq];decide
theorem Wb {x:V} {us:List Value} (r:Ym [x] us):∃ u,us=[u]∧Ys x u:=by
 cases r with
 | cons r1 r2=>cases r2;exact ⟨_,rfl,r1⟩
theorem VJ {x y:V} {us:List Value} (r:Ym [x,y] us):∃ u w',us=[u,w']∧Ys x u∧Ys y w':=by
 cases r with
 | cons r1 r2 =>
  cases r2 with
  | cons r3 r4=>cases r4;exact ⟨_,_,rfl,r1,r3⟩
theorem Ybq (hc:X.calm=true):Xv X (.builtin "max") (fun xs H Q=>∃ i j,xs=[.int i,.int j]∧Q (.int (if j>i then j else i)) H):=by
 intro pins s σ H xs us Q I r h
 obtain ⟨i,j,rfl,q⟩:=h
 obtain ⟨u,w',rfl,⟨t,rfl⟩,⟨t',rfl⟩⟩:=VJ r
 refine max_two_ints (I.ok.hd hc) fun h' tk k=>⟨_,H,I.kept k,?_,q⟩
 by_cases hj:j>i
 ·rw [if_pos hj,if_pos hj];exact ⟨_,rfl⟩
 ·rw [if_neg hj,if_neg hj];exact ⟨_,rfl⟩
theorem W9 (hc:X.calm=true):Xv X (.builtin "min") (fun xs H Q=>∃ i j,xs=[.int i,.int j]∧Q (.int (if j<i then j else i)) H):=by
 intro pins s σ H xs us Q I r h
 obtain ⟨i,j,rfl,q⟩:=h
 obtain ⟨u,w',rfl,⟨t,rfl⟩,⟨t',rfl⟩⟩:=VJ r
 refine min_two_ints (I.ok.hd hc) fun h' tk k=>⟨_,H,I.kept k,?_,q⟩
 by_cases hj:j<i
 ·rw [if_pos hj,if_pos hj];exact ⟨_,rfl⟩
 ·rw [if_neg hj,if_neg hj];exact ⟨_,rfl⟩
end
end L2
namespace L2
open PySem PySem.Spec PyProof.Rows
structure ObjM (h:Heap) (x dx C:Addr) (mA:Str→Option Value):Prop where
 obj:h.get? x=some (PySem.W.instObj C dx)
 ns:h.Ns1 dx mA
 ne:dx≠x
theorem Ybr {h:Heap} {dx:Addr} {mA:Str→Option Value} (n:h.Ns1 dx mA):∃ od,h.get? dx=some od∧∀ name,PySem.W.lookIn name od=some (mA name):=by
 obtain ⟨o,es,ep,ho,hd,hk,_,hm⟩:=n
 refine ⟨o,ho,fun name=>?_⟩
 have e:=hm name
 unfold nsFind findBy at e
 rw [← Array.find?_toList] at e
 unfold PySem.W.lookIn
 rw [hd]
 dsimp only
 split
 ·rename_i y q
  rw [q] at e
  exact congrArg some e
 ·rename_i q
  rw [q] at e
  have a:es.toList.any (·.refKey)=false:=by
   rw [List.any_eq_false]
   intro y hy
   obtain ⟨z,t,hkey⟩:=hk y (Array.mem_toList_iff.mp hy)
   simp [DictEntry.refKey,hkey]
  have a':¬ es.toList.any (·.refKey)=true:=by rw [a];exact Bool.false_ne_true
  rw [if_neg a']
  exact congrArg some e
theorem ObjM.look {h:Heap} {x dx C:Addr} {mA:Str→Option Value} (I:ObjM h x dx C mA):∃ od,PySem.W.InstAt h x (PySem.W.instObj C dx) C (some od)∧∀ name,PySem.W.lookIn name od=some (mA name) :=
 let ⟨od,ho,hl⟩:=Ybr I.ns
 ⟨od,⟨I.obj,rfl,rfl,ho⟩,hl⟩
section
variable {prog:Program} {w:World} {A:Around} {E:Value→Shared→Prop} {s:Shared} {K:PySem.W.Frag} {x dx C f:Addr} {mA:Str→Option Value} {name:Str} {v:Value}
theorem Ydl {expr:Bool} {Q:Value→Shared→Prop} (X:K.In s.heap) (I:ObjM s.heap x dx C mA) (hg:PySem.W.plainGet K C name=true) (hh:PySem.W.hasDictIn K C=true)
  (ha:PySem.W.findIn K (.ref C) name=some none) (hv:mA name=some v) (hv':PySem.W.handedIn v=true) (h:Q v { s with toks:=s.toks+1 }) :
  wpAny (model prog w) A (getAttr (.ref x) name expr) Q E s:=by
 obtain ⟨od,J,hl⟩:=I.look
 exact PySem.W.get_value X J (PySem.W.plainGet_of hg).1 (PySem.W.findObj_own hh ha rfl (by rw [hl,hv])) hv' h
theorem Ycf {pl:Sem Bool} {Q:Value×List Value→Shared→Prop} (X:K.In s.heap) (I:ObjM s.heap x dx C mA) (hg:PySem.W.plainGet K C name=true)
  (hf:PySem.W.findIn K (.ref C) name=some (some (.ref f))) (ht:PySem.W.isFn K (.ref f)=true) (hv:mA name=none) (h:Q (.ref f,[.ref x]) s) :
  wpAny (model prog w) A (getMethod (.ref x) name pl) Q E s:=by
 obtain ⟨od,J,hl⟩:=I.look
 exact PySem.W.method_fn X J (PySem.W.plainGet_of hg).1 (PySem.W.plainGet_of hg).2 hf (beq_iff_eq.mp ht) (by show (PySem.W.lookIn name od).map (·.isSome)=some false;rw [hl,hv];rfl) h
theorem Ydm {ns:List Str} {Q:Unit→Shared→Prop} (X:K.In s.heap) (I:ObjM s.heap x dx C mA)
  (hs:PySem.W.findIn K (.ref C) "__setattr__"=some (some (.builtin "object.__setattr__"))) (hp:PySem.W.plainOver K C=true) (ht:PySem.W.takerIn K C name=some none) (hh:PySem.W.hasDictIn K C=true)
  (hw:PySem.Within mA ns) (hsz:ns.length≤sizeLine)
  (h:∀ h',ObjM h' x dx C (fun y=>if y=name then some v else mA y)→Heap.SameBut dx s.heap h'→Q () { s with heap:=h',toks:=s.toks+2 }) :
  wpAny (model prog w) A (setAttr (.ref x) name v) Q E s:=by
 obtain ⟨od,J,hl⟩:=I.look
 refine PySem.W.set_plain X J hs (PySem.W.osa_open (s:={ s with toks:=s.toks+1 }) (r:=none) X J hp ht fun b=>?_)
 obtain ⟨cd,hc,hd'⟩:=PySem.W.any_some hh
 have hx:s.heap.get? x=some ⟨.ref C,some dx,.plain,#[]⟩:=I.obj
 refine wpAny_bind (wpAny_pure (wpAny_bind (wpAny_bind (wpAny_loadPart hx (wpAny_bind (PySem.W.Looks.here (s:={ s with toks:=s.toks+1 }) (PySem.W.looks_clsIn X hc) ?_))))))
 rw [hd']
 refine wpAny_pure (a:=some dx) (wpAny_bind (wpAny_pure (wpAny_bind ?_)))
 refine wpAny_nsSet1 (s:={ s with toks:=s.toks+1 }) I.ns fun h' hn2 hs2=>?_
 obtain ⟨oD,esD,epD,hoD,hdD,hcD⟩:=hn2.count (PySem.Within.cons name v hw)
 refine wpAny_bind (wpAny_lookBehind hoD (by rw [hdD];exact pastItsLine_dict (Nat.le_trans hcD (by rw [List.length_cons];omega))) ?_)
 exact wpAny_pure (h _ ⟨(hs2.2 _ (Ne.symm I.ne)).trans I.obj,hn2,I.ne⟩ hs2)
theorem Ycg {R:Result→Shared→Prop} {vs:List Value} {kw:List (Str×Value)} (X:K.In s.heap) (hm:PySem.W.makesIn K C=true)
  (hi:PySem.W.findIn K (.ref C) "__init__"=some (some (.ref f))) (hf:PySem.W.typeIn K (.ref f)=some (.type "function"))
  (h:codeAny (model prog w) (A.under (.builtin "type.__call__" ⟨.ref C::vs,kw⟩)) (.call (.ref f) ⟨.ref (s.heap.objs.size+1)::vs,kw⟩) (PySem.W.InitBack (s.heap.objs.size+1) R)
   { s with heap:=(s.heap.push PySem.W.emptyDict).push (PySem.W.instObj C s.heap.objs.size) }) :
  codeAny (model prog w) A (.call (.ref C) ⟨vs,kw⟩) R s:=by
 obtain ⟨hh,g,d,t,os⟩:=s
 exact PySem.W.make_core (PySem.W.makes_of X hm) (PySem.W.looks_findIn X hi) (fun self=>PySem.W.bind_fn X self hf) (.inl rfl) h
end
def YE (f:Str) (v:V):List (Str×V)→List (Str×V)
 | []=>[(f,v)]
 | (g,x)::r=>if g=f then (g,v)::r else (g,x)::YE f v r
theorem WI (f g:Str) (v:V):∀ fs:List (Str×V),(YE f v fs).lookup g=if g=f then some v else fs.lookup g
 | []=>by
  show List.lookup g [(f,v)]=_
  by_cases h:g=f
  ·have hb:(g==f)=true:=beq_iff_eq.mpr h
   simp only [List.lookup,hb,if_pos h]
  ·have hb:(g==f)=false:=beq_eq_false_iff_ne.mpr h
   simp only [List.lookup,hb,if_neg h]
 | (k,x)::r=>by
  have ih:=WI f g v r
  rw [show YE f v ((k,x)::r)=(if k=f then (k,v)::r else (k,x)::YE f v r) from rfl]
  by_cases hk:k=f
  ·rw [if_pos hk]
   by_cases h:g=k
   ·have hb:(g==k)=true:=beq_iff_eq.mpr h
    simp only [List.lookup,hb,if_pos (h.trans hk)]
   ·have hb:(g==k)=false:=beq_eq_false_iff_ne.mpr h
    simp only [List.lookup,hb,if_neg (fun e:g=f=>h (e.trans hk.symm))]
  ·rw [if_neg hk]
   by_cases h:g=k
   ·have hb:(g==k)=true:=beq_iff_eq.mpr h
    simp only [List.lookup,hb,if_neg (fun e:g=f=>hk (h.symm.trans e))]
   ·have hb:(g==k)=false:=beq_eq_false_iff_ne.mpr h
    simp only [List.lookup,hb]
    exact ih
theorem X7 (f:Str) (v:V):∀ fs:List (Str×V),f∈(YE f v fs).map (·.1)∧∀ g,g∈fs.map (·.1)→g∈(YE f v fs).map (·.1)
 | []=>⟨by simp [YE],fun g h=>by simp at h⟩
 | (k,x)::r=>by
  obtain ⟨i1,i2⟩:=X7 f v r
  rw [show YE f v ((k,x)::r)=(if k=f then (k,v)::r else (k,x)::YE f v r) from rfl]
  by_cases hk:k=f
  ·rw [if_pos hk]
   subst hk
   exact ⟨by simp,fun g h=>by simpa using h⟩
  ·rw [if_neg hk]
   refine ⟨?_,fun g h=>?_⟩
   ·rw [List.map_cons]
    exact List.mem_cons_of_mem _ i1
   ·rw [List.map_cons] at h ⊢
    rcases List.mem_cons.mp h with e | e
    ·exact List.mem_cons.mpr (.inl e)
    ·exact List.mem_cons_of_mem _ (i2 g e)
theorem Xl (f:Str) (v:V):∀ fs:List (Str×V),(YE f v fs).length≤fs.length+1
 | []=>by simp [YE]
 | (k,x)::r=>by
  have ih:=Xl f v r
  rw [show YE f v ((k,x)::r)=(if k=f then (k,v)::r else (k,x)::YE f v r) from rfl]
  by_cases hk:k=f
  ·rw [if_pos hk,List.length_cons,List.length_cons];omega
  ·rw [if_neg hk,List.length_cons,List.length_cons];omega
theorem XM.some_of {v:V} {o:Option Value} (r:XM (some v) o):∃ u,o=some u∧Ys v u:=by
 cases o with
 | none=>exact (show False from r).elim
 | some u=>exact ⟨u,rfl,r⟩
theorem XM.none_of {o:Option Value} (r:XM none o):o=none:=by
 cases o with
 | none=>rfl
 | some u=>exact (show False from r).elim
theorem Ur {v:V} {u:Value} (r:Ys v u):PySem.W.handedIn u=true:=by
 cases v with
 | non=>cases (show u=Value.none from r);rfl
 | bl b=>cases (show u=Value.bool b from r);rfl
 | int i=>obtain ⟨t,e⟩:=(show ∃ t,u=Value.int i t from r);cases e;rfl
 | str x=>obtain ⟨t,e⟩:=(show ∃ t,u=Value.str x t from r);cases e;rfl
 | byt b=>obtain ⟨t,e⟩:=(show ∃ t,u=Value.bytes b t from r);cases e;rfl
 | flt b=>obtain ⟨t,e⟩:=(show ∃ t,u=Value.float b t from r);cases e;rfl
 | ref a=>cases (show u=Value.ref a from r);rfl
 | ty n=>cases (show u=Value.type n from r);rfl
section
variable {P:Program} {w:World} {H H':Hp} {h h':Heap} {a C dx:Addr} {fs fs':List (Str×V)}
theorem Vm (hok:HOk P w H h) (e:H a=some (.ins C dx fs)):∃ mA,ObjM h a dx C mA∧(∀ f,XM (fs.lookup f) (mA f))∧PySem.Within mA (fs.map (·.1))∧fs.length≤1000∧H dx=some (.own a):=by
 obtain ⟨d,z,ne,ob,mA,n,r,q⟩:=(show Yz P w H h a (.ins C dx fs) from hok a _ e)
 exact ⟨mA,⟨ob,n,ne⟩,r,q,z,d⟩
end
structure Cls (K:PySem.W.Frag) (C:Addr):Prop where
 pg:PySem.W.plainGet K C Str.empty=true
 hd:PySem.W.hasDictIn K C=true
 po:PySem.W.plainOver K C=true
 sa:PySem.W.findIn K (.ref C) "__setattr__"=some (some (.builtin "object.__setattr__"))
theorem Cls.get {K:PySem.W.Frag} {C:Addr} (c:Cls K C) (f:Str):PySem.W.plainGet K C f=true:=c.pg
def Yg (K:PySem.W.Frag) (C:Addr) (f:Str):Prop:=PySem.W.findIn K (.ref C) f=some none
theorem Yg.taker {K:PySem.W.Frag} {C:Addr} {f:Str} (n:Yg K C f):PySem.W.takerIn K C f=some none:=by
 unfold PySem.W.takerIn
 rw [show PySem.W.findIn K (.ref C) f=some none from n]
 rfl
structure Meth (K:PySem.W.Frag) (C:Addr) (m:Str) (f:Addr):Prop where
 at_:PySem.W.findIn K (.ref C) m=some (some (.ref f))
 fn:PySem.W.isFn K (.ref f)=true
 kp:PySem.W.keepIn K (.ref f)=true
section
variable {X:Cx} {pins:List (Addr×Obj)} {σ:St} {H:Hp} {s:Shared} {a C dx:Addr} {fs:List (Str×V)} {f:Str} {v:V} {A:Around} {E:Value→Shared→Prop}
theorem Yaz {b:Bool} {Q:Value→Shared→Prop} (I:Inv X pins σ H s) (e:H a=some (.ins C dx fs)) (c:Cls X.K C) (n:Yg X.K C f) (l:fs.lookup f=some v)
  (h:∀ u s',Inv X pins σ H s'→Ys v u→Q u s'):wpAny (model X.prog X.w) A (getAttr (.ref a) f b) Q E s:=by
 obtain ⟨mA,O,r,_,_,_⟩:=Vm I.hok e
 obtain ⟨u,hu,ru⟩:=XM.some_of (v:=v) (o:=mA f) (by rw [← l];exact r f)
 exact Ydl I.kIn O (c.get f) c.hd n hu (Ur ru) (h u _ (I.tok _) ru)
theorem YaA {m:Str} {g:Addr} {pl:Sem Bool} {Q:Value×List Value→Shared→Prop} (I:Inv X pins σ H s) (e:H a=some (.ins C dx fs)) (c:Cls X.K C) (k:Meth X.K C m g) (l:fs.lookup m=none)
  (h:Q (.ref g,[.ref a]) s):wpAny (model X.prog X.w) A (getMethod (.ref a) m pl) Q E s:=by
 obtain ⟨mA,O,r,_,_,_⟩:=Vm I.hok e
 have hn:mA m=none:=XM.none_of (by rw [← l];exact r m)
 exact Ycf I.kIn O (c.get m) k.at_ k.fn hn h
theorem YaB {y:V} {u:Value} {Q:Unit→Shared→Prop} (I:Inv X pins σ H s) (e:H a=some (.ins C dx fs)) (c:Cls X.K C) (n:Yg X.K C f) (hl:fs.length<1000) (ry:Ys y u)
  (h:∀ s',Inv X pins σ (upd H a (.ins C dx (YE f y fs))) s'→Q () s'):wpAny (model X.prog X.w) A (setAttr (.ref a) f u) Q E s:=by
 obtain ⟨mA,O,r,wi,_,ho⟩:=Vm I.hok e
 have hz:(fs.map (·.1)).length≤sizeLine:=by rw [List.length_map,sizeLine_eq];omega
 refine Ydm I.kIn O c.sa c.po n.taker c.hd wi hz fun h' O' sb=>h _ ?_
 have hd:∃ o,h'.get? dx=some o:=let ⟨o,_,_,e',_⟩:=O'.ns;⟨o,e'⟩
 refine I.write (x:=a) (e:=dx) (by rw [e];exact True.intro) (.inr ho) (fun b q hb z=>(sb.2 b hb).trans z) hd ?_
 refine ⟨by rw [Yb O.ne];exact ho,?_,O.ne,O'.obj,_,O'.ns,fun g=>?_,fun g hg=>?_⟩
 ·have:=Xl f y fs;omega
 ·show XM ((YE f y fs).lookup g) (if g=f then some u else mA g)
  rw [WI]
  by_cases q:g=f
  ·rw [if_pos q,if_pos q];exact ry
  ·rw [if_neg q,if_neg q];exact r g
 ·by_cases q:g=f
  ·rw [q];exact (X7 f y fs).1
  ·refine (X7 f y fs).2 g (wi g fun z=>hg ?_)
   show (if g=f then some u else mA g)=none
   rw [if_neg q];exact z
theorem Inv.made (I:Inv X pins σ H s):Inv X pins σ (upd (upd H s.heap.objs.size (.own (s.heap.objs.size+1))) (s.heap.objs.size+1) (.ins C s.heap.objs.size []))
  { s with heap:=(s.heap.push PySem.W.emptyDict).push (PySem.W.instObj C s.heap.objs.size) }:=by
 have e1:(s.heap.push PySem.W.emptyDict).get? s.heap.objs.size=some PySem.W.emptyDict:=Heap.get?_push_size s.heap rfl
 have e2:((s.heap.push PySem.W.emptyDict).push (PySem.W.instObj C s.heap.objs.size)).get? (s.heap.objs.size+1)=some (PySem.W.instObj C s.heap.objs.size):=by
  have:=Heap.get?_push_size (s.heap.push PySem.W.emptyDict) (o:=PySem.W.instObj C s.heap.objs.size) rfl
  rwa [Heap.size_push] at this
 have e3:(s.heap.push PySem.W.emptyDict).Ns s.heap.objs.size (fun _=>none):=⟨PySem.W.emptyDict,#[],_,e1,rfl,(fun e he=>absurd he (by simp)),fun _=>rfl⟩
 have I1:=I.laid (a:=s.heap.objs.size) (o := .own (s.heap.objs.size+1)) (h':=s.heap.push PySem.W.emptyDict) (t':=s.toks) (fun b u q=>Heap.get?_push_of_some _ q) (Nat.le_refl _) ⟨_,e1⟩
 refine I1.laid (a:=s.heap.objs.size+1) (o := .ins C s.heap.objs.size []) (t':=s.toks) (fun b u q=>Heap.get?_push_of_some _ q) (Nat.le_of_eq (Heap.size_push _ _)) ?_
 have ne:s.heap.objs.size≠s.heap.objs.size+1:=Nat.ne_of_lt (Nat.lt_succ_self _)
 refine ⟨by rw [Yb ne,Yc],Nat.zero_le _,ne,e2,fun _=>none,(Heap.Ns1.of_empty e3).at fun o q=>Heap.get?_push_of_some _ q,fun _=>True.intro,fun y hy=>absurd rfl hy⟩
theorem Q2 {prog:Program} {w:World} {env:Env} {e:Expr} {f:Str} {pos:Pos} {s:Shared} {Q:Value→Shared→Prop} (hb:attributeBase e f env (eval e env)=eval e env)
  (h:wpAny (model prog w) A (eval e env) (fun o s₁=>wpAny (model prog w) A (getAttr o f true) Q E s₁) E s):wpAny (model prog w) A (eval (.Attribute e f pos) env) Q E s :=
 Attribute_any_ h (by rw [arm_eval_Attribute,hb])
end
def tFld (K:PySem.W.Frag) (ta:TE) (f:Str):TE:=fun σ H Q=>ta σ H fun x H1=>∃ a C dx fs v,x = .ref a∧H1 a=some (.ins C dx fs)∧Cls K C∧Yg K C f∧fs.lookup f=some v∧Q v H1
def sFld (K:PySem.W.Frag) (ta tv:TE) (f:Str):TS:=fun D σ H=>tv σ H fun y H1=>ta σ H1 fun x H2=>∃ a C dx fs,x = .ref a∧H2 a=some (.ins C dx fs)∧Cls K C∧Yg K C f∧fs.length<1000 ∧
 D.nx σ (upd H2 a (.ins C dx (YE f y fs)))
section
variable {X:Cx} {o e value:Expr} {f:Str} {pos pos' tpos:Pos} {ta tv:TE}
theorem Yo (he:PE X e ta) (hb:attributeBase e f X.env (eval e X.env)=eval e X.env):PE X (.Attribute e f pos) (tFld X.K ta f):=by
 intro pins s σ H Q I h
 refine Q2 hb (thn (he pins s σ H _ I h) fun u s1 ⟨x,H1,I1,rx,a,C,dx,fs,v,ex,ea,c,n,l,q⟩=>?_)
 subst ex
 obtain rfl:u=Value.ref a:=rx
 exact Yaz I1 ea c n l fun u' s2 I2 ru=>⟨v,H1,I2,ru,q⟩
theorem Xe (ha:PE X o ta) (hv:PE X value tv) (hs:swapsWith value (some (.Attribute o f pos')) pos.line X.env=pure false):PS X (.Assign [.Attribute o f pos'] value pos) (sFld X.K ta tv f):=by
 intro pins s σ H D I h
 refine plainObj_wpAny_Assign_Attribute (thn (hv pins s σ H _ I h) fun u s1 ⟨y,H1,I1,ry,q⟩=>thn (ha pins s1 σ H1 _ I1 q) fun ov s2 ⟨x,H2,I2,rx,a,C,dx,fs,ex,ea,c,n,l,q2⟩=>?_) hs
 subst ex
 obtain rfl:ov=Value.ref a:=rx
 exact YaB I2 ea c n l ry fun s3 I3=>⟨σ,_,I3,q2⟩
end
section
variable {X:Cx} {pins:List (Addr×Obj)} {σ:St} {H:Hp} {s:Shared} {A:Around} {E:Value→Shared→Prop} {Q:Value→Shared→Prop} {c:Value} {b:Bool}
inductive TyOf (K:PySem.W.Frag) (H:Hp):V→Value→Prop where
 | non:TyOf K H .non (.type "NoneType")
 | bl (x:Bool):TyOf K H (.bl x) (.type "bool")
 | int (i:Int):TyOf K H (.int i) (.type "int")
 | str (x:Str):TyOf K H (.str x) (.type "str")
 | flt (x:UInt64):TyOf K H (.flt x) (.type "float")
 | lst {a:Addr} {xs:List V} (e:H a=some (.lst xs)):TyOf K H (.ref a) (.type "list")
 | frz {a:Addr} {o:Obj} {xs:List V} (e:H a=some (.frz o (.lst xs))):TyOf K H (.ref a) (.type "list")
 | tup {a:Addr} {xs:List V} (e:H a=some (.tup xs)):TyOf K H (.ref a) (.type "tuple")
 | dK {a:Addr} {kvs:List (Key×V)} (e:H a=some (.dK kvs)):TyOf K H (.ref a) (.type "dict")
 | dT {a:Addr} {kvs:List (List Key×V)} (e:H a=some (.dT kvs)):TyOf K H (.ref a) (.type "dict")
 | ins {a C dx:Addr} {fs:List (Str×V)} (e:H a=some (.ins C dx fs)) (cl:Cls K C) (ha:PySem.W.findIn K (.ref C) "__class__"=some (some (.builtin "object.__class__")))
   (hn:PySem.W.specialIn K (.builtin "object.__class__") "__get__"=some (some (.builtin "getset_descriptor.__get__"))) (htk:PySem.W.takesIn K (.builtin "object.__class__")=some true)
   (hm:PySem.W.mroIn K C (.type "object")=some true):TyOf K H (.ref a) (.ref C)
theorem Ybs {x:V} {u t:Value} (I:Inv X pins σ H s) (rx:Ys x u) (ty:TyOf X.K H x t) (e:PySem.W.kitOne X.K t c=some b) (h:∀ tk,Q (.bool b) { s with toks:=tk }) :
  wpAny (model X.prog X.w) A (call (.builtin "isinstance") [u,c]) Q E s:=by
 cases ty with
 | non=>cases (show u=Value.none from rx);exact PySem.W.kia_one PySem.W.kitx_none I.kIn True.intro e (fun z=>nomatch z) h
 | bl y=>cases (show u=Value.bool y from rx);exact PySem.W.kia_one PySem.W.kitx_bool I.kIn True.intro e (fun z=>nomatch z) h
 | int i=>obtain ⟨t,q⟩:=(show ∃ t,u=Value.int i t from rx);cases q;exact PySem.W.kia_one PySem.W.kitx_int I.kIn True.intro e (fun z=>nomatch z) h
 | str y=>obtain ⟨t,q⟩:=(show ∃ t,u=Value.str y t from rx);cases q;exact PySem.W.kia_one PySem.W.kitx_str I.kIn True.intro e (fun z=>nomatch z) h
 | flt y=>obtain ⟨t,q⟩:=(show ∃ t,u=Value.float y t from rx);cases q;exact PySem.W.kia_one PySem.W.kitx_float I.kIn True.intro e (fun z=>nomatch z) h
 | @lst a xs ea =>
  cases (show u=Value.ref a from rx)
  obtain ⟨_,_,n,_,h1⟩:=(show Yz X.prog X.w H s.heap a (.lst xs) from I.hok a _ ea)
  exact PySem.W.kia_one PySem.W.kitx_list I.kIn ⟨_,h1,rfl⟩ e (fun z=>nomatch z) h
 | @frz a ob xs ea =>
  cases (show u=Value.ref a from rx)
  obtain ⟨_,_,_,n,_,h1⟩:=(show Yz X.prog X.w H s.heap a (.frz ob (.lst xs)) from I.hok a _ ea)
  exact PySem.W.kia_one PySem.W.kitx_list I.kIn ⟨_,h1,rfl⟩ e (fun z=>nomatch z) h
 | @tup a xs ea =>
  cases (show u=Value.ref a from rx)
  obtain ⟨_,_,_,p⟩:=(show Yz X.prog X.w H s.heap a (.tup xs) from I.hok a _ ea)
  obtain ⟨o,h1,h2,_⟩:=p
  exact PySem.W.kia_one PySem.W.kitx_tuple I.kIn ⟨o,h1,h2⟩ e (fun z=>nomatch z) h
 | @dK a kvs ea =>
  cases (show u=Value.ref a from rx)
  obtain ⟨_,_,vs,_,p⟩:=(show Yz X.prog X.w H s.heap a (.dK kvs) from I.hok a _ ea)
  obtain ⟨o,es,ep,h1,h2,_⟩:=p
  exact PySem.W.kia_one PySem.W.kitx_dict I.kIn ⟨o,h1,h2.1⟩ e (fun z=>nomatch z) h
 | @dT a kvs ea =>
  cases (show u=Value.ref a from rx)
  obtain ⟨_,_,xs,_,o,es,ep,h1,h2,_⟩:=(show Yz X.prog X.w H s.heap a (.dT kvs) from I.hok a _ ea)
  exact PySem.W.kia_one PySem.W.kitx_dict I.kIn ⟨o,h1,h2.1⟩ e (fun z=>nomatch z) h
 | @ins a C dx fs ea cl ha hn htk hm =>
  cases (show u=Value.ref a from rx)
  obtain ⟨mA,O,_⟩:=Vm I.hok ea
  obtain ⟨od,J,_⟩:=O.look
  exact PySem.W.kia_one (PySem.W.kitx_own (cl.get _) cl.hd ha hn htk hm) I.kIn J e (fun z=>nomatch z) h
end
end L2
namespace L2
open PySem PySem.Spec PyProof.Rows
structure Room (k:Nat) (A:Around):Prop where
 hd:A.handled=none
 dp:A.depth+3*k+5<recursionLimit
 un:A.units+16*k+200<cLine
 gd:A.guards=some []
theorem Room.mono {j k:Nat} {A:Around} (r:Room k A) (h:j≤k):Room j A:=⟨r.hd,by have:=r.dp;omega,by have:=r.un;omega,r.gd⟩
theorem Room.deeper {k:Nat} {A:Around} (r:Room (k+1) A) (env:Env):Room k (A.deeper env) :=
 ⟨r.hd,by have:=r.dp;show A.depth+1+3*k+5<_;omega,by have:=r.un;show A.units+3+16*k+200<_;omega,r.gd⟩
theorem YaC {A:Around} {C:Addr} {us:List Value} {kw:List (Str×Value)}:(A.under (.builtin "type.__call__" ⟨.ref C::us,kw⟩)).depth=A.depth+1:=by
 first | rfl | simp [Around.under,Code.weight,Code.isCreation,Code.isGuard,Code.isCaller,Code.frames,Code.isFrame,guardIds]
theorem YaD {A:Around} {C:Addr} {us:List Value} {kw:List (Str×Value)}:(A.under (.builtin "type.__call__" ⟨.ref C::us,kw⟩)).units=A.units+1:=by
 first | rfl | simp [Around.under,Code.cUnits,Code.frames,Code.isFrame]
theorem Room.make {k:Nat} {A:Around} (r:Room (k+1) A) (C:Addr) (us:List Value) (kw:List (Str×Value)):Room k (A.under (.builtin "type.__call__" ⟨.ref C::us,kw⟩)) :=
 ⟨r.hd,by have:=r.dp;rw [YaC];omega,by have:=r.un;rw [YaD];omega,by first | exact r.gd | simpa [Around.under,Code.isGuard,Code.isFrame,guardIds] using r.gd⟩
theorem Room.depth {k:Nat} {A:Around} (r:Room k A):A.depth<recursionLimit:=by have:=r.dp;omega
theorem Room.units {k:Nat} {A:Around} (r:Room k A):A.units+64<cLine:=by have:=r.un;omega
def YaE:TA:=fun _ H Q=>Q [] H
def VM (ta:TE) (tr:TA):TA:=fun σ H Q=>ta σ H fun x H1=>tr σ H1 fun xs H2=>Q (x::xs) H2
section
variable {X:Cx} {e:Expr} {es:List Expr} {te:TE} {t:TA} {pos:Pos}
theorem Yd:PA X [] YaE:=fun _ _ _ _ H Q I h=>Calls.spliced_nil ⟨[],H,I,.nil,h⟩
theorem Ya (ha:PE X e te) (hr:PA X es t) (hs:starEach (e::es) X.env=(false,eval e X.env)::starEach es X.env:=by rfl):PA X (e::es) (VM te t):=by
 intro pos pins s σ H Q I h
 rw [hs]
 show wpAny _ _ (spliced ((false,eval e X.env)::backTo pos (starEach es X.env))) _ _ s
 refine Calls.spliced_cons (thn (ha pins s σ H _ I h) fun u s1 ⟨x,H1,I1,r1,q1⟩=>?_)
 exact thn (hr pos pins s1 σ H1 _ I1 q1) fun us s2 ⟨xs,H2,I2,r2,q2⟩=>⟨x::xs,H2,I2,.cons r1 r2,q2⟩
def tTup (t:TA):TE:=fun σ H Q=>t σ H fun xs H1=>xs.length≤sizeLine∧∀ p,H1 p=none→Q (.ref p) (upd H1 p (.tup xs))
def tLst (t:TA):TE:=fun σ H Q=>t σ H fun xs H1=>xs.length≤sizeLine∧∀ p,H1 p=none→Q (.ref p) (upd H1 p (.lst xs))
theorem YZ {x1} (h:PA X es t):PE X (.Tuple es x1 pos) (tTup t):=by
 intro pins s σ H Q I hq
 refine wpAny_Tuple_spliced (thn (h pos pins s σ H _ I hq) fun us s1 ⟨xs,H1,I1,r,z,q⟩=>⟨by rw [← r.length];exact z,?_⟩)
 have hf:H1 s1.heap.objs.size=none:=I1.hok.fresh (Nat.le_refl _)
 refine ⟨.ref s1.heap.objs.size,upd H1 s1.heap.objs.size (.tup xs),I1.laid (t':=s1.toks) (fun b u e=>Heap.get?_push_of_some _ e) (Nat.le_refl _) ?_,rfl,q _ hf⟩
 exact ⟨z,us,r,⟨_,Heap.get?_push_size _ rfl,rfl,_,rfl⟩⟩
theorem Xq (h:PA X es t):PE X (.List es pos) (tLst t):=by
 intro pins s σ H Q I hq
 refine wpAny_List_spliced (thn (h pos pins s σ H _ I hq) fun us s1 ⟨xs,H1,I1,r,z,q⟩=>⟨by rw [← r.length];exact z,?_⟩)
 have hf:H1 s1.heap.objs.size=none:=I1.hok.fresh (Nat.le_refl _)
 refine ⟨.ref s1.heap.objs.size,upd H1 s1.heap.objs.size (.lst xs),I1.laid (t':=s1.toks) (fun b u e=>Heap.get?_push_of_some _ e) (Nat.le_refl _) ?_,rfl,q _ hf⟩
 exact ⟨z,us,0,r,Heap.get?_push_size _ rfl⟩
end
abbrev Sp:=List V→Hp→VK→XK→Prop
abbrev CXT:=List Env→Hp→Shared→XK→Value→Shared→Prop
structure Env0 (P:Program) (w:World) (K:PySem.W.Frag) (mg:Str→Option Value) (base:Heap) (A:Around) (outer:List Env) (s:Shared) (H:Hp):Prop where
 frames:A.frames=some outer
 mod:Mod K mg base
 bs:∀ b o,base.get? b=some o→s.heap.get? b=some o∧H b=none
 bsz:base.objs.size≤s.heap.objs.size
 funs:s.heap.FunFrames base outer
 frf:∀ b∈frs outer,H b=none
 hok:HOk P w H s.heap
 bare:AllBare s.gens
def CE (outer:List Env) (P:Program) (w:World) (H:Hp) (s:Shared) (Q:VK) (u:Value) (s':Shared):Prop :=
 ∃ v H',s'.os=s.os∧AllBare s'.gens∧Un (frs outer) [] H H' s.heap s'.heap∧HOk P w H' s'.heap∧Ys v u∧Q v H'
def CR (CX:CXT) (outer:List Env) (P:Program) (w:World) (H:Hp) (s:Shared) (Q:VK) (E:XK) (r:Result) (s':Shared):Prop :=
 match r with
 | .ok (.ret u)=>CE outer P w H s Q u s'
 | .ok _=>False
 | .error e=>CX outer H s E e s'
structure FnOk (P:Program) (w:World) (K:PySem.W.Frag) (mg:Str→Option Value) (base:Heap) (CX:CXT) (k:Nat) (f:Addr) (fd:FuncData) (ps:List Str) (sp:Sp):Prop where
 len:∀ vs H Q E,sp vs H Q E→vs.length=ps.length
 run:∀ (A:Around) (outer:List Env) (s:Shared) (H:Hp) (args:Args) (us:List Value) (vs:List V) (Q:VK) (E:XK),Room k A→Env0 P w K mg base A outer s H→BindsTo s fd args (ps.zip us)→Ym vs us→sp vs H Q E →
  codeAny (model P w) A (.call (.ref f) args) (CR CX outer P w H s Q E) s
theorem FnOk.mono {P:Program} {w:World} {K:PySem.W.Frag} {mg:Str→Option Value} {base:Heap} {CX:CXT} {j k:Nat} {f:Addr} {fd:FuncData} {ps:List Str} {sp:Sp} (F:FnOk P w K mg base CX j f fd ps sp) (h:j≤k) :
  FnOk P w K mg base CX k f fd ps sp:=⟨F.len,fun A outer s H args us vs Q E hr=>F.run A outer s H args us vs Q E (hr.mono h)⟩
theorem Env0.make {P:Program} {w:World} {K:PySem.W.Frag} {mg:Str→Option Value} {base:Heap} {A:Around} {outer:List Env} {s:Shared} {H:Hp} (e:Env0 P w K mg base A outer s H) (C:Addr) (us:List Value) (kw:List (Str×Value)) :
  Env0 P w K mg base (A.under (.builtin "type.__call__" ⟨.ref C::us,kw⟩)) outer s H:=⟨by first | exact e.frames | (simpa [Around.under,Code.envs,Code.isFrame,pushEnvs] using e.frames),e.mod,e.bs,e.bsz,e.funs,e.frf,e.hok,e.bare⟩
section
variable {X:Cx} {pins:List (Addr×Obj)} {σ:St} {H:Hp} {s s':Shared}
theorem Inv.env0 (I:Inv X pins σ H s):Env0 X.prog X.w X.K X.mg X.base X.A X.stack s H :=
 ⟨I.ok.frames,I.ok.mod,I.bs,Nat.le_trans I.ok.bsz I.sz,I.stack,I.stkFree,I.hok,I.bare⟩
theorem Inv.after {Q:VK} {u:Value} (I:Inv X pins σ H s) (h:CE X.stack X.prog X.w H s Q u s'):EP X pins σ Q u s':=by
 obtain ⟨v,H',os,bare,un,hok,r,q⟩:=h
 obtain ⟨hh,g,d,t,os'⟩:=s'
 obtain rfl:os'=s.os:=os
 exact ⟨v,H',I.call (h':=hh) (g':=g) (d':=d) (t':=t) (ch:=[]) un hok bare (fun b z=>absurd z (by simp)),r,q⟩
end
def VN (sp:Sp) (dvs:List V) (E:XK) (t:TA):TE:=fun σ H Q=>t σ H fun vs H1=>sp (vs++dvs) H1 Q E
def YaF (C:Addr) (m:Str) (sp:Sp) (dvs:List V) (E:XK) (ta:TE) (t:TA):TE:=fun σ H Q=>ta σ H fun x H1=>∃ a dx fs,x = .ref a∧H1 a=some (.ins C dx fs)∧fs.lookup m=none ∧
 t σ H1 fun vs H2=>sp (x::(vs++dvs)) H2 Q E
def YaG (C:Addr) (sp:Sp) (dvs:List V) (E:XK) (t:TA):TE:=fun σ H Q=>t σ H fun vs H1=>∀ x dx,H1 x=none→H1 dx=none→dx≠x →
 sp (.ref x::(vs++dvs)) (upd (upd H1 dx (.own x)) x (.ins C dx [])) (fun v H2=>v = .non∧Q (.ref x) H2) E
def YW (K:PySem.W.Frag) (fd:FuncData) (ps:List Str) (ds:List Value):Prop :=
 ∀ (s:Shared) (us:List Value),K.In s.heap→(us++ds).length=ps.length→BindsTo s fd ⟨us,[]⟩ (ps.zip (us++ds))
theorem YW.all {K:PySem.W.Frag} {fd:FuncData} {ps:List Str} (h:∀ us:List Value,us.length=ps.length→bindArgs fd ⟨us,[]⟩=pure (ps.zip us)):YW K fd ps []:=fun s us _ hl=>by
 rw [List.append_nil] at hl ⊢
 exact .of_eq (h us hl)
def XB (CX:CXT) (X:Cx) (E:XK):Prop:=∀ (pins:List (Addr×Obj)) (σ:St) (H:Hp) (s:Shared) (e:Value) (s':Shared),Inv X pins σ H s→CX X.stack H s E e s'→X.xe e s'
section
variable {X:Cx} {CX:CXT} {k:Nat} {f C:Addr} {fd:FuncData} {ps:List Str} {sp:Sp} {dvs:List V} {ds:List Value} {E:XK} {x m:Str} {p pos apos:Pos} {e o:Expr} {es:List Expr} {ta:TE} {t:TA}
theorem VO {pins:List (Addr×Obj)} {σ:St} {H:Hp} {s:Shared} {Q:VK} {us:List Value} {vs:List V} (F:FnOk X.prog X.w X.K X.mg X.base CX k f fd ps sp) (hr:Room k X.A) (hb:YW X.K fd ps ds) (hd:Ym dvs ds) (hx:XB CX X E)
  (I:Inv X pins σ H s) (r:Ym vs us) (h:sp (vs++dvs) H Q E):wpAny (model X.prog X.w) X.A (call (.ref f) us) (EP X pins σ Q) X.xe s:=by
 have r2:Ym (vs++dvs) (us++ds):=r.append hd
 have hl:(us++ds).length=ps.length:=by rw [← r2.length];exact F.len _ _ _ _ h
 refine wpAny_call (codeAny_mono (F.run X.A X.stack s H ⟨us,[]⟩ (us++ds) (vs++dvs) Q E hr I.env0 (hb s us I.kIn hl) r2 h) fun r s' hq=>?_)
 cases r with
 | error e=>exact hx pins σ H s e s' I hq
 | ok fl =>
  cases fl with
  | ret u=>exact I.after hq
  | next=>exact False.elim hq
  | brk=>exact False.elim hq
  | cont=>exact False.elim hq
theorem Q3 (F:FnOk X.prog X.w X.K X.mg X.base CX k f fd ps sp) (hr:Room k X.A) (hg:Gl X x) (hm:X.mg x=some (.ref f)) (hk:PySem.W.keepIn X.K (.ref f)=true) (hb:YW X.K fd ps ds) (hd:Ym dvs ds) (hx:XB CX X E)
  (ha:PA X (e::es) t) (hdb:(x==("__debug__":Str))=false:=by decide) (he:starEach (e::es) X.env=(false,eval e X.env)::starEach es X.env:=by rfl) (hpl:(backTo pos (starEach es X.env)).any (·.1)=false:=by rfl) :
  PE X (.Call (.Name x p) (e::es) [] pos) (VN sp dvs E t):=by
 intro pins s σ H Q I h
 refine wpAny_Call_Name_kw (Wl I hg hm ?_ hdb)
 refine PySem.W.callWith_K (h₀:=X.base) I.ok.mod.kin hk (thn (ha pos pins s σ H _ I h) fun us s1 ⟨vs,H1,I1,r,q⟩=>⟨I1.kIn,?_⟩) he hpl
 exact VO F hr hb hd hx I1 r q
theorem Ydn {pl:Sem Bool} (he:PE X o ta) (c:Cls X.K C) (hm:Meth X.K C m f) (F:FnOk X.prog X.w X.K X.mg X.base CX k f fd ps sp) (hr:Room k X.A) (hb:YW X.K fd ps ds) (hd:Ym dvs ds) (hx:XB CX X E) (ha:PA X (e::es) t)
  (hst:starEach (e::es) X.env=(false,eval e X.env)::starEach es X.env:=by rfl) (hpl:(backTo pos (starEach es X.env)).any (·.1)=false:=by rfl)
  (ht:eval (.Call (.Attribute o m apos) (e::es) [] pos) X.env=(do
   let ov ← eval o X.env
   standAt apos.atName
   let (f,first) ← holding [ov] (getMethod ov m pl)
   callWith pos f first (backTo pos (starEach (e::es) X.env)) (backToKw pos (keywordEach [] X.env))):=by rfl) :
  PE X (.Call (.Attribute o m apos) (e::es) [] pos) (YaF C m sp dvs E ta t):=by
 intro pins s σ H Q I h
 refine PySem.W.methodCall_KW (pl:=pl) (thn (he pins s σ H _ I h) fun u s1 ⟨x,H1,I1,rx,a,dx,fs,ex,ea,l,q⟩=>?_) ht
 subst ex
 obtain rfl:u=Value.ref a:=rx
 refine YaA I1 ea c hm l ?_
 refine PySem.W.callWith_K (first:=[.ref a]) (h₀:=X.base) I.ok.mod.kin hm.kp (thn (ha pos pins s1 σ H1 _ I1 q) fun us s2 ⟨vs,H2,I2,r,q2⟩=>⟨I2.kIn,?_⟩) hst hpl
 exact VO (us := .ref a::us) (vs := .ref a::vs) F hr hb hd hx I2 (.cons rfl r) q2
structure Mk (K:PySem.W.Frag) (C f:Addr):Prop where
 makes:PySem.W.makesIn K C=true
 init:PySem.W.findIn K (.ref C) "__init__"=some (some (.ref f))
 fn:PySem.W.isFn K (.ref f)=true
 kp:PySem.W.keepIn K (.ref C)=true
theorem Ych {pins:List (Addr×Obj)} {σ:St} {H:Hp} {s:Shared} {Q:VK} {us:List Value} {vs:List V} (M:Mk X.K C f) (F:FnOk X.prog X.w X.K X.mg X.base CX k f fd ps sp) (hr:Room (k+1) X.A) (hb:YW X.K fd ps ds) (hd:Ym dvs ds)
  (hx:XB CX X E) (I:Inv X pins σ H s) (r:Ym vs us)
  (h:∀ x dx,H x=none→H dx=none→dx≠x→sp (.ref x::(vs++dvs)) (upd (upd H dx (.own x)) x (.ins C dx [])) (fun v H2=>v = .non∧Q (.ref x) H2) E) :
  wpAny (model X.prog X.w) X.A (call (.ref C) us) (EP X pins σ Q) X.xe s:=by
 have hq:=h (s.heap.objs.size+1) s.heap.objs.size (I.hok.fresh (Nat.le_succ _)) (I.hok.fresh (Nat.le_refl _)) (Nat.ne_of_lt (Nat.lt_succ_self _))
 have I2:=Inv.made (C:=C) I
 have r2:Ym (V.ref (s.heap.objs.size+1)::(vs++dvs)) (Value.ref (s.heap.objs.size+1)::(us++ds)) := .cons rfl (r.append hd)
 have hl:(Value.ref (s.heap.objs.size+1)::us++ds).length=ps.length:=by
  have e:=r2.length
  rw [F.len _ _ _ _ hq] at e
  exact e.symm
 refine wpAny_call (Ycg (f:=f) I.kIn M.makes M.init (beq_iff_eq.mp M.fn) (codeAny_mono (F.run _ X.stack _ _ ⟨Value.ref (s.heap.objs.size+1)::us,[]⟩ (Value.ref (s.heap.objs.size+1)::(us++ds)) _ _ E (hr.make C us [])
  (I2.env0.make C us []) (hb _ (Value.ref (s.heap.objs.size+1)::us) I2.kIn hl) r2 hq) fun r s' hq'=>?_))
 cases r with
 | error e=>exact hx pins σ _ _ e s' I2 hq'
 | ok fl =>
  cases fl with
  | ret u =>
   obtain ⟨v,H',I3,rv,ev,q3⟩:=I2.after hq'
   subst ev
   exact ⟨rv,⟨V.ref (s.heap.objs.size+1),H',I3,rfl,q3⟩⟩
  | next=>exact False.elim hq'
  | brk=>exact False.elim hq'
  | cont=>exact False.elim hq'
theorem Ydo (M:Mk X.K C f) (F:FnOk X.prog X.w X.K X.mg X.base CX k f fd ps sp) (hr:Room (k+1) X.A) (hg:Gl X x) (hm:X.mg x=some (.ref C)) (hb:YW X.K fd ps ds) (hd:Ym dvs ds) (hx:XB CX X E)
  (ha:PA X (e::es) t) (hdb:(x==("__debug__":Str))=false:=by decide) (he:starEach (e::es) X.env=(false,eval e X.env)::starEach es X.env:=by rfl) (hpl:(backTo pos (starEach es X.env)).any (·.1)=false:=by rfl) :
  PE X (.Call (.Name x p) (e::es) [] pos) (YaG C sp dvs E t):=by
 intro pins s σ H Q I h
 refine wpAny_Call_Name_kw (Wl I hg hm ?_ hdb)
 refine PySem.W.callWith_K (h₀:=X.base) I.ok.mod.kin M.kp (thn (ha pos pins s σ H _ I h) fun us s1 ⟨vs,H1,I1,r,q⟩=>⟨I1.kIn,?_⟩) he hpl
 exact Ych M F hr hb hd hx I1 r q
end
def PK (X:Cx) (kws:List Keyword) (t:TA):Prop :=
 ∀ (pos:Pos) (pins:List (Addr×Obj)) (s:Shared) (σ:St) (H:Hp) (Q:List V→Hp→Prop),Inv X pins σ H s→t σ H Q→wpAny (model X.prog X.w) X.A (evalAll ((backToKw pos (keywordEach kws X.env)).map (·.2))) (AP X pins σ Q) X.xe s
section
variable {X:Cx} {CX:CXT} {k:Nat} {f C:Addr} {fd:FuncData} {ps ks:List Str} {sp:Sp} {E:XK} {x m:Str} {p pos apos kpos:Pos} {e o:Expr} {es:List Expr} {kws:List Keyword} {te ta:TE} {t tk:TA} {nm:Option Str}
theorem Yd9:PK X [] YaE:=fun _ _ _ _ H Q I h=>wpAny_evalAll_nil ⟨[],H,I,.nil,h⟩
theorem Ydp (ha:PE X e te) (hr:PK X kws t):PK X (⟨nm,e,kpos⟩::kws) (VM te t):=by
 intro pos pins s σ H Q I h
 show wpAny _ _ (evalAll ((do let v ← eval e X.env;standAt pos;pure v)::(backToKw pos (keywordEach kws X.env)).map (·.2))) _ _ s
 refine wpAny_evalAll_cons (wpAny_bind (thn (ha pins s σ H _ I h) fun u s1 ⟨x,H1,I1,r1,q1⟩=>wpAny_bind (wpAny_standAt (wpAny_pure ?_))))
 exact thn (hr pos pins s1 σ H1 _ I1 q1) fun us s2 ⟨xs,H2,I2,r2,q2⟩=>⟨x::xs,H2,I2,.cons r1 r2,q2⟩
variable {g:List Value→List Value→List Value} {gV:List V→List V→List V}
end
structure FnScope (N P:List Str) (sc:Scope):Prop where
 kind:sc.kind = .function
 co:sc.isCoroutine=false
 gen:sc.isGenerator=false
 nd:N.Nodup
 pre:N.take P.length=P
 par:∀ x∈P,sc.names.lookup x=some .local∨sc.names.lookup x=some .cell
 nofree:∀ y∈sc.names,y.2 ≠ .free
theorem Us {kindOf:Str→Option NameKind} {x:Str}:∀ {binds:List (Str×Value)} {m:Str→Option Value},(∀ v,(x,v)∉binds)→bindL kindOf binds m x=m x
 | [],_,_=>rfl
 | (n,v)::r,m,h=>by
  unfold bindL
  rw [Us fun w hw=>h w (List.mem_cons_of_mem _ hw)]
  split
  ·have:x≠n:=by rintro rfl;exact h v List.mem_cons_self
   simp [this]
  ·rfl
theorem Ut {kindOf:Str→Option NameKind} {x:Str}:∀ {binds:List (Str×Value)} {m:Str→Option Value},(∀ v,(x,v)∉binds)→bindC kindOf binds m x=m x
 | [],_,_=>rfl
 | (n,v)::r,m,h=>by
  unfold bindC
  rw [Ut fun w hw=>h w (List.mem_cons_of_mem _ hw)]
  split
  ·rfl
  ·have:x≠n:=by rintro rfl;exact h v List.mem_cons_self
   simp [this]
theorem Uu {kindOf:Str→Option NameKind} {x:Str} {v:Value}:∀ {P:List Str} {vs:List Value} {i:Nat} {m:Str→Option Value},P.Nodup→P[i]?=some x→vs[i]?=some v→kindOf x=some .local →
  bindL kindOf (P.zip vs) m x=some v
 | [],_,_,_,_,h,_,_=>by simp at h
 | _::_,[],_,_,_,_,h,_=>by simp at h
 | p::P,w::vs,0,m,nd,h1,h2,hk=>by
  simp at h1 h2;subst h1;subst h2
  show bindL kindOf ((p,w)::P.zip vs) m p=_
  unfold bindL
  rw [Us fun v hv=>(List.nodup_cons.mp nd).1 (List.of_mem_zip hv).1,if_pos hk]
  simp
 | p::P,w::vs,i+1,m,nd,h1,h2,hk=>by
  show bindL kindOf ((p,w)::P.zip vs) m x=_
  unfold bindL
  exact Uu (i:=i) (List.nodup_cons.mp nd).2 (by simpa using h1) (by simpa using h2) hk
theorem Uv {kindOf:Str→Option NameKind} {x:Str} {v:Value}:∀ {P:List Str} {vs:List Value} {i:Nat} {m:Str→Option Value},P.Nodup→P[i]?=some x→vs[i]?=some v→kindOf x≠some .local →
  bindC kindOf (P.zip vs) m x=some v
 | [],_,_,_,_,h,_,_=>by simp at h
 | _::_,[],_,_,_,_,h,_=>by simp at h
 | p::P,w::vs,0,m,nd,h1,h2,hk=>by
  simp at h1 h2;subst h1;subst h2
  show bindC kindOf ((p,w)::P.zip vs) m p=_
  unfold bindC
  rw [Ut fun v hv=>(List.nodup_cons.mp nd).1 (List.of_mem_zip hv).1,if_neg hk]
  simp
 | p::P,w::vs,i+1,m,nd,h1,h2,hk=>by
  show bindC kindOf ((p,w)::P.zip vs) m x=_
  unfold bindC
  exact Uv (i:=i) (List.nodup_cons.mp nd).2 (by simpa using h1) (by simpa using h2) hk
def Xw (N:List Str) (vs:List V):St:=vs.map some++List.replicate (N.length - vs.length) none
def WJ (CX:CXT) (P:Program) (w:World) (K:PySem.W.Frag) (mg:Str→Option Value) (base:Heap) (N:List Str) (qual:Str) (scope:Scope) (f:Addr) (cd:Value) (A:Around) (outer:List Env) (s:Shared) (H:Hp) (E:XK):Cx where
 prog:=P
 w:=w
 K:=K
 mg:=mg
 base:=base
 A:=A.deeper (envOfC qual scope s.heap.objs.size f cd)
 N:=N
 s₀:=s
 H₀:=H
 env:=envOfC qual scope s.heap.objs.size f cd
 outer:=outer
 stack:=envOfC qual scope s.heap.objs.size f cd::outer
 ex:=[]
 calm:=true
 fn:=fun _=>true
 pn:=[]
 xe:=fun e s'=>wpAny (model P w) (A.deeper (envOfC qual scope s.heap.objs.size f cd)) (leaving (envOfC qual scope s.heap.objs.size f cd) e) (fun _ s''=>CX outer H s E e s'') (fun e' s''=>CX outer H s E e' s'') s'
theorem U3 {sc:Scope} {n:Nat} {x:Str} (h:sc.names.lookup x=some .cell):∃ c,(cellsFrom n sc.names []).lookup x=some c:=by
 have q:=PySem.W.cellsFrom_some sc.names n [] (.inl h)
 exact Option.isSome_iff_exists.mp q
theorem Ybt {CX:CXT} {P:Program} {w:World} {K:PySem.W.Frag} {mg:Str→Option Value} {base:Heap} {N ps:List Str} {qual:Str} {scope:Scope} {f:Addr} {cd:Value} {A:Around} {outer:List Env} {s s1:Shared} {H:Hp} {E:XK} {us:List Value} {vs:List V}
  (S:FnScope N ps scope) (hd:A.handled=none) (e0:Env0 P w K mg base A outer s H) (hl:vs.length=ps.length) (r:Ym vs us)
  (x:InCallC s s.heap.objs.size (bindL (envOfC qual scope s.heap.objs.size f cd).kindOf (ps.zip us) fun _=>none) (cellsFrom (s.heap.objs.size+1) scope.names []) (bindC (envOfC qual scope s.heap.objs.size f cd).kindOf (ps.zip us) fun _=>none) s1) :
  Inv (WJ CX P w K mg base N qual scope f cd A outer s H E) [] (Xw N vs) H s1:=by
 have hpl:ps.length≤N.length:=by have:=congrArg List.length S.pre;rw [List.length_take] at this;omega
 obtain ⟨h1,tk,rfl,hk⟩:=x.done
 have noA:∀ b:Addr,b∉(WJ CX P w K mg base N qual scope f cd A outer s H E).ex:=fun b z=>absurd (show b∈([]:List Addr) from z) (by simp)
 refine ⟨⟨e0.mod,S.kind,rfl,rfl,Nat.le_refl _,fun y z c h1 h2=>?_,fun y hy=>?_,fun y c _ h=>?_,fun _=>hd,Around.frames_deeper e0.frames,.inr ⟨rfl,rfl⟩,fun b z=>absurd z (noA b),e0.bs,e0.bsz,fun b _ _=>noA b,fun b z=>absurd z (noA b),e0.funs,e0.frf⟩,
  rfl,e0.bare,Un.kept hk,⟨_,x.toInCall.ns,fun i y v h1 h2 h3=>?_⟩,fun y c h=>⟨_,x.cell y c h⟩,e0.hok.fresh (Nat.le_refl _),fun y c h=>?_,fun p hp=>absurd (show p∈([]:List (Addr×Obj)) from hp) (by simp),e0.hok.kept hk,?_⟩
 ·exact name_of_addr x.apart (PySem.mem_of_lookup h1) (PySem.mem_of_lookup h2)
 ·have hy:scope.names.lookup y=some .cell∨scope.names.lookup y=some .free:=hy
  rcases hy with hy | hy
  ·exact U3 hy
  ·exact absurd rfl (S.nofree _ (PySem.mem_of_lookup hy))
 ·exact Nat.le_of_lt (x.above y c (PySem.mem_of_lookup h))
 ·have hi:i<vs.length:=by
   unfold Xw at h2
   by_cases hi:i<vs.length
   ·exact hi
   ·rw [List.getElem?_append_right (by simpa using hi)] at h2
    rw [List.getElem?_replicate] at h2
    split at h2<;>cases h2
  have ha:vs[i]?=some v:=by
   unfold Xw at h2
   rw [List.getElem?_append_left (by simpa using hi),List.getElem?_map] at h2
   cases e:vs[i]? with
   | none=>rw [e] at h2;cases h2
   | some a=>rw [e] at h2;cases h2;rfl
  obtain ⟨u,hu,rv⟩:=r.get ha
  have hp:ps[i]?=some y:=by
   rw [← S.pre,List.getElem?_take_of_lt (by omega)];exact h1
  have ndP:ps.Nodup:=by rw [← S.pre];exact S.nd.sublist (List.take_sublist _ _)
  refine ⟨u,rv,?_⟩
  rcases S.par y (List.mem_of_getElem? hp) with k | k
  ·exact .inl ⟨k,Uu ndP hp hu k⟩
  ·obtain ⟨c,e⟩:=U3 (n:=s.heap.objs.size+1) k
   refine .inr ⟨.inl k,c,e,?_⟩
   have q:=x.cell y c e
   rw [Uv ndP hp hu (by show scope.names.lookup y≠_;rw [k];decide)] at q
   exact q
 ·exact e0.hok.fresh (Nat.le_of_lt (x.above y c (PySem.mem_of_lookup h)))
 ·unfold Xw
  show _=N.length
  rw [List.length_append,List.length_map,List.length_replicate]
  omega
theorem UO {CX:CXT} {P:Program} {w:World} {K:PySem.W.Frag} {mg:Str→Option Value} {base:Heap} {k:Nat} {f:Addr} {name qual:Str} {params:Arguments} {body:List Stmt} {scope:Scope} {dV kV doc pm cdv ct oc:Value} {an od:Option Addr}
  {osl:Array (Option Value)} {N ps:List Str} {sp:Sp} (lk:K.lookup f=some ⟨oc,od,.func (PySem.W.fnOf name qual params body scope dV kV doc pm an cdv ct),osl⟩) (hcd:PySem.W.codeIn K cdv qual=true) (S:FnScope N ps scope)
  (len:∀ vs H Q E,sp vs H Q E→vs.length=ps.length)
  (hbody:∀ (A:Around) (outer:List Env) (s:Shared) (H:Hp) (vs:List V) (Q:VK) (E:XK),Room k (A.deeper (envOfC qual scope s.heap.objs.size f cdv))→sp vs H Q E →
   ∃ t,PSs (WJ CX P w K mg base N qual scope f cdv A outer s H E) body t∧t { nx:=fun _ H'=>Q .non H',rt:=Q } (Xw N vs) H) :
  FnOk P w K mg base CX (k+1) f (PySem.W.fnOf name qual params body scope dV kV doc pm an cdv ct) ps sp:=by
 refine ⟨len,fun A outer s H args us vs Q E hr e0 hb r hsp=>?_⟩
 have hl:=len _ _ _ _ hsp
 have KX:K.In s.heap:=e0.mod.kin.keeps fun b o e=>(e0.bs b o e).1
 have lim:s.heap.NoLimit:=e0.mod.nolimit.keeps fun b o e=>(e0.bs b o e).1
 have hkind:∀ y∈ps.zip us,scope.names.lookup y.1=some .local∨(scope.names.lookup y.1=some .cell∧((cellsFrom (s.heap.objs.size+1) scope.names []).lookup y.1).isSome=true):=fun ⟨n,v⟩ hy=>by
  rcases S.par n (List.of_mem_zip hy).1 with q | q
  ·exact .inl q
  ·exact .inr ⟨q,PySem.W.cellsFrom_some _ _ _ (.inl q)⟩
 refine codeAny_call_function hr.depth (KX _ _ lk) rfl S.co S.gen rfl (PySem.W.codeRec_of KX hcd) (hb _ _ _ _ ?_)
 refine wpAny_newFunctionEnv_cells S.kind hkind fun env he s1 x=>?_
 subst he
 refine ⟨lim.keeps x.toInCall.keep,codeAny_func ?_⟩
 obtain ⟨t,ht,hq⟩:=hbody A outer s H vs Q E (hr.deeper _) hsp
 have I:Inv (WJ CX P w K mg base N qual scope f cdv A outer s H E) [] (Xw N vs) H s1:=Ybt S hr.hd e0 hl r x
 refine wpAny_mono (ht [] s1 (Xw N vs) H _ I hq) (fun fl s' hs=>?_) fun e s' hs=>hs
 have fin:∀ {σ':St} {H':Hp} {v:V} {u:Value},Inv (WJ CX P w K mg base N qual scope f cdv A outer s H E) [] σ' H' s'→Ys v u→Q v H'→CE outer P w H s Q u s' :=
  fun {σ' H' v u} J rv q=>⟨v,H',J.os,J.bare,J.base,J.hok,rv,q⟩
 cases fl with
 | ret u =>
  obtain ⟨v,σ',H',J,rv,q⟩:=hs
  exact fin J rv q
 | next =>
  obtain ⟨σ',H',J,q⟩:=hs
  exact fin (v:=V.non) (u:=Value.none) J rfl q
 | brk =>
  obtain ⟨_,_,_,q⟩:=hs
  exact False.elim q
 | cont =>
  obtain ⟨_,_,_,q⟩:=hs
  exact False.elim q
end L2
namespace L2
open PySem PySem.Spec PyProof.Rows
section
variable {X:Cx} {x:Str} {p pos:Pos} {e:Expr} {es:List Expr} {t:TA} {id T:String} {r:List V→Hp→VK→Prop}
def tCB (r:List V→Hp→VK→Prop) (t:TA):TE:=fun σ H Q=>t σ H fun vs H1=>r vs H1 Q
theorem Yci (hc:Xv X (.builtin id) r) (hg:Gl X x) (hm:X.mg x=none) (hv:bootBuiltins x=some (.builtin id)) (ha:PA X (e::es) t) (hn:x≠"__name__":=by decide) (hdb:(x==("__debug__":Str))=false:=by decide)
  (he:starEach (e::es) X.env=(false,eval e X.env)::starEach es X.env:=by rfl) (hpl:(backTo pos (starEach es X.env)).any (·.1)=false:=by rfl):PE X (.Call (.Name x p) (e::es) [] pos) (tCB r t):=by
 intro pins s σ H Q I h
 refine wpAny_Call_Name_kw (XN I hg hm hv ?_ hn hdb)
 exact PyProof.Rows.callWith_builtin1 (thn (ha pos pins s σ H _ I h) fun us s1 ⟨vs,H1,I1,r1,q1⟩=>hc pins s1 σ H1 vs us Q I1 r1 q1) he hpl
theorem Ybu (hc:Xv X (.type T) r) (hg:Gl X x) (hm:X.mg x=none) (hv:bootBuiltins x=some (.type T)) (ha:PA X (e::es) t) (hn:x≠"__name__":=by decide) (hdb:(x==("__debug__":Str))=false:=by decide)
  (he:starEach (e::es) X.env=(false,eval e X.env)::starEach es X.env:=by rfl) (hpl:(backTo pos (starEach es X.env)).any (·.1)=false:=by rfl):PE X (.Call (.Name x p) (e::es) [] pos) (tCB r t):=by
 intro pins s σ H Q I h
 refine wpAny_Call_Name_kw (XN I hg hm hv ?_ hn hdb)
 exact PyProof.Rows.callWith_type1 (thn (ha pos pins s σ H _ I h) fun us s1 ⟨vs,H1,I1,r1,q1⟩=>hc pins s1 σ H1 vs us Q I1 r1 q1) he hpl
end
end L2
namespace HT
open PySem PyProof.Rows
section
open PySem.SeqAt
open PySem.AutoSeq1 (wpAny_loadPart')
open PySem.MeetsSeq PySem.MeetsSeq2 PySem.MeetsSeq3
end
section
variable {prog:Program} {w:World} {A:Around} {E:Value→Shared→Prop} {s:Shared}
def sIx (n d:Nat):Option Int→Nat
 | none=>d
 | some v=>if v<0 then (v+(n:Int)).toNat else min v.toNat n
theorem sIx_nat (n d k:Nat):sIx n d (some (k:Int))=min k n:=by
 show (if (k:Int)<0 then ((k:Int)+(n:Int)).toNat else min (k:Int).toNat n)=min k n
 rw [if_neg (by omega),Int.toNat_natCast]
end
end HT
namespace L2
open PySem PySem.Spec PyProof.Rows
abbrev TO:=St→Hp→(Option Int→Hp→Prop)→Prop
def PO (X:Cx) (e:Option Expr) (t:TO):Prop :=
 ∀ (pins:List (Addr×Obj)) (s:Shared) (σ:St) (H:Hp) (Q:Option Int→Hp→Prop),Inv X pins σ H s→t σ H Q →
  wpAny (model X.prog X.w) X.A (evalPart e X.env) (fun u s'=>∃ o H',Inv X pins σ H' s'∧IsPart u o∧Q o H') X.xe s
def Ydq:TO:=fun _ H Q=>Q none H
def Yc3 (t:TE):TO:=fun σ H Q=>t σ H fun x H1=>∃ i,x = .int i∧Q (some i) H1
theorem YaH {ns:List Int}:∀ {us:List Value},Ym (ns.map V.int) us→IntsAre us ns:=by
 induction ns with
 | nil=>intro us r;rw [List.map_nil] at r;cases r;exact .nil
 | cons n ns ih =>
  intro us r
  rw [List.map_cons] at r
  cases r with
  | cons r1 r2 =>
   obtain ⟨t,e⟩:=r1
   subst e
   exact .cons n t (ih r2)
section
variable {X:Cx} {e:Expr} {te:TE} {lo hi:Option Expr} {tl th:TO} {pos p2:Pos}
theorem Q4 (h:PE X e te):PO X (some e) (Yc3 te):=by
 intro pins s σ H Q I hw
 rw [evalPart_some]
 refine thn (h pins s σ H _ I hw) fun u s1 ⟨x,H1,I1,r1,q1⟩=>?_
 obtain ⟨i,rfl,q⟩:=q1
 obtain ⟨t,rfl⟩:=r1
 exact ⟨some i,H1,I1,.int i t,q⟩
def SlR (X:Cx) (r:V→Option Int→Option Int→Hp→VK→Prop):Prop :=
 ∀ (pins:List (Addr×Obj)) (s:Shared) (σ:St) (H:Hp) (x:V) (v vl vu:Value) (lo hi:Option Int) (sl:Addr) (Q:VK),Inv X pins σ H s→Ys x v→s.heap.IsSliceOf sl vl vu .none→IsPart vl lo→IsPart vu hi→r x lo hi H Q →
  ∃ T id,typeLookup (.type T) "__getitem__"=pure (some (.builtin id))∧s.TypeIs v T∧wpAny (model X.prog X.w) X.A (getItem v (.ref sl)) (EP X pins σ Q) X.xe s
def tSl (r:V→Option Int→Option Int→Hp→VK→Prop) (te:TE) (tl th:TO):TE:=fun σ H Q=>te σ H fun x H1=>tl σ H1 fun l H2=>th σ H2 fun u H3=>r x l u H3 Q
theorem Ycj {r:V→Option Int→Option Int→Hp→VK→Prop} (hr:SlR X r) (he:PE X e te) (hl:PO X lo tl) (hu:PO X hi th):PE X (.Subscript e (.Slice lo hi none p2) pos) (tSl r te tl th):=by
 intro pins s σ H Q I h
 refine Subscript_ (thn (he pins s σ H _ I h) fun v s1 ⟨x,H1,I1,r1,q1⟩=>?_)
 refine wpAny_Slice (thn (hl pins s1 σ H1 _ I1 q1) fun vl s2 ⟨l,H2,I2,pl,q2⟩=>thn (hu pins s2 σ H2 _ I2 q2) fun vu s3 ⟨u,H3,I3,pu,q3⟩=>?_)
 rw [evalPart_none]
 refine wpAny_pure ?_
 have I4:Inv X pins σ H3 { s3 with heap:=s3.heap.push { cls := .type "slice",data := .fields #[vl,vu,.none] } }:=I3.kept (t':=s3.toks) fun b ob q=>Heap.get?_push_of_some _ q
 obtain ⟨T,id,hT,ht,hg⟩:=hr pins { s3 with heap:=s3.heap.push { cls := .type "slice",data := .fields #[vl,vu,.none] } } σ H3 x v vl vu l u s3.heap.objs.size Q I4 r1 (Heap.IsSliceOf.new ..) pl pu q3
 show wpAny (model X.prog X.w) X.A (subscriptTail e (.Slice lo hi none p2) v (.ref s3.heap.objs.size)) (EP X pins σ Q) X.xe { s3 with heap:=s3.heap.push { cls := .type "slice",data := .fields #[vl,vu,.none] } }
 exact tail_any (ops:=[.ref s3.heap.objs.size,v]) ht hT hg (by with_unfolding_all rfl)
def V9 (xs:List V) (lo hi:Option Int):List V:=(xs.drop (HT.sIx xs.length 0 lo)).take (HT.sIx xs.length xs.length hi - HT.sIx xs.length 0 lo)
theorem QK (xs:List V) (lo hi:Option Int):(V9 xs lo hi).length≤xs.length:=by
 unfold V9
 rw [List.length_take,List.length_drop]
 omega
end
end L2
namespace L2
open PySem PySem.Spec PyProof.Rows
def ixN (n:Nat) (i:Int):Option Nat:=if 0≤i then (if i<n then some i.toNat else none) else if -(n:Int)≤i then some (i+n).toNat else none
def atI {α:Type} (xs:List α) (i:Int):Option α:=(ixN xs.length i).bind fun j=>xs[j]?
theorem Ydr {n:Nat} {i:Int} {j:Nat} (h:ixN n i=some j):seqIndex? i n=some j∧j<n ∧ -(n:Int)≤i∧i<n:=by
 unfold ixN at h
 by_cases h0:0≤i
 ·rw [if_pos h0] at h
  by_cases h1:i<n
  ·rw [if_pos h1] at h
   have e:i.toNat=j:=Option.some.inj h
   exact ⟨by rw [seqIndex_of h0 h1,e],by omega,by omega,h1⟩
  ·rw [if_neg h1] at h;cases h
 ·rw [if_neg h0] at h
  by_cases h1 : -(n:Int)≤i
  ·rw [if_pos h1] at h
   have e:(i+n).toNat=j:=Option.some.inj h
   exact ⟨by rw [seqIndex_neg (by omega) h1,e],by omega,h1,by omega⟩
  ·rw [if_neg h1] at h;cases h
theorem Ua {α:Type} {xs:List α} {i:Int} {v:α} (h:atI xs i=some v):∃ j,seqIndex? i xs.length=some j∧xs[j]?=some v∧j<xs.length ∧ -(xs.length:Int)≤i∧i<xs.length:=by
 unfold atI at h
 cases e:ixN xs.length i with
 | none=>rw [e] at h;cases h
 | some j =>
  rw [e] at h
  obtain ⟨h1,h2,h3,h4⟩:=Ydr e
  exact ⟨j,h1,h,h2,h3,h4⟩
theorem Xm {α:Type} {xs:List α} {j:Nat} {v:α} (h:xs[j]?=some v):atI xs (j:Int)=some v:=by
 have hj:j<xs.length:=(List.getElem?_eq_some_iff.mp h).1
 have e:ixN xs.length (j:Int)=some j:=by
  unfold ixN
  rw [if_pos (by omega),if_pos (by omega)];simp
 unfold atI;rw [e];exact h
def Yds (b:Expr):Prop:=∀ o i,subscripted b false o i=operate [o,i] (getItem o i)
def IxR (X:Cx) (r:R2):Prop :=
 ∀ (value slice:Expr) (pins:List (Addr×Obj)) (s:Shared) (σ:St) (H:Hp) (x y:V) (v u:Value) (Q:VK),Inv X pins σ H s→Ys x v→Ys y u→r x y H Q →
  subscripted slice false v u=operate [v,u] (getItem v u)→wpAny (model X.prog X.w) X.A (subscriptTail value slice v u) (EP X pins σ Q) X.xe s
def MtR (X:Cx) (id:String) (r:V→List V→Hp→VK→Prop):Prop :=
 ∀ (pins:List (Addr×Obj)) (s:Shared) (σ:St) (H:Hp) (x:V) (xs:List V) (v:Value) (us:List Value) (Q:VK),Inv X pins σ H s→Ys x v→Ym xs us→r x xs H Q →
  wpAny (model X.prog X.w) X.A (call (.builtin id) (v::us)) (EP X pins σ Q) X.xe s
section
variable {X:Cx} {a b:Expr} {ta tb:TE} {pos:Pos}
theorem YA {r:R2} (hr:IxR X r) (ha:PE X a ta) (hb:PE X b tb) (hs:Yds b):PE X (.Subscript a b pos) (tOp r ta tb):=by
 intro pins s σ H Q I h
 exact Subscript_ (binT ha hb I h fun v u s2 x y H2 I2 rx ry q=>hr a b pins s2 σ H2 x y v u Q I2 rx ry q (hs _ _))
def rIxL (K:PySem.W.Frag):R2:=fun x y H Q=>∃ p xs i v,x = .ref p∧y = .int i∧SqL K H p xs∧atI xs i=some v∧Q v H
def rIxT (K:PySem.W.Frag):R2:=fun x y H Q=>∃ p xs i v,x = .ref p∧y = .int i∧SqT K H p xs∧atI xs i=some v∧Q v H
def rIxS:R2:=fun x y H Q=>∃ z i c,x = .str z∧y = .int i∧z.length≤sizeLine∧atI z.cps.toList i=some c∧Q (.str ⟨#[c]⟩) H
theorem YX:IxR X (rIxL X.K):=by
 intro value slice pins s σ H x y v u Q I rx ry h hs
 obtain ⟨p,xs,i,z,rfl,rfl,hq,he,q⟩:=h
 cases rx
 obtain ⟨t,rfl⟩:=ry
 obtain ⟨its,r,pl,hz⟩:=I.list hq
 obtain ⟨j,h1,h2,h3,h4,h5⟩:=Ua he
 obtain ⟨w,ew,rw'⟩:=r.get h2
 have hl:=r.length
 have hn:=W8
 have fin:EP X pins σ Q w s:=⟨z,H,I,rw',q⟩
 by_cases h0:0≤i
 ·have hj:i.toNat=j:=by
   rw [seqIndex_of h0 h5] at h1
   exact Option.some.inj h1
  exact item_listR pl.isList h0 (by omega) (by rw [hj];simpa using ew) fin hs
 ·have hj:(i+(its.toArray.size:Int)).toNat=j:=by
   rw [seqIndex_neg (by omega) h4] at h1
   rw [List.size_toArray,← hl]
   exact Option.some.inj h1
  exact subscriptTail_builtinR (x:=w) pl.isList.typeIs slot_list_getitem.lookup
   (wpAny_getItem_list_neg (Q:=fun r s'=>r=w∧EP X pins σ Q r s') pl.isList (by omega) (by rw [List.size_toArray]<;>omega) (by omega) (by rw [hj];simpa using ew) ⟨rfl,fin⟩) hs
theorem Y2:IxR X (rIxT X.K):=by
 intro value slice pins s σ H x y v u Q I rx ry h hs
 obtain ⟨p,xs,i,z,rfl,rfl,hq,he,q⟩:=h
 cases rx
 obtain ⟨t,rfl⟩:=ry
 obtain ⟨its,r,pl,hz⟩:=I.tuple hq
 obtain ⟨j,h1,h2,h3,h4,h5⟩:=Ua he
 obtain ⟨w,ew,rw'⟩:=r.get h2
 have hl:=r.length
 have hn:=W8
 have fin:EP X pins σ Q w s:=⟨z,H,I,rw',q⟩
 exact subscriptTail_builtinR (x:=w) pl.typeIs slot_tuple_getitem.lookup
  (getItem_tuple (j:=j) (Q:=fun r s'=>r=w∧EP X pins σ Q r s') pl (by omega) (by omega) (by rw [List.size_toArray,← hl];exact h1) (by simpa using ew) ⟨rfl,fin⟩) hs
theorem Ybv:IxR X rIxS:=by
 intro value slice pins s σ H x y v u Q I rx ry h hs
 obtain ⟨z,i,c,rfl,rfl,hz,he,q⟩:=h
 obtain ⟨t,rfl⟩:=rx
 obtain ⟨t',rfl⟩:=ry
 obtain ⟨j,h1,h2,h3,h4,h5⟩:=Ua he
 have hl:z.cps.toList.length=z.length:=by simp [Str.length]
 rw [hl] at h1 h4 h5
 have hn:=W8
 exact tail_any (typeIs_str s z t) slot_str_getitem.lookup (getItem_str (c:=c) (by
  have e1:decide (i < -(2^63:Int))=false:=decide_eq_false (by omega)
  have e2:decide (i≥2^63)=false:=decide_eq_false (by omega)
  rw [e1,e2,Bool.or_false]) (by rw [h1];simpa using h2) ⟨.str ⟨#[c]⟩,H,I.tok _,⟨_,rfl⟩,q⟩) hs
def rSetL:V→V→V→Hp→(Hp→Prop)→Prop:=fun o i v H Q=>∃ p xs k j,o = .ref p∧i = .int k∧H p=some (.lst xs)∧ixN xs.length k=some j∧Q (upd H p (.lst (xs.set j v)))
theorem U4 (lo hi:Option Int) (n:Nat):(sliceBounds lo hi none n).1=((HT.sIx n 0 lo:Nat):Int)∧(sliceBounds lo hi none n).2.1=((HT.sIx n n hi:Nat):Int)∧(sliceBounds lo hi none n).2.2=1:=by
 refine ⟨?_,?_,rfl⟩
 ·cases lo with
  | none=>simp [sliceBounds,HT.sIx]
  | some i =>
   simp only [sliceBounds,HT.sIx,Option.getD_none,show (1:Int)>0 by decide,if_true]
   by_cases h:i<0
   ·simp only [h,if_true]<;>omega
   ·simp only [h,if_false]<;>omega
 ·cases hi with
  | none=>simp [sliceBounds,HT.sIx]
  | some i =>
   simp only [sliceBounds,HT.sIx,Option.getD_none,show (1:Int)>0 by decide,if_true]
   by_cases h:i<0
   ·simp only [h,if_true]<;>omega
   ·simp only [h,if_false]<;>omega
theorem UG (its:List Value) (lo hi:Option Int):slicePick its.toArray lo hi none=((its.drop (HT.sIx its.length 0 lo)).take (HT.sIx its.length its.length hi - HT.sIx its.length 0 lo)).toArray:=by
 obtain ⟨h1,h2,h3⟩:=U4 lo hi its.toArray.size
 unfold slicePick
 rw [h1,h2,h3]
 simp only [sliceRange_one,pick_run,List.size_toArray]<;>rfl
def rSlL (K:PySem.W.Frag):V→Option Int→Option Int→Hp→VK→Prop:=fun x lo hi H Q=>∃ a xs,x = .ref a∧SqL K H a xs∧∀ p,H p=none→Q (.ref p) (upd H p (.lst (V9 xs lo hi)))
theorem Ydt:SlR X (rSlL X.K):=by
 intro pins s σ H x v vl vu lo hi sl Q I rx hs pl pu h
 obtain ⟨a,xs,rfl,hx,q⟩:=h
 cases rx
 obtain ⟨its,r,ht,hz⟩:=I.list hx
 have hlen:=r.length
 refine ⟨"list",_,slot_list_getitem.lookup,ht.isList.typeIs,?_⟩
 refine wpAny_getItem_list_slice ht.isList hs pl pu .none (by simp) ?_ (by rw [List.size_toArray]<;>omega)
 rw [UG,← hlen]
 refine ⟨.ref s.heap.objs.size,_,I.laid (t':=s.toks) (o := .lst (V9 xs lo hi)) (fun b ob q=>Heap.get?_push_of_some _ q) (Nat.le_refl _) ?_,rfl,q _ (I.hok.fresh (Nat.le_refl _))⟩
 exact ⟨Nat.le_trans (QK xs lo hi) hz,_,0,(r.drop (HT.sIx xs.length 0 lo)).take (HT.sIx xs.length xs.length hi - HT.sIx xs.length 0 lo),Heap.get?_push_size _ rfl⟩
def WB:V→Bool
 | .non=>true
 | .bl _=>true
 | .int _=>true
 | .str _=>true
 | _=>false
def eqV:V→V→Bool
 | .non,.non=>true
 | .bl a,.bl b=>a==b
 | .bl a,.int b=>(if a then 1 else 0)==b
 | .int a,.bl b=>a==(if b then 1 else 0)
 | .int a,.int b=>a==b
 | .str a,.str b=>a==b
 | _,_=>false
theorem Yea {A:Around} {s:Shared} {y x:V} {u v:Value} (ry:Ys y u) (rx:Ys x v) (fy:WB y=true) (fx:WB x=true):SeqAt.EqAt A s u v (eqV y x):=by
 cases y with
 | non =>
  cases ry
  cases x with
  | non=>cases rx;exact SeqAt.EqAt.same _
  | bl b=>cases rx;exact SeqAt.EqAt.none_bool b
  | int b=>obtain ⟨t,rfl⟩:=rx;exact SeqAt.EqAt.none_int b t
  | str b=>obtain ⟨t,rfl⟩:=rx;exact SeqAt.EqAt.none_str b t
  | _=>exact absurd (show false=true from fx) Bool.false_ne_true
 | bl a =>
  cases ry
  cases x with
  | non=>cases rx;exact SeqAt.EqAt.bool_none a
  | bl b=>cases rx;exact SeqAt.EqAt.bool_bool a b
  | int b=>obtain ⟨t,rfl⟩:=rx;exact SeqAt.EqAt.bool_int a b t
  | str b=>obtain ⟨t,rfl⟩:=rx;exact SeqAt.EqAt.bool_str a b t
  | _=>exact absurd (show false=true from fx) Bool.false_ne_true
 | int a =>
  obtain ⟨t',rfl⟩:=ry
  cases x with
  | non=>cases rx;exact SeqAt.EqAt.int_none a t'
  | bl b=>cases rx;exact SeqAt.EqAt.int_bool a t' b
  | int b=>obtain ⟨t,rfl⟩:=rx;exact SeqAt.EqAt.int_int a t' b t
  | str b=>obtain ⟨t,rfl⟩:=rx;exact SeqAt.EqAt.int_str a t' b t
  | _=>exact absurd (show false=true from fx) Bool.false_ne_true
 | str a =>
  obtain ⟨t',rfl⟩:=ry
  cases x with
  | non=>cases rx;exact SeqAt.EqAt.str_none a t'
  | bl b=>cases rx;exact SeqAt.EqAt.str_bool a t' b
  | int b=>obtain ⟨t,rfl⟩:=rx;exact SeqAt.EqAt.str_int a t' b t
  | str b=>obtain ⟨t,rfl⟩:=rx;exact SeqAt.EqAt.str_str a t' b t
  | _=>exact absurd (show false=true from fx) Bool.false_ne_true
 | _=>exact absurd (show false=true from fy) Bool.false_ne_true
def eqU (x:V) (u:Value):Bool:=match u with
 | .none=>eqV .non x
 | .bool b=>eqV (.bl b) x
 | .int i _=>eqV (.int i) x
 | .str z _=>eqV (.str z) x
 | _=>false
theorem Ybw {x y:V} {u:Value} (r:Ys y u) (f:WB y=true):eqU x u=eqV y x:=by
 cases y with
 | non=>cases r;rfl
 | bl b=>cases r;rfl
 | int i=>obtain ⟨t,rfl⟩:=r;rfl
 | str z=>obtain ⟨t,rfl⟩:=r;rfl
 | _=>exact absurd (show false=true from f) Bool.false_ne_true
theorem Ub {x:V}:∀ {xs:List V} {us:List Value},Ym xs us→xs.all WB=true→us.any (eqU x)=xs.any fun y=>eqV y x
 | _,_,.nil,_=>rfl
 | y::xs,u::us,.cons r t,f=>by
  rw [List.all_cons,Bool.and_eq_true] at f
  rw [List.any_cons,List.any_cons,Ybw r f.1,Ub t f.2]
theorem Vx {A:Around} {s:Shared} {x:V} {v:Value} (rx:Ys x v) (fx:WB x=true):∀ {xs:List V} {us:List Value},Ym xs us→xs.all WB=true→∀ u∈us,SeqAt.EqAt A s u v (eqU x u)
 | _,_,.nil,_=>fun u hu=>by cases hu
 | y::xs,u::us,.cons r t,f=>fun u' hu=>by
  rw [List.all_cons,Bool.and_eq_true] at f
  rcases List.mem_cons.mp hu with rfl | hu
  ·rw [Ybw r f.1];exact Yea r rx f.1 fx
  ·exact Vx rx fx t f.2 u' hu
def inV (x:V) (xs:List V):Bool:=xs.any fun y=>eqV y x
def rIn (K:PySem.W.Frag) (neg:Bool):R2:=fun x y H Q=>∃ p xs,y = .ref p∧(SqL K H p xs∨SqT K H p xs)∧WB x=true∧xs.all WB=true∧Q (.bl (if neg then !inV x xs else inV x xs)) H
theorem Ybx:OpR X (compareOp .In) (rIn X.K false):=by
 intro pins s σ H x y v u Q I rx ry h
 obtain ⟨p,xs,rfl,hq,fx,fs,q⟩:=h
 cases ry
 rcases hq with hq | hq
 ·obtain ⟨its,r,pl,hz⟩:=I.list hq
  refine SeqAt.in_listAt (eqU x) pl.isList (fun w hw=>Vx rx fx r fs w (by simpa using hw)) ⟨.bl _,H,I,rfl,?_⟩
  rw [show its.toArray.any (eqU x)=its.any (eqU x) by simp,Ub r fs]
  exact q
 ·obtain ⟨its,r,pl,hz⟩:=I.tuple hq
  refine SeqAt.in_tupleAt (eqU x) pl (fun w hw=>Vx rx fx r fs w (by simpa using hw)) ⟨.bl _,H,I,rfl,?_⟩
  rw [show its.toArray.any (eqU x)=its.any (eqU x) by simp,Ub r fs]
  exact q
theorem Yx:Xv X (.builtin "len") (fun xs H Q=>∃ p ys,xs=[.ref p]∧(SqL X.K H p ys∨SqT X.K H p ys)∧Q (.int ys.length) H):=by
 intro pins s σ H xs us Q I r h
 obtain ⟨p,ys,rfl,hq,q⟩:=h
 obtain ⟨u,rfl,rx⟩:=Wb r
 cases rx
 have hn:=W8
 rcases hq with hq | hq
 ·obtain ⟨its,r',pl,hz⟩:=I.list hq
  have hlen:=r'.length
  exact Calls.call_len_list pl.isList (by simp only [List.size_toArray]<;>omega) ⟨.int ys.length,H,I.tok _,⟨s.toks+1,by rw [List.size_toArray,hlen]⟩,q⟩
 ·obtain ⟨its,r',pl,hz⟩:=I.tuple hq
  have hlen:=r'.length
  exact len_tuple pl (by simp only [List.size_toArray]<;>omega) ⟨.int ys.length,H,I.tok _,⟨s.toks+1,by rw [List.size_toArray,hlen]⟩,q⟩
theorem Wq:Xv X (.builtin "len") (fun xs H Q=>∃ z,xs=[.str z]∧z.length≤sizeLine∧Q (.int z.length) H):=by
 intro pins s σ H xs us Q I r h
 obtain ⟨z,rfl,hz,q⟩:=h
 obtain ⟨u,rfl,t,rfl⟩:=Wb r
 have hn:=W8
 exact len_str (by omega) ⟨.int z.length,H,I.tok _,⟨_,rfl⟩,q⟩
theorem U5:Xv X (.type "list") (fun xs H Q=>∃ p ys,xs=[.ref p]∧(SqL X.K H p ys∨SqT X.K H p ys)∧∀ l,H l=none→Q (.ref l) (upd H l (.lst ys))):=by
 intro pins s σ H xs us Q I r h
 obtain ⟨p,ys,rfl,hq,q⟩:=h
 obtain ⟨u,rfl,rx⟩:=Wb r
 cases rx
 have fin:∀ (its:List Value),Ym ys its→ys.length≤sizeLine→∀ (h':Heap) (c':Nat),(∀ b o',s.heap.get? b=some o'→h'.get? b=some o') →
   h'.get? s.heap.objs.size=some { cls := .type "list",dict:=none,data := .seq its.toArray c',slots:=#[] }→EP X pins σ Q (.ref s.heap.objs.size) { s with heap:=h' }:=fun its r' hz h' c' kp e =>
  ⟨.ref s.heap.objs.size,_,I.laid (t':=s.toks) kp (Nat.le_refl _) (show Yz X.prog X.w _ h' _ (.lst ys) from ⟨hz,its,c',r',e⟩),rfl,q _ (I.hok.fresh (Nat.le_refl _))⟩
 rcases hq with hq | hq
 ·obtain ⟨its,r',pl,hz⟩:=I.list hq
  have hlen:=r'.length
  obtain ⟨o,ho,hc,n,hd⟩:=pl.isList
  exact call_list_seq p (.inl rfl) ho hc hd (fun h' c' kp e=>fin its r' hz h' c' kp e) (by simp only [List.size_toArray]<;>omega)
 ·obtain ⟨its,r',pl,hz⟩:=I.tuple hq
  have hlen:=r'.length
  obtain ⟨o,ho,hc,n,hd⟩:=pl
  exact call_list_seq p (.inr rfl) ho hc hd (fun h' c' kp e=>fin its r' hz h' c' kp e) (by simp only [List.size_toArray]<;>omega)
theorem W1:Xv X (.type "tuple") (fun xs H Q=>∃ p ys,xs=[.ref p]∧((SqL X.K H p ys∧∀ l,H l=none→Q (.ref l) (upd H l (.tup ys)))∨(SqT X.K H p ys∧Q (.ref p) H))):=by
 intro pins s σ H xs us Q I r h
 obtain ⟨p,ys,rfl,h⟩:=h
 obtain ⟨u,rfl,rx⟩:=Wb r
 cases rx
 rcases h with ⟨hq,q⟩ | ⟨hq,q⟩
 ·obtain ⟨its,r',pl,hz⟩:=I.list hq
  have hlen:=r'.length
  refine call_tuple_list pl.isList (fun h' kp=>?_) (by simp only [List.size_toArray]<;>omega)
  have I1:Inv X pins σ H { s with heap:=h' }:=I.kept (t':=s.toks) kp
  have I2:Inv X pins σ (upd H h'.objs.size (.tup ys)) { s with heap:=h'.push { cls := .type "tuple",data := .seq its.toArray } } :=
   I1.laid (t':=s.toks) (fun b o e=>Heap.get?_push_of_some _ e) (Nat.le_refl _) (show Yz X.prog X.w _ _ _ (.tup ys) from ⟨hz,its,r',IsTup.new _ _⟩)
  exact ⟨.ref h'.objs.size,_,I2,rfl,q _ (I1.hok.fresh (Nat.le_refl _))⟩
 ·obtain ⟨its,r',pl,hz⟩:=I.tuple hq
  exact call_tuple_same pl ⟨.ref p,H,I,rfl,q⟩
def tyV (K:PySem.W.Frag) (T:String) (x:V) (H:Hp):Prop:=match x with
 | .str _=>T="str"
 | .int _=>T="int"
 | .ref p=>(T="list"∧∃ xs,SqL K H p xs)∨(T="tuple"∧∃ o,K.lookup p=some o∧o.cls = .type "tuple"∧o.dict=none) ∨
   (T="dict"∧((∃ kvs,H p=some (.dK kvs))∨∃ kvs,H p=some (.dT kvs)))∨(T="set"∧∃ S n,H p=some (.set S n))
 | _=>False
theorem Yby {pins:List (Addr×Obj)} {σ:St} {H:Hp} {s:Shared} {T:String} {x:V} {v:Value} (I:Inv X pins σ H s) (r:Ys x v) (ty:tyV X.K T x H) :
  s.TypeIs v T∧∀ a,v = .ref a→∃ ob,s.heap.get? a=some ob∧ob.dict=none:=by
 cases x with
 | str z =>
  obtain ⟨t,rfl⟩:=r
  cases (show T="str" from ty)
  exact ⟨typeIs_str s z t,fun _ e=>nomatch e⟩
 | int i =>
  obtain ⟨t,rfl⟩:=r
  cases (show T="int" from ty)
  exact ⟨typeIs_int s i t,fun _ e=>nomatch e⟩
 | ref p =>
  cases r
  rcases ty with ⟨rfl,xs,hq⟩ | ⟨rfl,o,hk,hc,hd⟩ | ⟨rfl,hk⟩ | ⟨rfl,S,n,hk⟩
  ·obtain ⟨its,_,pl,_⟩:=I.list hq
   refine ⟨pl.isList.typeIs,fun a e=>?_⟩
   cases e
   obtain ⟨o,n,e,c,hd,_⟩:=pl
   exact ⟨o,e,hd⟩
  ·refine ⟨⟨o,I.kIn p o hk,hc⟩,fun a e=>?_⟩
   cases e
   exact ⟨o,I.kIn _ o hk,hd⟩
  ·have z:∃ o,s.heap.get? p=some o∧o.ExactDict:=by
    rcases hk with ⟨kvs,hk⟩ | ⟨kvs,hk⟩
    ·obtain ⟨_,_,_,_,o,_,_,e,ex,_⟩:=I.hok p _ hk
     exact ⟨o,e,ex⟩
    ·obtain ⟨_,_,_,_,o,_,_,e,ex,_⟩:=I.hok p _ hk
     exact ⟨o,e,ex⟩
   obtain ⟨o,e,ex⟩:=z
   refine ⟨⟨o,e,ex.1⟩,fun a e2=>?_⟩
   cases e2
   exact ⟨o,e,ex.2.1⟩
  ·obtain ⟨o,_,_,_,e,ex,_⟩:=I.hok p _ hk
   refine ⟨⟨o,e,ex.1⟩,fun a e2=>?_⟩
   cases e2
   exact ⟨o,e,ex.2.1⟩
 | _=>exact False.elim ty
def tBM0 (K:PySem.W.Frag) (T:String) (r:V→List V→Hp→VK→Prop) (to:TE):TE:=fun σ H Q=>to σ H fun x H1=>tyV K T x H1∧r x [] H1 Q
def tBM (K:PySem.W.Frag) (T:String) (r:V→List V→Hp→VK→Prop) (to:TE) (t:TA):TE:=fun σ H Q=>to σ H fun x H1=>tyV K T x H1∧t σ H1 fun xs H2=>r x xs H2 Q
variable {o e:Expr} {es:List Expr} {to:TE} {t:TA} {name:Str} {apos cpos:Pos} {T id:String} {r:V→List V→Hp→VK→Prop}
theorem Yeb (pa:PlainAttrs T) (slot:Slot T name id) (hty:typeOf (.builtin id)=pure (.type "method_descriptor")) (hm:MtR X id r) (ho:PE X o to)
  (hbase:attributeBase o name X.env (eval o X.env)=eval o X.env) (hline:(apos.endLine==cpos.line)=true):PE X (.Call (.Attribute o name apos) [] [] cpos) (tBM0 X.K T r to):=by
 intro pins s σ H Q I h
 refine wpAny_Call_method0_late hbase hline (thn (ho pins s σ H _ I h) fun v s1 ⟨x,H1,I1,r1,ty,q1⟩=>?_)
 obtain ⟨h1,h2⟩:=Yby I1 r1 ty
 exact ⟨T,id,pa,slot,hty,h1,h2,Calls.callWith_builtin rfl (PySem.evalArgs_none (hm pins s1 σ H1 x [] v [] Q I1 r1 .nil q1))⟩
theorem Xx (pa:PlainAttrs T) (slot:Slot T name id) (hty:typeOf (.builtin id)=pure (.type "method_descriptor")) (hm:MtR X id r) (ho:PE X o to) (ha:PA X (e::es) t)
  (hbase:attributeBase o name X.env (eval o X.env)=eval o X.env)
  (hfew:((backTo cpos (starEach (e::es) X.env)).all (fun x => !x.1)&&(backToKw cpos (keywordEach [] X.env)).all (fun x=>x.1.isSome)
   && decide ((e::es).length+([]:List Keyword).length+(if ([]:List Keyword).isEmpty then 0 else 1)<30))=true)
  (hline:(apos.endLine==cpos.line)=true) (hs:starEach (e::es) X.env=(false,eval e X.env)::starEach es X.env) (hplain:(backTo cpos (starEach es X.env)).any (·.1)=false) :
  PE X (.Call (.Attribute o name apos) (e::es) [] cpos) (tBM X.K T r to t):=by
 intro pins s σ H Q I h
 refine wpAny_Call_method_late hbase hfew hline rfl (thn (ho pins s σ H _ I h) fun v s1 ⟨x,H1,I1,r1,ty,q1⟩=>?_)
 obtain ⟨h1,h2⟩:=Yby I1 r1 ty
 refine ⟨T,id,pa,slot,hty,h1,h2,?_⟩
 have hA:=ha cpos pins s1 σ H1 _ I1 q1
 rw [hs] at hA ⊢
 refine Calls.callWith_builtin (by show (false||(backTo cpos (starEach es X.env)).any (·.1))=false;rw [hplain]<;>rfl) (Calls.evalArgs_plain ?_)
 exact thn hA fun us s2 ⟨vs,H2,I2,r2,q2⟩=>hm pins s2 σ H2 x vs v us Q I2 r1 r2 q2
/- xs.append(e),list.index on a module's tuple .. are MtR facts of 06m -/
end
end L2
namespace L2
open PySem PySem.Spec PyProof.Rows
def MtM (X:Cx) (id:String) (r:V→List V→Hp→VK→Prop):Prop :=
 ∀ (pins:List (Addr×Obj)) (s:Shared) (σ:St) (H:Hp) (x:V) (xs:List V) (v:Value) (us:List Value) (Q:VK),Inv X pins σ H s→Ys x v→Ym xs us→r x xs H Q →
  wpAny (model X.prog X.w) X.A (call (.builtin id) (v::us)) (EP X pins σ Q) X.xe s
theorem Ym.one:∀ {x:V} {us:List Value},Ym [x] us→∃ u,us=[u]∧Ys x u
 | _,_,.cons r .nil=>⟨_,rfl,r⟩
theorem Ym.zero:∀ {us:List Value},Ym [] us→us=[]
 | _,.nil=>rfl
theorem Ym.reverse {xs:List V} {us:List Value} (h:Ym xs us):Ym xs.reverse us.reverse:=by
 induction h with
 | nil=>exact .nil
 | cons r t ih=>rw [List.reverse_cons,List.reverse_cons];exact Ym.append ih (.cons r .nil)
section
variable {X:Cx} {pins:List (Addr×Obj)} {σ:St} {H:Hp} {s:Shared} {l b:Addr} {xs ys zs:List V}
theorem Inv.lset {its its':List Value} {n:Nat} {f:Array Value→Array Value} {t':Nat} (I:Inv X pins σ H s) (hH:H l=some (.lst xs))
  (e:s.heap.get? l=some { cls := .type "list",data := .seq its.toArray n }) (hf:f its.toArray=its'.toArray) (hv:Ym ys its') (hz:ys.length≤sizeLine) :
  Inv X pins σ (upd H l (.lst ys)) { s with heap:=s.heap.update l (Obj.mapSeq f),toks:=t' }:=by
 have q:=PySem.IsL.update e f
 rw [hf] at q
 refine I.write (x:=l) (e:=l) (by rw [hH];exact trivial) (.inl rfl) (fun b' u hb hu=>(Heap.get?_update_other s.heap (Obj.mapSeq f) (Ne.symm hb)).trans hu) ⟨_,q⟩ ?_
 exact ⟨hz,its',_,hv,q⟩
theorem Inv.lnew {its:List Value} {t':Nat} (I:Inv X pins σ H s) (hv:Ym ys its) (hz:ys.length≤sizeLine) :
  Inv X pins σ (upd H s.heap.objs.size (.lst ys)) { s with heap:=s.heap.push { cls := .type "list",data := .seq its.toArray },toks:=t' } :=
 I.laid (fun _ _ q=>Heap.get?_push_of_some _ q) (Nat.le_refl _) ⟨hz,its,0,hv,Heap.get?_push_size _ rfl⟩
theorem Inv.lstM (I:Inv X pins σ H s) (hH:H l=some (.lst xs)):xs.length≤sizeLine∧∃ (its:List Value) (n:Nat),Ym xs its∧xs.length=its.length∧s.heap.get? l=some { cls := .type "list",data := .seq its.toArray n }:=by
 obtain ⟨z,its,n,r,e⟩:=I.hok l _ hH
 exact ⟨z,its,n,r,r.length,e⟩
theorem Yck {n:Nat} (h:n≤sizeLine):Builtin.List.listTooLong n=false:=by
 unfold Builtin.List.listTooLong
 exact decide_eq_false (by omega)
end
section
variable {X:Cx}
def Q5:V→List V→Hp→VK→Prop:=fun x vs H Q=>∃ l xs y,x = .ref l∧vs=[y]∧H l=some (.lst xs)∧xs.length<sizeLine∧Q .non (upd H l (.lst (xs++[y])))
theorem Y4:MtM X "list.append" Q5:=by
 intro pins s σ H x vs v us Q I rx rv h
 obtain ⟨l,xs,y,rfl,rfl,hH,hz,q⟩:=h
 cases rx
 obtain ⟨u,rfl,ru⟩:=rv.one
 obtain ⟨z,its,n,r,hl,e⟩:=I.lstM hH
 refine call_meets F.slot_list_append ⟨_,e,rfl⟩ F.entry_list_append (F.args_list_append_2 _ _) (PySem.list_append l its.toArray n u (by rw [List.size_toArray];omega)) ⟨e,?_⟩
 refine ⟨.non,_,I.lset (its':=its++[u]) hH e (by simp) (r.append (.cons ru .nil)) ?_,rfl,q⟩
 rw [List.length_append,List.length_singleton]
 omega
def Ydu:V→List V→Hp→VK→Prop:=fun x vs H Q=>∃ l b xs zs,x = .ref l∧vs=[.ref b]∧H l=some (.lst xs)∧H b=some (.lst zs)∧xs.length+zs.length≤sizeLine∧Q .non (upd H l (.lst (xs++zs)))
theorem Ybz:MtM X "list.extend" Ydu:=by
 intro pins s σ H x vs v us Q I rx rv h
 obtain ⟨l,b,xs,zs,rfl,rfl,hH,hB,hz,q⟩:=h
 cases rx
 obtain ⟨u,rfl,ru⟩:=rv.one
 cases ru
 obtain ⟨z,its,n,r,hl,e⟩:=I.lstM hH
 obtain ⟨z2,its2,n2,r2,hl2,e2⟩:=I.lstM hB
 have hsz:its.toArray.size+its2.toArray.size≤sizeLine:=by rw [List.size_toArray,List.size_toArray];omega
 have hlong:¬ (!its.toArray.isEmpty&&Builtin.List.listTooLong (its.toArray.size+its2.toArray.size))=true:=by
  rw [Yck hsz,Bool.and_false]
  exact Bool.false_ne_true
 refine call_meets F.slot_list_extend ⟨_,e,rfl⟩ F.entry_list_extend (F.args_list_extend_2 _ _)
  (AutoSeq1.list_extend_list_list_0 l its.toArray n b its2.toArray n2 hlong (by rw [List.size_toArray];omega) (by omega)) ⟨e,e2,?_⟩
 refine ⟨.non,_,I.lset (its':=its++its2) hH e (by simp) (r.append r2) ?_,rfl,q⟩
 rw [List.length_append]
 omega
def U6:V→List V→Hp→VK→Prop:=fun x vs H Q=>∃ l xs,x = .ref l∧vs=[]∧H l=some (.lst xs)∧Q .non (upd H l (.lst xs.reverse))
theorem YaI:MtM X "list.reverse" U6:=by
 intro pins s σ H x vs v us Q I rx rv h
 obtain ⟨l,xs,rfl,rfl,hH,q⟩:=h
 cases rx
 have hus:=rv.zero
 subst hus
 obtain ⟨z,its,n,r,hl,e⟩:=I.lstM hH
 refine call_meets F.slot_list_reverse ⟨_,e,rfl⟩ F.entry_list_reverse (F.args_list_reverse_1 _) (AutoSeq1.list_reverse_list_0 l its.toArray n (by rw [List.size_toArray];omega)) ⟨e,?_⟩
 refine ⟨.non,_,I.lset (its':=its.reverse) hH e (by simp) r.reverse ?_,rfl,q⟩
 rw [List.length_reverse]
 omega
def rCat:R2:=fun x y H Q=>∃ l b xs zs,x = .ref l∧y = .ref b∧H l=some (.lst xs)∧H b=some (.lst zs)∧xs.length+zs.length≤sizeLine∧∀ p,H p=none→Q (.ref p) (upd H p (.lst (xs++zs)))
end
section
variable {prog:Program} {w:World} {A:Around} {E:Value→Shared→Prop} {s:Shared}
end
section
variable {X:Cx}
end
end L2
namespace Att
open PySem PySem.W PySem.Calls PyProof.Rows
theorem VP {P:Params} {h:Heap}:∀ (ns:List Int) (vs:List Value),WellAll P h vs (ns.map WData.int)→IntsAre vs ns:=by
 intro ns
 induction ns with
 | nil =>
  intro vs w
  rw [List.map_nil] at w
  cases w
  exact .nil
 | cons n ns ih =>
  intro vs w
  rw [List.map_cons] at w
  cases w with
  | cons a b =>
   cases a
   exact .cons _ _ (ih _ b)
theorem YbA {l:OpenLaw} {n:Nat} (hn:l.most=some n) {P:Params} {h:Heap} {args:List WData} {vals:List Value}
  (hpre:l.row.toRowW.claim.pre args=true) (hwl:WellAll P h vals args) :
  ∃ a vs ns,vals=[Value.ref a]∧args=[WData.list (ns.map WData.int)]∧h.get? a=some { cls := .type "list",data := .seq vs.toArray }∧IntsAre vs ns∧ns.length≤n:=by
 have hsh:WShape.hasAll [] args [.list .int]=true:=(pre_splitW hpre).1
 have hc:l.pre.holds [] { args:=args }=true:=(pre_splitW hpre).2
 obtain ⟨d,r,rfl,h1,h2⟩:=hasAllW_cons hsh
 obtain rfl:=hasAllW_nil h2
 obtain ⟨xs,rfl,h3⟩:=hasW_list h1
 obtain ⟨ns,rfl⟩:=items_int h3
 have hlen:ns.length≤n:=by
  unfold OpenLaw.pre at hc
  have h4:(WTm.not (.lt (.lit (.int (n:Int))) (.len (.arg 0)))).holds [] { args:=[.list (ns.map .int)] }=true:=by
   have h4:=(holds_andW hc).1
   rw [hn] at h4
   exact h4
  have h5:=condW_of h4 (w_not (w_lt w_lit (w_len_list (w_arg rfl))))
  rw [List.length_map] at h5
  refine Nat.le_of_not_lt fun q=>?_
  have q':(n:Int)<((ns.length:Nat):Int):=by omega
  first
   | (rw [decide_eq_true q'] at h5;exact absurd h5 (by decide))
   | (simp at h5;omega)
 cases hwl with
 | cons w1 w2 =>
  cases w2
  cases w1 with
  | list ho hall=>exact ⟨_,_,ns,rfl,rfl,ho,VP ns _ hall,hlen⟩
theorem YbB (l:OpenLaw) (args:List WData):l.row.toRowW.claim.post args (.bool true) args=true :=
 postW_of (r:=l.row.toRowW) (X:=(true==true))
  (show WShape.has [] (.bool true) .bool=true by first | rfl | decide | simp [WShape.has,WShape.arms,WShape.armsAll])
  (show (WTm.eq .res (.lit (.bool true))).value [] { args:=args,res:=some (.bool true),after:=args }=some (.bool (true==true)) from w_eq_bool (w_res rfl) w_lit) rfl
theorem attach_call {l:OpenLaw} {n:Nat} {q:Program} {loose:List Str} {XP:(Str→Option Value)→Heap→Prop} {YP:World→Heap→Prop} {d:DefRec}
  (hn:l.most=some n) (hdf:d.params.defaults=[])
  (call:∀ (w:World) (s₀ s₁:Shared) (mg mb:Str→Option Value) (fa:Addr) (o:Obj) (pm cd doc:Value) (a:Addr) (vs:List Value) (ns:List Int),
   Ground q loose [] XP w s₀ mg mb s₁.heap→YP w s₁.heap →
   s₁.heap.get? fa=some o→o.data = .func (docDef d.name d.params d.body d.scope pm cd doc)→s₁.heap.CodeRec cd d.name→mg d.name=some (.ref fa) →
   s₁.heap.get? a=some { cls := .type "list",data := .seq vs.toArray }→IntsAre vs ns→ns.length≤n→s₁.gens=#[] →
   codeAny (model l.prog w) callerA (.call (.ref fa) ⟨[.ref a],[]⟩) (fun r s'=>r = .ok (.ret (.bool true))∧OldK s₁.heap s'.heap∧s'.os=s₁.os∧AllBare s'.gens) s₁) :
  WalkO q loose XP YP l.row.toRowW d [] (fun f vs=>PySem.call f vs):=by
 intro w s₀ s₁ mg mb G Y fa o pm cd doc dV kV ho hd hcd hD hmg hg args vals as hpre hlay hrd hwl hlo
 obtain rfl:dV = .none:=Dflts.none hD hdf
 obtain rfl:kV = .none:=Dflts.noKw hD
 obtain ⟨a,vs,ns,rfl,rfl,hobj,hints,hlen⟩:=YbA hn hpre hwl
 refine enter_call (codeAny_mono (call w s₀ s₁ mg mb fa o pm cd doc a vs ns G Y ho (fd_plain hd) hcd hmg hobj hints hlen hg) fun r s' hq=>?_)
 obtain ⟨rfl,h2,h3,h4⟩:=hq
 exact ⟨.inl ⟨.bool true,.bool true,[],rfl,fun _=>rfl,.bool true,YbB l _,fun _=>⟨List.Pairwise.nil,fun _ hm=>(nomatch hm)⟩⟩,h2,h3,h4⟩
section
variable {prog:Program} {w:World} {A:Around} {E:Value→Shared→Prop} {s:Shared} {K:Frag}
def ledger (h:Heap) (L d:Addr):List (Addr×Obj):=(List.range h.objs.size).filterMap fun a=>if a=L∨a=d then none else (h.get? a).map fun o=>(a,o)
end
end Att
namespace L2
open PySem PySem.Spec PyProof.Rows
theorem Uw:∀ {vs:List Value} {ns:List Int},IntsAre vs ns→Ym (ns.map V.int) vs
 | _,_,.nil => .nil
 | _,_,.cons n t h => .cons ⟨t,rfl⟩ (Uw h)
end L2
namespace L2
open PySem PySem.Spec PyProof.Rows
end L2
namespace L2
open PySem PySem.Spec PyProof.Rows
def YC (s:Stmt) (j:Nat):Stmt:=match s with
 | .ClassDef _ _ _ body _ _ _ _ _ _ _=>body.getD j (.Pass ⟨0,0,0,0⟩)
 | _ => .Pass ⟨0,0,0,0⟩
def YN (s:Stmt):Arguments:=match s with
 | .FunctionDef _ a _ _ _ _ _ _ _ _=>a
 | _=>{ posonlyargs:=[],args:=[],vararg:=none,kwonlyargs:=[],kw_defaults:=[],kwarg:=none,defaults:=[] }
def Yy (s:Stmt):List Stmt:=match s with
 | .FunctionDef _ _ b _ _ _ _ _ _ _=>b
 | _=>[]
def Yi (s:Stmt):Scope:=match s with
 | .FunctionDef _ _ _ _ _ _ sc _ _ _=>sc
 | _=>{ kind := .function,names:=[],isGenerator:=false,isCoroutine:=false }
abbrev CX0:CXT:=fun _ _ _ _ _ _=>False
abbrev E0:XK:=fun _ _ _=>False
theorem Vn {X:Cx}:XB CX0 X E0:=fun _ _ _ _ _ _ _ h=>h.elim
structure Fun (K:PySem.W.Frag) (x qual:Str) (st:Stmt) (f:Addr) (fd:FuncData):Prop where
 ex:∃ (oc:Value) (od:Option Addr) (kV doc pm:Value) (an:Option Addr) (cdv ct:Value) (osl:Array (Option Value)),
  fd=PySem.W.fnOf x qual (YN st) (Yy st) (Yi st) .none kV doc pm an cdv ct∧K.lookup f=some ⟨oc,od,.func fd,osl⟩∧PySem.W.codeIn K cdv qual=true
 kp:PySem.W.keepIn K (.ref f)=true
section
variable {P:Program} {w:World} {K:PySem.W.Frag} {mg:Str→Option Value} {base:Heap}
theorem Fun.ok {x qual:Str} {st:Stmt} {f:Addr} {fd:FuncData} {N ps:List Str} {k:Nat} {sp:Sp} (F:Fun K x qual st f fd) (S:FnScope N ps (Yi st)) (len:∀ vs H Q E,sp vs H Q E→vs.length=ps.length)
  (hbody:∀ (cdv:Value) (A:Around) (outer:List Env) (s:Shared) (H:Hp) (vs:List V) (Q:VK) (E:XK),Room k (A.deeper (envOfC qual (Yi st) s.heap.objs.size f cdv))→sp vs H Q E →
   ∃ t,PSs (WJ CX0 P w K mg base N qual (Yi st) f cdv A outer s H E).nox (Yy st) t∧t { nx:=fun _ H'=>Q .non H',rt:=Q } (Xw N vs) H):FnOk P w K mg base CX0 (k+1) f fd ps sp:=by
 obtain ⟨oc,od,kV,doc,pm,an,cdv,ct,osl,rfl,lk,hcd⟩:=F.ex
 refine UO lk hcd S len fun A outer s H vs Q E hr hsp=>?_
 obtain ⟨t,h,q⟩:=hbody cdv A outer s H vs Q E hr hsp
 exact ⟨t,h.nox,q⟩
theorem Fun.binds {x qual:Str} {st:Stmt} {f:Addr} {fd:FuncData} {ps:List Str} (F:Fun K x qual st f fd)
  (h:∀ (kV doc pm:Value) (an:Option Addr) (cdv ct:Value) (us:List Value),us.length=ps.length→bindArgs (PySem.W.fnOf x qual (YN st) (Yy st) (Yi st) .none kV doc pm an cdv ct) ⟨us,[]⟩=pure (ps.zip us)):YW K fd ps []:=by
 obtain ⟨oc,od,kV,doc,pm,an,cdv,ct,osl,rfl,lk,hcd⟩:=F.ex
 exact .all (h kV doc pm an cdv ct)
theorem Wr {x qual:Str} {st:Stmt} {f:Addr} {oc:Value} {od an:Option Addr} {osl:Array (Option Value)} {kV doc pm cdv ct:Value} (l:K.lookup f=some ⟨oc,od,.func (PySem.W.fnOf x qual (YN st) (Yy st) (Yi st) .none kV doc pm an cdv ct),osl⟩)
  (c:PySem.W.codeIn K cdv qual=true) (k:PySem.W.keepIn K (.ref f)=true):Fun K x qual st f (PySem.W.fnOf x qual (YN st) (Yy st) (Yi st) .none kV doc pm an cdv ct):=⟨⟨oc,od,kV,doc,pm,an,cdv,ct,osl,rfl,l,c⟩,k⟩
end
section
variable {X:Cx}
theorem pv (i:Nat) {x:Str} {pos:Pos} (hN:X.N[i]?=some x:=by rfl) (hv:Vis X.env.scope x:=by first | exact .inl rfl | exact .inr (.inl rfl) | exact .inr (.inr rfl)) (hd:(x==("__debug__":Str))=false:=by decide)
  (hcd:(x==("__classdict__":Str))=false:=by decide):PE X (.Name x pos) (W4 i):=Ybh hN hv hd hcd
end
theorem iteT {A B:Prop} (h:A):if true=true then A else B:=by
 rw [if_pos rfl]
 exact h
theorem Vy {c A B:Prop} [Decidable c] (h1:c→A) (h2:¬ c→B):if c then A else B:=by
 by_cases h:c
 ·rw [if_pos h]
  exact h1 h
 ·rw [if_neg h]
  exact h2 h
def Yk (H H':Hp):Prop:=∀ b o,H b=some o→H' b=some o
theorem Yk.refl (H:Hp):Yk H H:=fun _ _ h=>h
theorem Yk.trans {H H1 H2:Hp} (a:Yk H H1) (b:Yk H1 H2):Yk H H2:=fun c o h=>b c o (a c o h)
theorem Yk.free {H H':Hp} (e:Yk H H') {l:Addr} (h:H' l=Option.none):H l=Option.none:=by
 cases q:H l with
 | none=>rfl
 | some o =>
  rw [e l o q] at h
  cases h
theorem Yk.seq {K:PySem.W.Frag} {H H':Hp} {a:Addr} {xs:List V} (e:Yk H H') (h:SqL K H a xs):SqL K H' a xs:=by
 rcases h with (h | ⟨o,h⟩) | h
 ·exact .inl (.inl (e _ _ h))
 ·exact .inl (.inr ⟨o,e _ _ h⟩)
 ·exact .inr h
end L2
namespace L2
open PySem PySem.Spec PyProof.Rows
section
variable {κ:Type} [DecidableEq κ]
def valV (kvs:List (κ×V)) (k:κ):Option V:=(kvs.find? fun kv=>decide (kv.1=k)).map (·.2)
def putK (kvs:List (κ×V)) (k:κ) (v:V):List (κ×V) :=
 if (kvs.any fun kv=>decide (kv.1=k))=true then kvs.map (fun kv=>if kv.1=k then (kv.1,v) else kv) else kvs++[(k,v)]
end
theorem Yc4 {P:Program} {w:World} {k:Key} {u:Value} (r:Ys (kV k) u):(Xu P w).is k u=true:=by
 cases k with
 | inl i=>obtain ⟨t,e⟩:=(show ∃ t,u=Value.int i t from r);subst e;exact QI P w i t
 | inr x=>obtain ⟨t,e⟩:=(show ∃ t,u=Value.str x t from r);subst e;exact QJ P w x t
section
variable {P:Program} {w:World} {H:Hp} {h:Heap} {a:Addr}
end
def DGet (H:Hp) (a:Addr) (y:V) (r:Option V):Prop :=
 (∃ kvs k,Rd H a (.dK kvs)∧y=kV k∧r=valV kvs k)∨∃ kvs k b,Rd H a (.dT kvs)∧y = .ref b∧H b=some (.tup (k.map kV))∧r=valV kvs k
def DPut (H:Hp) (a:Addr) (y v:V) (H':Hp):Prop :=
 (∃ kvs k,H a=some (.dK kvs)∧y=kV k∧kvs.length<sizeLine∧H'=upd H a (.dK (putK kvs k v))) ∨
 ∃ kvs k b,H a=some (.dT kvs)∧y = .ref b∧H b=some (.tup (k.map kV))∧kvs.length<sizeLine∧H'=upd H a (.dT (putK kvs k v))
section
variable {X:Cx} {pins:List (Addr×Obj)} {σ:St} {H:Hp} {s:Shared} {a:Addr} {y v:V} {u r:Value} {o:Option V} {A:Around} {E:Value→Shared→Prop}
theorem Inv.big (I:Inv X pins σ H s):sysModules<s.heap.objs.size:=by
 have h:mainGlobals<s.heap.objs.size:=(I.mod.glob.keeps I.bk).lt
 exact Nat.lt_trans (by decide) h
theorem Ydv {h':Heap} {t':Nat} {ob:HO} (I:Inv X pins σ H s) (mu:Mut (H a)) (hs:Heap.SameBut a s.heap h') (he:∃ q,h'.get? a=some q) (new:Yz X.prog X.w (upd H a ob) h' a ob) :
  Inv X pins σ (upd H a ob) { s with heap:=h',toks:=t' } :=
 I.write (x:=a) (e:=a) mu (.inl rfl) (fun b q hb z=>(hs.2 b hb).trans z) he new
end
section
variable {X:Cx} {pins:List (Addr×Obj)} {σ:St} {H:Hp} {s:Shared} {a:Addr} {kvs:List (Key×V)} {k:Key} {u:Value} {A:Around} {E:Value→Shared→Prop}
end
def NoSl (i:Expr):Prop:=∀ ov iv,subscripted i false ov iv=operate [ov,iv] (getItem ov iv)
theorem Ydw {prog:Program} {w:World} {A:Around} {E:Value→Shared→Prop} {s:Shared} {env:Env} {value slice:Expr} {pos:Pos} {T id:String} {Q:Value→Shared→Prop}
  (hl:typeLookup (.type T) "__getitem__"=pure (some (.builtin id))) (hs:NoSl slice)
  (h:wpAny (model prog w) A (eval value env) (fun o s₁=>wpAny (model prog w) A (eval slice env) (fun i s₂=>s₂.TypeIs o T∧wpAny (model prog w) A (getItem o i) Q E s₂) E s₁) E s) :
  wpAny (model prog w) A (eval (.Subscript value slice pos) env) Q E s:=by
 refine Subscript_ (wpAny_mono h (fun o s₁ h₁=>wpAny_mono h₁ (fun i s₂ h₂=>?_) fun _ _ x=>x) fun _ _ x=>x)
 obtain ⟨hT,h₂⟩:=h₂
 unfold subscriptTail
 refine wpAny_bind ?_
 rw [getitemInPython_of_ne hT.not_modules]
 refine wpAny_bind (wpAny_specialOf hT hl ?_)
 have fin:wpAny (model prog w) A (subscripted slice false o i) (fun r s₃=>wpAny (model prog w) A (letTemporaryGo value o r >>= fun _=>pure r) Q E s₃) E s₂:=by
  rw [hs o i]
  exact wpAny_operating (wpAny_mono h₂ (fun r s₃ h₃=>wpAny_bind (wpAny_letTemporaryGo (wpAny_pure h₃))) fun _ _ x=>x)
 first
  | exact wpAny_pure (wpAny_bind fin)
  | exact wpAny_bind (wpAny_pure (wpAny_bind fin))
  | exact wpAny_bind fin
def tDGet (td ty:TE):TE:=fun σ H Q=>td σ H fun x H1=>ty σ H1 fun y H2=>∃ a v,x = .ref a∧DGet H2 a y (some v)∧Q v H2
def sDPut (td ty tv:TE):TS:=fun D σ H=>tv σ H fun v H1=>td σ H1 fun x H2=>ty σ H2 fun y H3=>∃ a H4,x = .ref a∧DPut H3 a y v H4∧D.nx σ H4
section
variable {X:Cx} {o i e value:Expr} {pos pos' tpos:Pos} {td ty tv:TE}
end
def Yec:TE:=fun _ H Q=>∀ p,H p=none→Q (.ref p) (upd H p (.dT []))
section
variable {X:Cx} {pos:Pos}
end
structure M1 (X:Cx) (o:Expr) (m:Str) (apos:Pos) (e:Expr) (cpos:Pos):Prop where
 base:attributeBase o m X.env (eval o X.env)=eval o X.env
 few:((backTo cpos (starEach [e] X.env)).all (fun x => !x.1)&&(backToKw cpos (keywordEach [] X.env)).all (fun x=>x.1.isSome)
  && decide (([e]:List Expr).length+([]:List Keyword).length+(if ([]:List Keyword).isEmpty then 0 else 1)<30))=true
 line:(apos.endLine==cpos.line)=true
 trees:backTo cpos (starEach [e] X.env)=[(false,eval e X.env)]
structure M2 (X:Cx) (o:Expr) (m:Str) (apos:Pos) (e f:Expr) (cpos:Pos):Prop where
 base:attributeBase o m X.env (eval o X.env)=eval o X.env
 few:((backTo cpos (starEach [e,f] X.env)).all (fun x => !x.1)&&(backToKw cpos (keywordEach [] X.env)).all (fun x=>x.1.isSome)
  && decide (([e,f]:List Expr).length+([]:List Keyword).length+(if ([]:List Keyword).isEmpty then 0 else 1)<30))=true
 line:(apos.endLine==cpos.line)=true
 trees:backTo cpos (starEach [e,f] X.env)=[(false,eval e X.env),(false,eval f X.env)]
section
variable {X:Cx} {pins:List (Addr×Obj)} {σ:St} {H:Hp} {s:Shared} {a:Addr} {y d:V} {u r:Value} {o:Option V} {A:Around} {E:Value→Shared→Prop}
end
section
variable {X:Cx} {o e f:Expr} {apos cpos:Pos} {td ty tx:TE}
end
section
variable {X:Cx} {pins:List (Addr×Obj)} {σ:St} {H:Hp} {s:Shared} {a:Addr} {kvs:List (Key×V)} {A:Around} {E:Value→Shared→Prop}
end
section
variable {X:Cx} {pins:List (Addr×Obj)} {σ:St} {H:Hp} {s:Shared} {a:Addr} {y:V} {u:Value} {A:Around} {E:Value→Shared→Prop}
end
end L2
namespace L2
open PySem PySem.Spec PyProof.Rows
theorem Ws (env:Env):∀ (names:List (Str×NameKind)) (cs:List (Str×Addr)),(∀ x,(x,NameKind.free)∈names→∃ c,env.cells.lookup x=some c) →
  ∃ cl,(forIn names cs fun (p:Str×NameKind) (cs:List (Str×Addr))=>(if (p.2==NameKind.free)=true then (do let c ← cellOf env p.1;pure (ForInStep.yield ((p.1,c)::cs))) else pure (ForInStep.yield cs):Sem (ForInStep (List (Str×Addr)))))=pure cl ∧
   (∀ x c,cl.lookup x=some c→env.cells.lookup x=some c∨cs.lookup x=some c)∧(∀ x,(x,NameKind.free)∈names→∃ c,cl.lookup x=some c)∧(∀ x c,cs.lookup x=some c→∃ d,cl.lookup x=some d)
 | [],cs,_=>⟨cs,by simp,fun _ _ h => .inr h,(fun _ h=>nomatch h),fun x c h=>⟨c,h⟩⟩
 | (n,k)::r,cs,h=>by
  by_cases hk:k=NameKind.free
  ·subst hk
   obtain ⟨c,hc⟩:=h n (List.mem_cons_self ..)
   obtain ⟨cl,e,a,b,d⟩:=Ws env r ((n,c)::cs) (fun x hx=>h x (List.mem_cons_of_mem _ hx))
   have hcell:cellOf env n=pure c:=by unfold cellOf;rw [hc]
   refine ⟨cl,?_,fun x c' hx=>?_,fun x hx=>?_,fun x c' hx=>?_⟩
   ·rw [List.forIn_cons]
    simp only [beq_self_eq_true,if_true,hcell,pure_bind]
    exact e
   ·rcases a x c' hx with q | q
    ·exact .inl q
    ·rw [List.lookup_cons] at q
     by_cases hxn:(x==n)=true
     ·rw [hxn] at q
      have hx':x=n:=by simpa using hxn
      subst hx'
      have:c=c':=by simpa using q
      subst this
      exact .inl hc
     ·rw [Bool.eq_false_iff.mpr hxn] at q
      exact .inr q
   ·rcases List.mem_cons.mp hx with q | q
    ·have hx':x=n:=congrArg Prod.fst q
     subst hx'
     exact d x c (by rw [List.lookup_cons];simp)
    ·exact b x q
   ·have:∃ d',((n,c)::cs).lookup x=some d':=by
     rw [List.lookup_cons]
     by_cases hxn:(x==n)=true
     ·rw [hxn];exact ⟨c,rfl⟩
     ·rw [Bool.eq_false_iff.mpr hxn];exact ⟨c',hx⟩
    obtain ⟨d',hd'⟩:=this
    exact d x d' hd'
  ·obtain ⟨cl,e,a,b,d⟩:=Ws env r cs (fun x hx=>h x (List.mem_cons_of_mem _ hx))
   have hkf:(k==NameKind.free)=false:=by simpa using hk
   refine ⟨cl,?_,a,fun x hx=>?_,d⟩
   ·rw [List.forIn_cons]
    simp only [hkf,Bool.false_eq_true,if_false,pure_bind]
    exact e
   ·rcases List.mem_cons.mp hx with q | q
    ·exact absurd (congrArg Prod.snd q).symm hk
    ·exact b x q
theorem VQ (env:Env) (scope:Scope) (h:∀ x,(x,NameKind.free)∈scope.names→∃ c,env.cells.lookup x=some c) :
  ∃ cl,closureFor scope env=pure cl∧(∀ x c,cl.lookup x=some c→env.cells.lookup x=some c)∧(∀ x,(x,NameKind.free)∈scope.names→∃ c,cl.lookup x=some c):=by
 obtain ⟨cl,e,a,b,_⟩:=Ws env scope.names [] h
 refine ⟨cl,?_,fun x c hx=>(a x c hx).elim id (fun z=>by simp at z),b⟩
 unfold closureFor
 simp only [bind_pure]
 exact e
def cxC (X:Cx) (scope:Scope) (N':List Str) (cl:List (Str×Addr)) (C:Addr) (s₀:Shared) (H₀:Hp) (fp:List Addr) (pn:List (Addr×Obj)):Cx :=
 { X with N:=N',s₀:=s₀,H₀:=H₀,env:=compEnvC scope cl C X.env,outer:=X.stack,ex:=fp,fn:=fun _=>false,pn:=pn,xe:=fun _ _=>False }
inductive Cap (X:Cx) (scope:Scope):List (Option Nat)→List Str→Prop
 | nil:Cap X scope [] []
 | own {x src N'}:Cap X scope src N'→Cap X scope (none::src) (x::N')
 | cap {x i src N'}:X.N[i]?=some x→scope.names.lookup x=some NameKind.free→(X.env.scope.names.lookup x=some NameKind.cell∨X.env.scope.names.lookup x=some NameKind.free)→Cap X scope src N'→Cap X scope (some i::src) (x::N')
def YS (src:List (Option Nat)) (σ:St):St:=src.map fun o=>match o with | none=>none | some i=>σ.getD i none
theorem Cap.length {X:Cx} {scope:Scope}:∀ {src:List (Option Nat)} {N':List Str},Cap X scope src N'→src.length=N'.length
 | _,_,.nil=>rfl
 | _,_,.own h=>congrArg (·+1) h.length
 | _,_,.cap _ _ _ h=>congrArg (·+1) h.length
theorem Cap.get {X:Cx} {scope:Scope} {σ:St}:∀ {src:List (Option Nat)} {N':List Str},Cap X scope src N'→∀ (j:Nat) (x:Str) (v:V),N'[j]?=some x→(YS src σ)[j]?=some (some v) →
  ∃ i:Nat,X.N[i]?=some x∧σ[i]?=some (some v)∧scope.names.lookup x=some NameKind.free∧(X.env.scope.names.lookup x=some NameKind.cell∨X.env.scope.names.lookup x=some NameKind.free)
 | _,_,.nil,j,x,v,h,_=>by simp at h
 | _,_,.own h,0,x,v,_,e=>by simp [YS] at e
 | _,_,.own h,j+1,x,v,e1,e2=>h.get j x v (by simpa using e1) (by simpa [YS] using e2)
 | _,_,.cap (x:=y) (i:=i) hN hf hk h,0,x,v,e1,e2=>by
  have ex:y=x:=by simpa using e1
  subst ex
  refine ⟨i,hN,?_,hf,hk⟩
  simp only [YS,List.map_cons,List.getElem?_cons_zero,Option.some.injEq] at e2
  rw [List.getD_eq_getElem?_getD] at e2
  cases q:σ[i]? with
  | none=>rw [q] at e2;simp at e2
  | some o=>rw [q] at e2;simp at e2;rw [e2]
 | _,_,.cap hN hf hk h,j+1,x,v,e1,e2=>h.get j x v (by simpa using e1) (by simpa [YS] using e2)
theorem WN (env:Env) (x:Str):∀ {names:List (Str×NameKind)},
  (names.map fun (n,k)=>if (k==NameKind.free&&env.scope.kind == .function&&env.kindOf n==some .cell) then (n,NameKind.cell) else (n,k)).lookup x =
   (names.lookup x).map fun k=>if (k==NameKind.free&&env.scope.kind == .function&&env.kindOf x==some .cell) then NameKind.cell else k
 | []=>rfl
 | (n,k)::r=>by
  have ih:=@WN env x r
  rw [List.map_cons]
  dsimp only
  by_cases hx:(x==n)=true
  ·have e:x=n:=by simpa using hx
   subst e
   by_cases hc:(k==NameKind.free&&env.scope.kind == .function&&env.kindOf x==some .cell)=true
   ·rw [if_pos hc,List.lookup_cons,List.lookup_cons,hx]
    simp only [Option.map_some]
    rw [if_pos hc]
   ·rw [if_neg hc,List.lookup_cons,List.lookup_cons,hx]
    simp only [Option.map_some]
    rw [if_neg hc]
  ·have hx':=Bool.eq_false_iff.mpr hx
   by_cases hc:(k==NameKind.free&&env.scope.kind == .function&&env.kindOf n==some .cell)=true
   ·rw [if_pos hc];simp only [List.lookup_cons,hx'];exact ih
   ·rw [if_neg hc];simp only [List.lookup_cons,hx'];exact ih
theorem WC {names:List (Str×NameKind)} {x:Str} (h:names.lookup x=some NameKind.free):(x,NameKind.free)∈names:=PySem.mem_of_lookup h
section
variable {X:Cx}
theorem Ycl {scope:Scope} {N':List Str} {src:List (Option Nat)} {cl:List (Str×Addr)} {pins:List (Addr×Obj)} {σ:St} {H:Hp} {s s':Shared} {h':Heap} {tk:Nat} {fp:List Addr} {m:Str→Option Value}
  (hk:scope.kind = .function) (hcell:∀ y∈scope.names,y.2 ≠ .cell) (hcap:Cap X scope src N')
  (a:∀ x c,cl.lookup x=some c→X.env.cells.lookup x=some c) (b:∀ x,(x,NameKind.free)∈scope.names→∃ c,cl.lookup x=some c)
  (I:Inv X pins σ H s) (hf:∀ b∈fp,XU X pins H b) (hfl:∀ b∈fp,b<s.heap.objs.size) (es':s'={ s with heap:=h',toks:=tk })
  (keep:∀ b o,s.heap.get? b=some o→h'.get? b=some o) (hn:h'.Ns s.heap.objs.size m) :
  Inv (cxC X scope N' cl s.heap.objs.size s H fp (X.pn++pins)) [] (YS src σ) H s':=by
 subst es'
 have kindOf:∀ x,(compEnvC scope cl s.heap.objs.size X.env).kindOf x=(scope.names.lookup x).map fun k=>if (k==NameKind.free&&X.env.scope.kind == .function&&X.env.kindOf x==some .cell) then NameKind.cell else k:=fun x=>WN X.env x
 have freeOf:∀ x,((compEnvC scope cl s.heap.objs.size X.env).kindOf x=some .cell∨(compEnvC scope cl s.heap.objs.size X.env).kindOf x=some .free)→scope.names.lookup x=some .free:=fun x h=>by
  rw [kindOf] at h
  cases q:scope.names.lookup x with
  | none=>rw [q] at h;simp at h
  | some k =>
   rw [q] at h
   by_cases hkf:k=NameKind.free
   ·rw [hkf]
   ·have hkf':(k==NameKind.free)=false:=by simpa using hkf
    simp only [Option.map_some,hkf',Bool.false_and,Bool.false_eq_true,if_false] at h
    rcases h with h | h
    ·exact absurd (Option.some.inj h) (hcell _ (PySem.mem_of_lookup q))
    ·exact absurd (Option.some.inj h) hkf
 refine ⟨⟨I.ok.mod,hk,I.ok.glob,I.ok.blt,Nat.le_refl _,fun x y c h1 h2=>I.ok.inj x y c (a x c h1) (a y c h2),fun x hx=>b x (WC (freeOf x hx)),(fun x c z _=>nomatch z),I.ok.hd,I.ok.frames,.inl rfl,fun b' hb=>?_,I.bs,Nat.le_trans I.ok.bsz I.sz,fun b' o e hb=>?_,fun b' hb z=>?_,I.stack,I.stkFree⟩,
  rfl,I.bare,Un.kept keep,⟨m,hn,fun j x v h1 h2 h3=>?_⟩,fun x c h=>?_,I.hok.fresh (Nat.le_refl _),fun x c h=>I.freeC x c (a x c h),fun p hp=>?_,I.hok.kept keep,?_⟩
 ·obtain ⟨f0,f1,f2,f3,f4,f5⟩:=hf b' hb
  exact ⟨Nat.ne_of_lt (hfl b' hb),fun x c h=>f4 x c (a x c h)⟩
 ·obtain ⟨f0,f1,f2,f3,f4,f5⟩:=hf b' hb
  rcases f3 with z | z
  ·exact I.ok.noex b' o e z
  ·exact absurd (Nat.lt_of_lt_of_le (Heap.lt_size e) (Nat.le_trans I.ok.bsz z)) (Nat.lt_irrefl _)
 ·obtain ⟨f0,f1,f2,f3,f4,f5⟩:=hf b' hb
  rcases List.mem_cons.mp (I.stkSub b' z) with e | e
  ·exact f1 e
  ·exact f2 e
 ·obtain ⟨i,e1,e2,e3,e4⟩:=hcap.get j x v h1 h2
  obtain ⟨m0,hn0,hl⟩:=I.loc
  obtain ⟨u,r,l⟩:=hl i x v e1 e2 (by rcases e4 with e4 | e4;exact .inr (.inl e4);exact .inr (.inr e4))
  refine ⟨u,r,?_⟩
  rcases l with ⟨l,_⟩ | ⟨k,c,e,z⟩
  ·have l':X.env.scope.names.lookup x=some NameKind.local:=l
   rcases e4 with e4 | e4<;>(rw [e4] at l';cases l')
  ·refine .inr ⟨?_,?_⟩
   ·show (compEnvC scope cl s.heap.objs.size X.env).kindOf x=some .cell∨(compEnvC scope cl s.heap.objs.size X.env).kindOf x=some .free
    rw [kindOf,e3]
    simp only [Option.map_some]
    split
    ·exact .inl rfl
    ·exact .inr rfl
   ·obtain ⟨c',hc'⟩:=b x (WC e3)
    have:=a x c' hc'
    rw [e] at this
    cases this
    obtain ⟨o,ho,hd⟩:=z
    exact ⟨c,hc',o,keep _ _ ho,hd⟩
 ·obtain ⟨v,o,ho,hd⟩:=I.cell x c (a x c h)
  exact ⟨v,o,keep _ _ ho,hd⟩
 ·have hp':p∈X.pn++pins:=by simpa [cxC] using hp
  obtain ⟨e,n,ne,nf,d⟩:=I.pin p hp'
  refine ⟨keep _ _ e,n,Nat.ne_of_lt (Heap.lt_size e),fun z=>?_,d⟩
  rcases List.mem_cons.mp (I.stkSub p.1 z) with q | q
  ·exact ne q
  ·exact nf q
 ·show (YS src σ).length=N'.length
  rw [← hcap.length]
  simp [YS]
end
end L2
namespace L2
open PySem PySem.Spec PyProof.Rows
section
variable {prog:Program} {w:World} {A:Around} {R:Result→Shared→Prop} {s:Shared}
theorem YaJ {elt tg iter:Expr} {ifs:List Expr} {scope:Scope} {pos:Pos} {it acc:Value} {env:Env} (J:Nat→Shared→Prop)
  (turn:∀ n s,J n s→wpAny (model prog w) A (pyNext it) (fun r s₁=>match r with
    | none=>R (.ok .next) s₁
    | some v=>wpAny (model prog w) A (letOwnedTupleGo tg it v) (fun _ z₁=>wpAny (model prog w) A (assign tg env v) (fun _ s₂ =>
      wpAny (model prog w) A (forIn ifs true fun c r=>if r=true then do let ok ← isTrue c env (eval c env);pure (ForInStep.yield ok) else pure (ForInStep.yield r))
       (fun ok s₃=>if ok=true then wpAny (model prog w) A (eval elt env) (fun x s₄=>wpAny (model prog w) A (call (.builtin "list.append") [acc,x]) (fun _ s₅=>∃ m,m<n∧J m s₅) (fun _ _=>False) s₄) (notedBy (model prog w) A env fun e s'=>R (.error e) s') s₃
        else ∃ m,m<n∧J m s₃) (fun _ _=>False) s₂) (fun _ _=>False) z₁) (fun _ _=>False) s₁) (fun _ _=>False) s)
  (n:Nat) (h:J n s):codeAny (model prog w) A (.compLoop (.ListComp elt [⟨tg,iter,ifs,0⟩] scope pos) 0 it acc env) R s:=by
 refine codeAny_loop rfl J (fun n s hJ=>?_) n h
 show wpAny _ A (Sem.onRaise (compTurn (.ListComp elt [⟨tg,iter,ifs,0⟩] scope pos) 0 it acc env) (fun x=>do noteFrame x env;theTreesLotGoes x)) _ _ s
 refine wpAny_noted ?_
 rw [compTurn_list]
 have no:∀ {E:Value→Shared→Prop},∀ (e:Value) (s':Shared),False→E e s':=fun _ _ f=>f.elim
 refine wpAny_bind (wpAny_standAt (wpAny_bind (wpAny_mono (turn n s hJ) (fun r s₁ h₁=>?_) no)))
 cases r with
 | none=>exact wpAny_pure h₁
 | some v =>
  refine wpAny_bind (wpAny_mono h₁ (fun _ z₁ hz=>?_) no)
  refine wpAny_bind (wpAny_mono hz (fun _ s₂ h₂=>wpAny_bind (wpAny_mono h₂ (fun ok s₃ h₃=>?_) no)) no)
  cases ok with
  | false=>exact wpAny_pure ⟨rfl,h₃⟩
  | true =>
   exact wpAny_bind (wpAny_bind (wpAny_mono h₃ (fun x s₄ h₄=>wpAny_bind (wpAny_mono h₄ (fun _ s₅ h₅=>wpAny_pure (wpAny_pure ⟨rfl,h₅⟩)) no)) fun _ _ z=>z))
end
def PTs (X:Cx) (ifs:List Expr) (t:TT):Prop :=
 ∀ (pins:List (Addr×Obj)) (s:Shared) (σ:St) (H:Hp) (Q:Bool→Hp→Prop),Inv X pins σ H s→t σ H Q →
  wpAny (model X.prog X.w) X.A (forIn ifs true fun c r=>if r=true then do let ok ← isTrue c X.env (eval c X.env);pure (ForInStep.yield ok) else pure (ForInStep.yield r)) (TP X pins σ Q) X.xe s
def Wt:TT:=fun _ H Q=>Q true H
theorem Xn {X:Cx}:PTs X [] Wt:=fun _ _ _ H _ I h=>wpAny_tests_nil ⟨H,I,h⟩
def LC (src:List (Option Nat)) (J:It) (g:TG) (tt:TT) (te:TE) (σ:St) (H1:Hp) (Q:VK) (D:Addr):Prop:=∃ W:Nat→Nat→List V→St→Hp→Prop,(∃ m,W 0 m [] (YS src σ) (upd H1 D (.lst []))) ∧
 ∀ i m ys σ' H2,W i m ys σ' H2→H2 D=some (.lst ys)∧((J.stop i H2∧Q (.ref D) H2)∨(J.go i H2∧∃ N:List V→St→Hp→Prop,(∀ ys' σ3 H3,N ys' σ3 H3→∃ m',m'<m∧W (i+1) m' ys' σ3 H3)∧∀ x H3,J.yld i H2 x H3→g x σ' H3 fun σ2 H4=>tt σ2 H4 fun b H5 =>
  if b=true then te σ2 H5 fun y H6=>H6 D=some (.lst ys)∧ys.length<sizeLine∧N (ys++[y]) σ2 (upd H6 D (.lst (ys++[y])))
  else N ys σ2 H5))
def tLC (src:List (Option Nat)) (wi:TI) (g:TG) (tt:TT) (te:TE):TE:=fun σ H Q=>wi σ H fun J H1=>∀ D,H1 D=none→LC src J g tt te σ H1 Q D
section
variable {X:Cx}
theorem U7 {elt tg iter:Expr} {ifs:List Expr} {scope:Scope} {pos:Pos} {src:List (Option Nat)} {N':List Str} {g:TG} {tt:TT} {te:TE} {cl:List (Str×Addr)} {pins:List (Addr×Obj)} {σ:St} {Q:VK} {itv:Value} {s2:Shared} {Po:Value→Addr→Result→Shared→Prop} {Z:Addr→Shared→Hp→List Addr→List (Addr×Obj)→Value→Shared→Prop}
  (hcap:Cap X scope src N') (hc:X.calm=true) (hg:∀ C s₀ H₀ fp pn,PG (cxC X scope N' cl C s₀ H₀ fp pn) tg g) (ht:∀ C s₀ H₀ fp pn,PTs (cxC X scope N' cl C s₀ H₀ fp pn) ifs tt)
  (he:∀ C s₀ H₀ fp pn,PE ((cxC X scope N' cl C s₀ H₀ fp pn).wish (Z C s₀ H₀ fp pn)) elt te) (hk:scope.kind = .function) (hcell:∀ y∈scope.names,y.2 ≠ .cell) (a:∀ x c,cl.lookup x=some c→X.env.cells.lookup x=some c) (b:∀ x,(x,NameKind.free)∈scope.names→∃ c,cl.lookup x=some c)
  (h2:PIE X pins σ tg (fun J H1=>∀ D,H1 D=none→LC src J g tt te σ H1 Q D) itv s2)
  (done:∀ (D C:Addr) (s6:Shared) (H5:Hp),(∀ h',Heap.SameBut C s6.heap h'→Inv X pins σ H5 { s6 with heap:=h' })→(∃ m,s6.heap.Ns C m)→H5 C=none→(∀ {H':Hp},H' C=none→XU X pins H' C)→Q (.ref D) H5→Po (.ref D) C (.ok .next) s6)
  (gone:∀ (D:Addr) (s3:Shared) (H3:Hp) (fp:List Addr),Inv X pins σ H3 s3→(∀ {H':Hp} {s':Shared} {σ':St} {pins':List (Addr×Obj)},Inv (cxC X scope N' cl s3.heap.objs.size s3 H3 fp (X.pn++pins)) pins' σ' H' s'→∀ h',Heap.SameBut s3.heap.objs.size s'.heap h'→Inv X pins σ H' { s' with heap:=h' }) →
   ∀ e s',Z s3.heap.objs.size s3 H3 fp (X.pn++pins) e s'→notedBy (model X.prog X.w) X.A (compEnvC scope cl s3.heap.objs.size X.env) (fun e s'=>Po (.ref D) s3.heap.objs.size (.error e) s') e s') :
  wpAny (model X.prog X.w) X.A (newList []) (fun acc s₃=>wpAny (model X.prog X.w) X.A (newFunctionEnv scope X.env.globals cl [] X.env.qual none Value.none (some X.env)) (fun cenv s₄ =>
   codeAny (model X.prog X.w) X.A (.compStart (.ListComp elt [⟨tg,iter,ifs,0⟩] scope pos) 0 itv acc { cenv with scope:=relabel scope X.env }) (Po acc cenv.locals) s₄) X.xe s₃) X.xe s2:=by
 obtain ⟨it,fp,tn,J,H2,e,I2,T,st2,f2,q⟩:=h2
 subst e
 have hD:H2 s2.heap.objs.size=none:=I2.hok.fresh (Nat.le_refl _)
 obtain ⟨W,⟨m0,w0⟩,turn⟩:=q s2.heap.objs.size hD
 have I3:=I2.lnew (t':=s2.toks) (ys:=[]) (its:=[]) .nil (Nat.zero_le _)
 have fl2:∀ b∈fp,b<s2.heap.objs.size:=fun b hb=>by
  obtain ⟨o,e,_⟩:=T.obj _ _ st2 b hb
  exact Heap.lt_size e
 refine wpAny_newObj_type ?_
 generalize es3:({ s2 with heap:=s2.heap.push { cls := .type "list",dict:=none,data := .seq ([]:List Value).toArray } }:Shared)=s3
 have I3':Inv X pins σ (upd H2 s2.heap.objs.size (.lst [])) s3:=es3▸I3
 have keep3:∀ b o,s2.heap.get? b=some o→s3.heap.get? b=some o:=fun b o e=>by rw [← es3];exact Heap.get?_push_of_some _ e
 have st3:tn 0 s3.heap:=T.keep _ _ _ st2 fun b _ o e=>keep3 b o e
 have fl3:∀ b∈fp,b<s3.heap.objs.size:=fun b hb=>by
  obtain ⟨o,e,_⟩:=T.obj _ _ st3 b hb
  exact Heap.lt_size e
 have f3:∀ b∈fp,XU X pins (upd H2 s2.heap.objs.size (.lst [])) b:=fun b hb=>⟨by rw [Yb (Nat.ne_of_lt (fl2 b hb))];exact (f2 b hb).1,(f2 b hb).2⟩
 generalize eD:s2.heap.objs.size=D at *
 generalize eH3:upd H2 D (.lst [])=H3 at *
 refine wpAny_newFunctionEnv hcell (by intro y hy;simp at hy) (fun h₁ hns₁ hsb₁=>?_) hk
 have keep4:∀ b o,s3.heap.get? b=some o→h₁.get? b=some o:=fun b o e=>hsb₁.extBut b o (Nat.ne_of_lt (Heap.lt_size e)) (Heap.get?_push_of_some _ e)
 have I4:=Ycl (N':=N') (src:=src) (tk:=s3.toks+([]:List (Str×Value)).length) hk hcell hcap a b I3' f3 fl3 rfl keep4 hns₁
 have stat:∀ {H':Hp},(∀ b∈fp,H' b=none)→∀ b∈fp,XU (cxC X scope N' cl s3.heap.objs.size s3 H3 fp (X.pn++pins)) [] H' b:=fun hn b' hb=>by
  obtain ⟨f0,f1,fs,fe,f4,f5⟩:=f3 b' hb
  refine ⟨hn b' hb,Nat.ne_of_lt (fl3 b' hb),fun z=>?_,.inl hb,fun x c h=>f4 x c (a x c h),fun p hp=>f5 p (by simpa [cxC] using hp)⟩
  rcases List.mem_cons.mp (I3'.stkSub b' z) with e | e
  ·exact f1 e
  ·exact fs e
 have fin:∀ {H':Hp} {s':Shared} {σ':St} {pins':List (Addr×Obj)},Inv (cxC X scope N' cl s3.heap.objs.size s3 H3 fp (X.pn++pins)) pins' σ' H' s'→∀ h',Heap.SameBut s3.heap.objs.size s'.heap h'→Inv X pins σ H' { s' with heap:=h' }:=fun {H' s' σ' pins'} J' h' sb=>by
  have same:∀ b o,b≠s3.heap.objs.size→s'.heap.get? b=some o→h'.get? b=some o:=fun b o hb e=>sb.extBut b o hb e
  have u:Un (frs X.stack) fp H3 H' s3.heap s'.heap:=J'.base
  refine I3'.call' (s':={ s' with heap:=h' }) (ch:=fp) J'.os ⟨fun b o e n hb hx=>?_,fun b o e n hb hx=>?_,u.free,fun b o e hx=>?_,u.tups,u.frzs,u.tbls⟩ (fun b o e=>?_) J'.bare fun b hb=>?_
  ·exact same b o (Nat.ne_of_lt (Heap.lt_size e)) (u.keep b o e n hb hx)
  ·obtain ⟨sl,z⟩:=u.slot b o e n hb hx
   exact ⟨sl,same b _ (Nat.ne_of_lt (Heap.lt_size e)) z⟩
  ·obtain ⟨o',z⟩:=u.there b o e hx
   exact ⟨o',same b o' (Nat.ne_of_lt (Heap.lt_size e)) z⟩
  ·have nC:∀ c v,H' c=some v→c≠s3.heap.objs.size:=fun c v z q=>by
    have:=J'.free
    rw [show (cxC X scope N' cl s3.heap.objs.size s3 H3 fp (X.pn++pins)).env.locals=s3.heap.objs.size from rfl,← q,z] at this
    cases this
   refine (J'.hok b o e).stay (fun c v hc q=>same c v ?_ q) (fun _ q=>q) fun _ _ q=>q
   rcases hc with z | z
   ·rw [z];exact nC b o e
   ·exact nC c _ z
  ·obtain ⟨f0,f1,fs,fe,f4,f5⟩:=f3 b hb
   exact ⟨fe,f1,f4,f5⟩
 have loop:codeAny (model X.prog X.w) X.A (.compLoop (.ListComp elt [⟨tg,iter,ifs,0⟩] scope pos) 0 (.ref it) (.ref D) (compEnvC scope cl s3.heap.objs.size X.env))
   (Po (.ref D) s3.heap.objs.size) { s3 with heap:=h₁,toks:=s3.toks+([]:List (Str×Value)).length }:=by
  refine YaJ (fun n s'=>∃ i ys σ' H',Inv (cxC X scope N' cl s3.heap.objs.size s3 H3 fp (X.pn++pins)) [] σ' H' s'∧tn i s'.heap∧(∀ b∈fp,H' b=none)∧W i n ys σ' H') ?_ m0 ⟨0,[],YS src σ,H3,I4,T.keep _ _ _ st3 fun b _ o e=>keep4 b o e,fun b hb=>(f3 b hb).1,w0⟩
  rintro n s5 ⟨i,ys,σ5,H5,I5,st5,fr5,w5⟩
  obtain ⟨hDs,stop | go⟩:=turn i n ys σ5 H5 w5
  ·obtain ⟨stop,qn⟩:=stop
   refine thn (T.done (cxC X scope N' cl s3.heap.objs.size s3 H3 fp (X.pn++pins)) rfl rfl rfl hc i [] s5 σ5 H5 _ I5 (stat fr5) st5 stop) fun r s6 ⟨hr,I6⟩=>?_
   subst hr
   obtain ⟨m,hn,_⟩:=id I6.loc
   exact done D _ s6 H5 (fun h' sb=>fin I6 h' sb) ⟨m,hn⟩ I6.free (fun z=>I3'.fpOk (Nat.le_refl _) z) qn
  ·obtain ⟨go,N,hN,step⟩:=go
   refine thn (T.item (cxC X scope N' cl s3.heap.objs.size s3 H3 fp (X.pn++pins)) rfl rfl rfl hc i [] s5 σ5 H5 _ I5 (stat fr5) st5 go) fun r s6 ⟨u,hr,h6⟩=>?_
   subst hr
   refine thn h6 fun _ s7 ⟨x,H7,I7,r7,y7,st7,fr7⟩=>?_
   have I7':=I7.pinned (stat fr7) (T.obj _ _ st7)
   have again:∀ {s8:Shared} {σ8:St} {H8:Hp} {ys':List V},Inv (cxC X scope N' cl s3.heap.objs.size s3 H3 fp (X.pn++pins)) ([]++W6 fp s7.heap) σ8 H8 s8→(∃ m',m'<n∧W (i+1) m' ys' σ8 H8) →
     ∃ m,m<n∧∃ i ys σ' H',Inv (cxC X scope N' cl s3.heap.objs.size s3 H3 fp (X.pn++pins)) [] σ' H' s8∧tn i s8.heap∧(∀ b∈fp,H' b=none)∧W i m ys σ' H':=fun {s8 σ8 H8 ys'} I8 ⟨m',hm,w8⟩=>by
    refine ⟨m',hm,i+1,ys',σ8,H8,I8.unpinned,T.keep _ _ _ st7 fun b hb o e=>(I8.pin (b,o) (List.mem_append_right _ (List.mem_append_right _ (XO hb e)))).1,fun b hb=>?_,w8⟩
    obtain ⟨o,e,d⟩:=T.obj _ _ st7 b hb
    exact (I8.pin (b,o) (List.mem_append_right _ (List.mem_append_right _ (XO hb e)))).2.1
   refine thn (hg _ s3 H3 fp _ _ s7 σ5 H7 x u _ I7' r7 (step x H7 y7)) fun _ s8 ⟨σ8,H8,I8,q8⟩=>?_
   refine thn (ht _ s3 H3 fp _ _ s8 σ8 H8 _ I8 q8) fun ok s9 ⟨H9,I9,q9⟩=>?_
   cases ok with
   | false=>exact again I9 (hN _ _ _ q9)
   | true =>
    rw [if_pos rfl]
    refine wpAny_mono (he _ s3 H3 fp _ _ s9 σ8 H9 _ (I9.wish _) q9) (fun y s10 ⟨yv,H10,I10',r10,q10⟩=>?_) (gone D s3 H3 fp I3' fin)
    have I10:=I10'.unwish
    obtain ⟨hDy,hlen,w10⟩:=q10
    refine thn (Y4 (X:=cxC X scope N' cl s3.heap.objs.size s3 H3 fp (X.pn++pins)) _ s10 σ8 H10 (.ref D) [yv] (.ref D) [y] (fun _ H'=>H'=upd H10 D (.lst (ys++[yv]))) I10 rfl (.cons r10 .nil) ⟨D,ys,yv,rfl,rfl,hDy,hlen,rfl⟩) fun _ s11 ⟨_,H11,I11,_,e11⟩=>?_
    subst e11
    exact again I11 (hN _ _ _ w10)
 exact codeAny_compStart_list loop (T.self _ 0 _ _ _ (T.keep _ _ _ st3 fun b _ o e=>keep4 b o e) loop)
theorem Wc {elt tg iter:Expr} {ifs:List Expr} {scope:Scope} {pos:Pos} {src:List (Option Nat)} {N':List Str} {wi:TI} {g:TG} {tt:TT} {te:TE} (hcap:Cap X scope src N') (hc:X.calm=true) (hi:PI X tg iter wi)
  (hg:∀ cl C s₀ H₀ fp pn,PG (cxC X scope N' cl C s₀ H₀ fp pn) tg g) (ht:∀ cl C s₀ H₀ fp pn,PTs (cxC X scope N' cl C s₀ H₀ fp pn) ifs tt) (he:∀ cl C s₀ H₀ fp pn,PE (cxC X scope N' cl C s₀ H₀ fp pn) elt te)
  (hfree:∀ x,(x,NameKind.free)∈scope.names→X.env.scope.names.lookup x=some NameKind.cell∨X.env.scope.names.lookup x=some NameKind.free)
  (hk:scope.kind = .function) (hcell:∀ y∈scope.names,y.2 ≠ .cell) (hnames:∀ y∈scope.names,y.2 = .local→scope.names.lookup y.1=some .local)
  (hs:∀ x,foldedSetIterable iter X.env x=pure x):PE X (.ListComp elt [⟨tg,iter,ifs,0⟩] scope pos) (tLC src wi g tt te):=by
 intro pins s σ H Q I h
 obtain ⟨cl,hcl,a,b⟩:=VQ X.env scope fun x hx=>I.ok.has x (hfree x hx)
 rw [eval_ListComp]
 refine wpAny_comprehension_free (use:=none) rfl hs hcl hk hnames (thn (hi pins s σ H _ I h) fun v s1 h1=>thn h1 fun itv s2 h2=>?_)
 exact U7 (Po:=fun v C=>compPost (model X.prog X.w) X.A X.xe none (EP X pins σ Q) v C) (Z:=fun _ _ _ _ _ _ _=>False) hcap hc (hg cl) (ht cl) (he cl) hk hcell a b h2 (fun D C s6 H5 fi ⟨m,hn⟩ _ _ qn=>⟨m,hn,fun h' sb=>⟨.ref D,H5,fi h' sb,rfl,qn⟩⟩) fun _ _ _ _ _ _ _ _ z=>z.elim
end
end L2
namespace L2
open PySem PySem.Spec PyProof.Rows
section
variable {X:Cx}
end
end L2
namespace L2
open PySem PySem.Spec PyProof.Rows
section
variable {X:Cx} {tg:Expr}
def Wd (J:It) (P:Hp→Prop) (xs:List V):Prop:=∀ H,P H→∀ i,(∀ x,xs[i]?=some x→J.go i H∧∀ y H',J.yld i H y H'→H'=H∧y=x)∧(xs.length≤i→J.stop i H)
theorem YbC {K:PySem.W.Frag} {a:Addr} {xs:List V}:Wd (Itt K a) (fun H=>SqT K H a xs) xs:=fun H hq i=>by
 refine ⟨fun x hx=>⟨⟨xs,x,hq,hx⟩,fun y H' ⟨e1,e2⟩=>⟨e1,?_⟩⟩,fun hi=>⟨xs,hq,hi⟩⟩
 have:=e2 xs hq
 rw [hx] at this
 exact (Option.some.inj this).symm
theorem We {K:PySem.W.Frag} {a:Addr} {xs:List V}:Wd (Itl K a) (fun H=>SqL K H a xs) xs:=fun H hq i=>by
 refine ⟨fun x hx=>⟨⟨xs,x,hq,hx⟩,fun y H' ⟨e1,e2⟩=>⟨e1,?_⟩⟩,fun hi=>⟨xs,hq,hi⟩⟩
 have:=e2 xs hq
 rw [hx] at this
 exact (Option.some.inj this).symm
theorem WK {lo:Int} {n:Nat} {P:Hp→Prop}:Wd (Itr lo n) P ((List.range n).map fun (i:Nat)=>V.int (lo+i)):=fun H hq i=>by
 refine ⟨fun x hx=>?_,fun hi=>by show n≤i;simpa using hi⟩
 have hi:i<n:=by
  have:=(List.getElem?_eq_some_iff.mp hx).1
  simpa using this
 refine ⟨hi,fun y H' ⟨e1,e2⟩=>⟨e1,?_⟩⟩
 rw [List.getElem?_map,List.getElem?_range hi] at hx
 rw [e2]
 simpa using hx
theorem Wd.imp {J:It} {P P':Hp→Prop} {xs:List V} (h:Wd J P xs) (hp:∀ H,P' H→P H):Wd J P' xs:=fun H q=>h H (hp H q)
theorem Yc5 {J:It} {P:Hp→Prop} {xs:List V} (hJ:Wd J P xs) {src:List (Option Nat)} {g:TG} {tt:TT} {te:TE} {σ:St} {H1:Hp} {Q:VK} {D:Addr} (Pv:Nat→List V→St→Hp→Prop)
  (h0:Pv 0 [] (YS src σ) (upd H1 D (.lst []))) (hP:∀ i ys σ' H',Pv i ys σ' H'→P H'∧H' D=some (.lst ys))
  (step:∀ i ys σ' H' x,xs[i]?=some x→Pv i ys σ' H'→g x σ' H' fun σ2 H4=>tt σ2 H4 fun b H5=>if b=true then te σ2 H5 fun y H6=>H6 D=some (.lst ys)∧ys.length<sizeLine∧Pv (i+1) (ys++[y]) σ2 (upd H6 D (.lst (ys++[y]))) else Pv (i+1) ys σ2 H5)
  (fin:∀ ys σ' H',Pv xs.length ys σ' H'→Q (.ref D) H') :
  LC src J g tt te σ H1 Q D:=by
 refine ⟨fun i m ys σ' H'=>m=xs.length - i∧i≤xs.length∧Pv i ys σ' H',⟨xs.length,by simp,Nat.zero_le _,h0⟩,?_⟩
 rintro i m ys σ' H2 ⟨rfl,hi,p⟩
 obtain ⟨hp,hD⟩:=hP i ys σ' H2 p
 refine ⟨hD,?_⟩
 by_cases hlt:i<xs.length
 ·obtain ⟨go,yl⟩:=(hJ H2 hp i).1 xs[i] (by simp [hlt])
  refine .inr ⟨go,fun ys' σ3 H3=>Pv (i+1) ys' σ3 H3,fun ys' σ3 H3 p'=>⟨xs.length - (i+1),by omega,rfl,hlt,p'⟩,fun x H3 y=>?_⟩
  obtain ⟨e1,e2⟩:=yl x H3 y
  subst e1 e2
  exact step i ys σ' _ _ (by simp [hlt]) p
 ·have e:i=xs.length:=by omega
  subst e
  exact .inl ⟨(hJ H2 hp _).2 (Nat.le_refl _),fin ys σ' H2 p⟩
theorem Yk.upd_new {H:Hp} {p:Addr} (h:H p=none) (o:HO):Yk H (upd H p o):=fun b u q=>by rw [Yb (Ye q h)];exact q
theorem Yk.upd_over {H H':Hp} {p:Addr} (h:H p=none) (e:Yk H H') (o:HO):Yk H (upd H' p o):=fun b u q=>by rw [Yb (Ye q h)];exact e b u q
theorem Yk.tup {K:PySem.W.Frag} {H H':Hp} {a:Addr} {xs:List V} (e:Yk H H') (h:SqT K H a xs):SqT K H' a xs:=by
 rcases h with (h | ⟨o,h⟩) | h
 ·exact .inl (.inl (e _ _ h))
 ·exact .inl (.inr ⟨o,e _ _ h⟩)
 ·exact .inr h
end
section
variable {X:Cx}
theorem Q7:∀ {ys:List Str} {us:List Value},Ym (ys.map V.str) us→StrsAre us ys
 | [],_,h=>by rw [Ym.zero h];exact .nil
 | y::ys,us,h=>by
  have h':Ym (V.str y::ys.map V.str) us:=h
  cases h' with
  | cons r t=>obtain ⟨t',rfl⟩:=r;exact .cons y t' (Q7 t)
def rJoin (K:PySem.W.Frag):V→List V→Hp→VK→Prop:=fun x vs H Q=>∃ (z:Str) (p:Addr) (ys:List Str),x = .str z∧vs=[.ref p]∧SqL K H p (ys.map V.str)∧(ys.map (·.length)).sum+ys.length*z.length≤16777216∧Q (.str (Txt.join z ys)) H
theorem Q8:MtR X "str.join" (rJoin X.K):=by
 intro pins s σ H x vs v us Q I rx rv h
 obtain ⟨z,p,ys,rfl,rfl,hq,hl,q⟩:=h
 obtain ⟨t,rfl⟩:=rx
 obtain ⟨u,rfl,ru⟩:=rv.one
 cases ru
 obtain ⟨its,r,pl,hz⟩:=I.list hq
 exact join_list pl.isList (by simpa using Q7 r) hl fun t' k=>⟨.str _,H,I.tok k,⟨t',rfl⟩,q⟩
def Va:V→Option Value
 | .ty n=>some (.type n)
 | .ref a=>some (.ref a)
 | _=>none
theorem Xo:Xv X (.builtin "isinstance") (fun xs H Q=>∃ x c cv t b,xs=[x,c]∧Va c=some cv∧TyOf X.K H x t∧PySem.W.kitOne X.K t cv=some b∧Q (.bl b) H):=by
 intro pins s σ H xs us Q I r h
 obtain ⟨x,c,cv,t,b,rfl,ec,ty,e,q⟩:=h
 obtain ⟨u,w',rfl,ru,rw'⟩:=VJ r
 have ew:w'=cv:=by
  cases c with
  | ty n=>cases (show w'=Value.type n from rw');simpa [Va] using ec
  | ref a=>cases (show w'=Value.ref a from rw');simpa [Va] using ec
  | _=>simp [Va] at ec
 subst ew
 exact Ybs I ru ty e fun tk=>⟨.bl b,H,I.tok tk,rfl,q⟩
end
end L2
namespace L2
open PySem PySem.Spec PyProof.Rows
section
variable {prog:Program} {w:World} {A:Around} {E:Value→Shared→Prop} {s:Shared}
end
section
variable {prog:Program} {w:World} {A:Around} {E:Value→Shared→Prop} {s:Shared} {z TI TO i1 i2:Addr} {S1 S2:Nat→Heap→Prop} {R1 R2:Heap→(Nat→Option Value)→Prop} {g1 g2:Nat→Option Value} {k:Nat} {a b:Value}
end
end L2
namespace L2
open PySem PySem.Spec PyProof.Rows
section
variable {prog:Program} {w:World} {A:Around} {E:Value→Shared→Prop} {s:Shared}
end
section
variable {X:Cx} {pins:List (Addr×Obj)} {σ:St} {H:Hp} {s:Shared} {h':Heap}
theorem Inv.turnedL {t':Nat} {ch:List Addr} (I:Inv X pins σ H s) (k:∀ b o,b∉ch→s.heap.get? b=some o→h'.get? b=some o) (hf:∀ b∈ch,XU X pins H b):Inv X pins σ H { s with heap:=h',toks:=t' }:=by
 have nit:∀ b u,H b=some u→b∉ch:=fun b u e z=>by rw [(hf b z).1] at e;cases e
 refine I.step (g':=s.gens) (d':=s.drawn) (ch:=ch) (fun b hb=>?_) (fun b o _ _ hc e _=>k b o hc e) (fun b o _ _ hc e _=>⟨o.slots,k b o hc e⟩) (fun _ _ _ _ n=>n)
  (fun b o hc e=>⟨o,k b o hc e⟩) (fun _ _ e=>e) (fun _ _ _ e=>e) (fun b ps e=>⟨#[],by rw [e];simp⟩) (fun m hm=>?_) (fun b u e=>?_) I.bare
 ·obtain ⟨f0,f1,f2,f3,f4,f5⟩:=hf b hb
  exact ⟨f3,f1,f4,f5⟩
 ·obtain ⟨o,es,ep,ho,r⟩:=hm
  exact ⟨o,es,ep,k _ o (fun z=>(hf _ z).2.1 rfl) ho,r⟩
 ·refine (I.hok b u e).stay (fun c v hc q=>k c v ?_ q) (fun _ q=>q) fun _ _ q=>q
  rcases hc with z | z
  ·rw [z];exact nit b u e
  ·exact nit c _ z
theorem Inv.turnedT {t':Nat} {ch:List Addr} {T:Addr} {vs:List V} (I:Inv X pins σ H s) (k:∀ b o,b∉ch→s.heap.get? b=some o→h'.get? b=some o) (hf:∀ b∈ch,XU X pins H b) (hT:s.heap.objs.size≤T)
  (new:Yz X.prog X.w (upd H T (.tup vs)) h' T (.tup vs)):Inv X pins σ (upd H T (.tup vs)) { s with heap:=h',toks:=t' }:=by
 have hn:H T=none:=I.hok.fresh hT
 have nit:∀ b u,H b=some u→b∉ch:=fun b u e z=>by rw [(hf b z).1] at e;cases e
 have nT:∀ b o,s.heap.get? b=some o→b≠T:=fun b o e z=>absurd (Heap.lt_size e) (by rw [z];exact Nat.not_lt.mpr hT)
 have up:∀ b u,H b=some u→upd H T (.tup vs) b=some u:=fun b u e=>by rw [Yb (Ye e hn)];exact e
 refine I.step (g':=s.gens) (d':=s.drawn) (ch:=ch) (fun b hb=>?_) (fun b o _ _ hc e _=>k b o hc e) (fun b o _ _ hc e _=>⟨o.slots,k b o hc e⟩) (fun b o _ e n=>by rw [Yb (nT b o e)];exact n)
  (fun b o hc e=>⟨o,k b o hc e⟩) (fun b xs e=>up b _ e) (fun b o u e=>up b _ e) (fun b ps e=>⟨#[],by rw [up b _ e];simp⟩) (fun m hm=>?_) (fun b u e=>?_) I.bare
 ·obtain ⟨f0,f1,f2,f3,f4,f5⟩:=hf b hb
  exact ⟨f3,f1,f4,f5⟩
 ·obtain ⟨o,es,ep,ho,r⟩:=hm
  exact ⟨o,es,ep,k _ o (fun z=>(hf _ z).2.1 rfl) ho,r⟩
 ·by_cases hb:b=T
  ·subst hb;rw [Yc] at e;cases e;exact new
  ·rw [Yb hb] at e
   refine (I.hok b u e).stay (fun c v hc q=>k c v ?_ q) (fun c q=>up c _ q) fun c xs q=>up c _ q
   rcases hc with z | z
   ·rw [z];exact nit b u e
   ·exact nit c _ z
end
end L2
namespace L2
open PySem PySem.Spec PyProof.Rows
section
variable {X:Cx} {elts:List Expr} {kk:Nat} {tpos:Pos}
theorem VR {J:It} {P:Hp→Prop} {xs:List V} (hJ:Wd J P xs) {src:List (Option Nat)} {g:TG} {te:TE} {σ:St} {H1:Hp} {Q:VK} {D:Addr} (Pv:Nat→List V→St→Hp→Prop)
  (h0:Pv 0 [] (YS src σ) (upd H1 D (.lst []))) (hP:∀ i ys σ' H',Pv i ys σ' H'→P H'∧H' D=some (.lst ys))
  (mono:∀ x σ H Q Q',(∀ σ' H',Q σ' H'→Q' σ' H')→g x σ H Q→g x σ H Q')
  (step:∀ i ys σ' H' x,xs[i]?=some x→Pv i ys σ' H'→g x σ' H' fun σ2 H4=>te σ2 H4 fun y H6=>H6 D=some (.lst ys)∧ys.length<sizeLine∧Pv (i+1) (ys++[y]) σ2 (upd H6 D (.lst (ys++[y]))))
  (fin:∀ ys σ' H',Pv xs.length ys σ' H'→Q (.ref D) H'):LC src J g Wt te σ H1 Q D :=
 Yc5 hJ Pv h0 hP (fun i ys σ' H' x hx p=>by
  refine mono _ _ _ _ _ ?_ (step i ys σ' H' x hx p)
  intro σ2 H4 q
  unfold Wt
  dsimp only
  rw [if_pos rfl]
  exact q) fin
theorem Wf (i:Nat):∀ x σ H Q Q',(∀ σ' H',Q σ' H'→Q' σ' H')→YM i x σ H Q→YM i x σ H Q':=fun _ _ _ _ _ h q=>h _ _ q
end
end L2
namespace L2
open PySem PySem.Spec PyProof.Rows
structure Gx where
 P:Program
 w:World
 K:PySem.W.Frag
 mg:Str→Option Value
 base:Heap
def Cx.gx (X:Cx):Gx:=⟨X.prog,X.w,X.K,X.mg,X.base⟩
def Gx.Raw (g:Gx) (x qual:Str) (st:Stmt) (ps:List Str):Prop:=∃ f fd,Fun g.K x qual st f fd∧YW g.K fd ps []∧g.mg x=some (.ref f)
def Gx.Fn (g:Gx) (k:Nat) (x:Str) (ps:List Str) (sp:Sp):Prop:=∃ f fd,FnOk g.P g.w g.K g.mg g.base CX0 k f fd ps sp∧YW g.K fd ps []∧PySem.W.keepIn g.K (.ref f)=true∧g.mg x=some (.ref f)
def Gx.RawM (g:Gx) (C:Addr) (m qual:Str) (st:Stmt) (ps:List Str):Prop:=∃ f fd,Fun g.K m qual st f fd∧YW g.K fd ps []∧Meth g.K C m f
def Gx.Me (g:Gx) (k:Nat) (C:Addr) (m:Str) (ps:List Str) (sp:Sp):Prop:=∃ f fd,FnOk g.P g.w g.K g.mg g.base CX0 k f fd ps sp∧YW g.K fd ps []∧Meth g.K C m f
def Gx.RawI (g:Gx) (x:Str) (C:Addr) (qual:Str) (st:Stmt) (ps:List Str):Prop:=∃ f fd,Fun g.K "__init__" qual st f fd∧YW g.K fd ps []∧Mk g.K C f∧g.mg x=some (.ref C)
def Gx.Ma (g:Gx) (k:Nat) (x:Str) (C:Addr) (ps:List Str) (sp:Sp):Prop:=∃ f fd,FnOk g.P g.w g.K g.mg g.base CX0 k f fd ps sp∧YW g.K fd ps []∧Mk g.K C f∧g.mg x=some (.ref C)
abbrev Gx.cx (g:Gx) (N:List Str) (qual:Str) (st:Stmt) (f:Addr) (cdv:Value) (A:Around) (outer:List Env) (s:Shared) (H:Hp) (E:XK):Cx:=(WJ CX0 g.P g.w g.K g.mg g.base N qual (Yi st) f cdv A outer s H E).nox
def Vb (g:Gx) (k:Nat) (N:List Str) (qual:Str) (st:Stmt) (sp:Sp):Prop:=∀ (f:Addr) (cdv:Value) (A:Around) (outer:List Env) (s:Shared) (H:Hp) (vs:List V) (Q:VK) (E:XK),Room k (g.cx N qual st f cdv A outer s H E).A→sp vs H Q E →
 ∃ t,PSs (g.cx N qual st f cdv A outer s H E) (Yy st) t∧t { nx:=fun _ H'=>Q .non H',rt:=Q } (Xw N vs) H
section
variable {g:Gx} {k:Nat} {x qual m:Str} {st:Stmt} {N ps:List Str} {sp:Sp} {C:Addr}
theorem Gx.Raw.fn (R:g.Raw x qual st ps) (S:FnScope N ps (Yi st)) (len:∀ vs H Q E,sp vs H Q E→vs.length=ps.length) (b:Vb g k N qual st sp):g.Fn (k+1) x ps sp:=by
 obtain ⟨f,fd,F,bd,hm⟩:=R
 exact ⟨f,fd,F.ok S len fun cdv A outer s H vs Q E hr h=>b f cdv A outer s H vs Q E hr h,bd,F.kp,hm⟩
theorem Gx.RawM.me (R:g.RawM C m qual st ps) (S:FnScope N ps (Yi st)) (len:∀ vs H Q E,sp vs H Q E→vs.length=ps.length) (b:Vb g k N qual st sp):g.Me (k+1) C m ps sp:=by
 obtain ⟨f,fd,F,bd,hm⟩:=R
 exact ⟨f,fd,F.ok S len fun cdv A outer s H vs Q E hr h=>b f cdv A outer s H vs Q E hr h,bd,hm⟩
theorem Gx.RawI.ma (R:g.RawI x C qual st ps) (S:FnScope N ps (Yi st)) (len:∀ vs H Q E,sp vs H Q E→vs.length=ps.length) (b:Vb g k N qual st sp):g.Ma (k+1) x C ps sp:=by
 obtain ⟨f,fd,F,bd,hm,hg⟩:=R
 exact ⟨f,fd,F.ok S len fun cdv A outer s H vs Q E hr h=>b f cdv A outer s H vs Q E hr h,bd,hm,hg⟩
theorem Gx.Fn.mono {j:Nat} (F:g.Fn j x ps sp) (h:j≤k):g.Fn k x ps sp:=by
 obtain ⟨f,fd,F,r⟩:=F
 exact ⟨f,fd,F.mono h,r⟩
theorem Gx.Me.mono {j:Nat} (F:g.Me j C m ps sp) (h:j≤k):g.Me k C m ps sp:=by
 obtain ⟨f,fd,F,r⟩:=F
 exact ⟨f,fd,F.mono h,r⟩
theorem Gx.Raw.none (R:g.Raw x qual st ps) (no:∀ vs H Q E,¬ sp vs H Q E):g.Fn k x ps sp:=by
 obtain ⟨f,fd,F,bd,hm⟩:=R
 exact ⟨f,fd,⟨fun vs H Q E h=>absurd h (no vs H Q E),fun A outer s H args us vs Q E _ _ _ _ h=>absurd h (no vs H Q E)⟩,bd,F.kp,hm⟩
theorem Gx.RawM.none (R:g.RawM C m qual st ps) (no:∀ vs H Q E,¬ sp vs H Q E):g.Me k C m ps sp:=by
 obtain ⟨f,fd,F,bd,hm⟩:=R
 exact ⟨f,fd,⟨fun vs H Q E h=>absurd h (no vs H Q E),fun A outer s H args us vs Q E _ _ _ _ h=>absurd h (no vs H Q E)⟩,bd,hm⟩
end
section
variable {g:Gx} {X:Cx} {k j:Nat} {x m:Str} {ps:List Str} {sp:Sp} {C:Addr} {e o:Expr} {es:List Expr} {t:TA} {ta:TE} {p pos apos:Pos}
theorem YK (F:g.Fn j x ps sp) (hr:Room k X.A) (ha:PA X (e::es) t) (hj:j≤k) (hX:X.gx=g) (hg:Gl X x) (hdb:(x==("__debug__":Str))=false)
  (he:starEach (e::es) X.env=(false,eval e X.env)::starEach es X.env) (hpl:(backTo pos (starEach es X.env)).any (·.1)=false):PE X (.Call (.Name x p) (e::es) [] pos) (VN sp [] E0 t):=by
 subst hX
 obtain ⟨f,fd,F,b,kp,hm⟩:=F
 exact Q3 F (hr.mono hj) hg hm kp b .nil Vn ha hdb he hpl
theorem YU {pl:Sem Bool} (F:g.Me j C m ps sp) (c:Cls g.K C) (hr:Room k X.A) (ho:PE X o ta) (ha:PA X (e::es) t) (hj:j≤k) (hX:X.gx=g)
  (hst:starEach (e::es) X.env=(false,eval e X.env)::starEach es X.env) (hpl:(backTo pos (starEach es X.env)).any (·.1)=false)
  (ht:eval (.Call (.Attribute o m apos) (e::es) [] pos) X.env=(do
   let ov ← eval o X.env
   standAt apos.atName
   let (f,first) ← holding [ov] (getMethod ov m pl)
   callWith pos f first (backTo pos (starEach (e::es) X.env)) (backToKw pos (keywordEach [] X.env)))):PE X (.Call (.Attribute o m apos) (e::es) [] pos) (YaF C m sp [] E0 ta t):=by
 subst hX
 obtain ⟨f,fd,F,b,hm⟩:=F
 exact Ydn ho c hm F (hr.mono hj) b .nil Vn ha hst hpl ht
theorem WU (F:g.Ma j x C ps sp) (hr:Room k X.A) (ha:PA X (e::es) t) (hj:j+1≤k) (hX:X.gx=g) (hg:Gl X x) (hdb:(x==("__debug__":Str))=false)
  (he:starEach (e::es) X.env=(false,eval e X.env)::starEach es X.env) (hpl:(backTo pos (starEach es X.env)).any (·.1)=false):PE X (.Call (.Name x p) (e::es) [] pos) (YaG C sp [] E0 t):=by
 subst hX
 obtain ⟨f,fd,F,b,M,hm⟩:=F
 exact Ydo M F (hr.mono hj) hg hm b .nil Vn ha hdb he hpl
theorem YD {id:String} {r:List V→Hp→VK→Prop} (hm:g.mg x=none) (hc:Xv X (.builtin id) r) (ha:PA X (e::es) t) (hv:bootBuiltins x=some (.builtin id)) (hX:X.gx=g) (hg:Gl X x) (hn:x≠"__name__") (hdb:(x==("__debug__":Str))=false)
  (he:starEach (e::es) X.env=(false,eval e X.env)::starEach es X.env) (hpl:(backTo pos (starEach es X.env)).any (·.1)=false):PE X (.Call (.Name x p) (e::es) [] pos) (tCB r t):=by
 subst hX
 exact Yci hc hg hm hv ha hn hdb he hpl
theorem YaK {T:String} {r:List V→Hp→VK→Prop} (hm:g.mg x=none) (hc:Xv X (.type T) r) (ha:PA X (e::es) t) (hv:bootBuiltins x=some (.type T)) (hX:X.gx=g) (hg:Gl X x) (hn:x≠"__name__") (hdb:(x==("__debug__":Str))=false)
  (he:starEach (e::es) X.env=(false,eval e X.env)::starEach es X.env) (hpl:(backTo pos (starEach es X.env)).any (·.1)=false):PE X (.Call (.Name x p) (e::es) [] pos) (tCB r t):=by
 subst hX
 exact Ybu hc hg hm hv ha hn hdb he hpl
theorem WV {T:String} (hm:g.mg x=none) (hv:bootBuiltins x=some (.type T)) (hX:X.gx=g) (hg:Gl X x) (hn:x≠"__name__") (hdb:(x==("__debug__":Str))=false):PE X (.Name x pos) (tC (.ty T)):=by
 subst hX
 exact Ydj hg hm hv rfl hn hdb
end
theorem Yed {H:Hp} {p:Addr} {o:HO} (h:H p=some o):upd H p o=H:=by
 funext b
 unfold upd
 split
 ·rename_i e;rw [e,h]
 ·rfl
def S (l:List Nat):Str:=⟨l.toArray⟩
theorem U8 (l:List Nat):(S l).cps.toList=l:=by simp [S]
theorem Xy (l:List Nat):(S l).length=l.length:=by simp [S,Str.length]
theorem Yc6 (a b:List Nat):S a++S b=S (a++b):=by
 show Str.append (S a) (S b)=S (a++b)
 simp [Str.append,S]
theorem S_inj {a b:List Nat} (h:S a=S b):a=b:=by
 have:=congrArg (fun x:Str=>x.cps.toList) h
 simpa [U8] using this
def UP (s:List Nat):List (List Nat)→List Nat
 | []=>[]
 | [x]=>x
 | x::y::r=>x++s++UP s (y::r)
theorem Yee (s:List Nat):∀ ys:List (List Nat),Txt.join (S s) (ys.map S)=S (UP s ys):=fun ys=>by
 have e:Txt.join (S s) (ys.map S)=Str.join (S s) (ys.map S):=eq_of_beq (join_plain_closes _ _)
 rw [e]
 induction ys with
 | nil=>rfl
 | cons x r ih =>
  cases r with
  | nil=>rfl
  | cons y r =>
   have ih':=ih (eq_of_beq (join_plain_closes _ _))
   show S x++S s++Str.join (S s) ((y::r).map S)=_
   rw [ih',Yc6,Yc6]
   rfl
end L2
namespace L2
open PySem PySem.Spec PyProof.Rows
section
variable {K:PySem.W.Frag} {h:Heap} {mg:Str→Option Value} {P:Program} {w:World} {base:Heap} {f C:Addr} {x qual m:Str} {st:Stmt} {ps:List Str} {oc kV dc pm cd ct:Value} {od an:Option Addr} {sl:Array (Option Value)}
theorem Y5 (X:K.In h) (G:h.Ns mainGlobals mg) (ps:List Str)
  (a:PySem.W.nsIn K mainGlobals x=some (some (.ref f))) (l:K.lookup f=some ⟨oc,od,.func (PySem.W.fnOf x x (YN st) (Yy st) (Yi st) .none kV dc pm an cd ct),sl⟩) (c:PySem.W.codeIn K cd x=true) (k:PySem.W.keepIn K (.ref f)=true)
  (b:∀ (kV doc pm:Value) (an:Option Addr) (cdv ct:Value) (us:List Value),us.length=ps.length→bindArgs (PySem.W.fnOf x x (YN st) (Yy st) (Yi st) .none kV doc pm an cdv ct) ⟨us,[]⟩=pure (ps.zip us)) :
  ∀ P w base,(Gx.mk P w K mg base).Raw x x st ps:=fun P w base =>
 have F:=Wr (st:=st) l c k
 ⟨f,_,F,F.binds b,PySem.W.mg_of X G a⟩
theorem YY (X:K.In h) (G:h.Ns mainGlobals mg) (ps:List Str)
  (a:PySem.W.findIn K (.ref C) m=some (some (.ref f))) (i:PySem.W.isFn K (.ref f)=true) (l:K.lookup f=some ⟨oc,od,.func (PySem.W.fnOf m qual (YN st) (Yy st) (Yi st) .none kV dc pm an cd ct),sl⟩) (c:PySem.W.codeIn K cd qual=true) (k:PySem.W.keepIn K (.ref f)=true)
  (b:∀ (kV doc pm:Value) (an:Option Addr) (cdv ct:Value) (us:List Value),us.length=ps.length→bindArgs (PySem.W.fnOf m qual (YN st) (Yy st) (Yi st) .none kV doc pm an cdv ct) ⟨us,[]⟩=pure (ps.zip us)) :
  ∀ P w base,(Gx.mk P w K mg base).RawM C m qual st ps:=fun P w base =>
 have F:=Wr (st:=st) l c k
 ⟨f,_,F,F.binds b,⟨a,i,k⟩⟩
theorem XW (X:K.In h) (G:h.Ns mainGlobals mg) (ps:List Str) (aC:PySem.W.nsIn K mainGlobals x=some (some (.ref C))) (mk:PySem.W.makesIn K C=true) (kc:PySem.W.keepIn K (.ref C)=true)
  (a:PySem.W.findIn K (.ref C) "__init__"=some (some (.ref f))) (i:PySem.W.isFn K (.ref f)=true) (l:K.lookup f=some ⟨oc,od,.func (PySem.W.fnOf "__init__" qual (YN st) (Yy st) (Yi st) .none kV dc pm an cd ct),sl⟩) (c:PySem.W.codeIn K cd qual=true) (k:PySem.W.keepIn K (.ref f)=true)
  (b:∀ (kV doc pm:Value) (an:Option Addr) (cdv ct:Value) (us:List Value),us.length=ps.length→bindArgs (PySem.W.fnOf "__init__" qual (YN st) (Yy st) (Yi st) .none kV doc pm an cdv ct) ⟨us,[]⟩=pure (ps.zip us)) :
  ∀ P w base,(Gx.mk P w K mg base).RawI x C qual st ps:=fun P w base =>
 have F:=Wr (st:=st) l c k
 ⟨f,_,F,F.binds b,⟨mk,a,i,kc⟩,PySem.W.mg_of X G aC⟩
end
def YbD (K:PySem.W.Frag) (mg:Str→Option Value) (st:Stmt) (x n:Str):Prop:=∃ f fd,Fun K n n st f fd∧(∀ (s:Shared) (u:Value),BindsTo s fd ⟨[u],[]⟩ [(x,u)])∧mg n=some (.ref f)
theorem YbE {K:PySem.W.Frag} {h:Heap} {mg:Str→Option Value} {f:Addr} {x n:Str} {st:Stmt} {oc kV dc pm cd ct:Value} {od an:Option Addr} {sl:Array (Option Value)} (X:K.In h) (G:h.Ns mainGlobals mg)
  (a:PySem.W.nsIn K mainGlobals n=some (some (.ref f))) (l:K.lookup f=some ⟨oc,od,.func (PySem.W.fnOf n n (YN st) (Yy st) (Yi st) .none kV dc pm an cd ct),sl⟩) (c:PySem.W.codeIn K cd n=true) (k:PySem.W.keepIn K (.ref f)=true)
  (b:∀ (kV doc pm:Value) (an:Option Addr) (cdv ct:Value) (s:Shared) (u:Value),BindsTo s (PySem.W.fnOf n n (YN st) (Yy st) (Yi st) .none kV doc pm an cdv ct) ⟨[u],[]⟩ [(x,u)]):YbD K mg st x n :=
 ⟨f,_,Wr (st:=st) l c k,b kV dc pm an cd ct,PySem.W.mg_of X G a⟩
end L2
namespace L2
open PySem PySem.Spec PyProof.Rows
section
variable {X:Cx}
theorem Q9 {a:Int} {m:Nat} (h:a.natAbs<2^m):Builtin.Int.intBits a≤m:=by
 unfold Builtin.Int.intBits
 split
 ·omega
 ·rename_i h0
  have h0:a.natAbs≠0:=by simpa using h0
  have:=(Nat.log2_lt h0).mpr h
  omega
def UQ (i j:Int):Prop:=∃ m n:Nat,i.natAbs<2^m∧j.natAbs<2^n∧m+n≤100000000
theorem UQ.ok {i j:Int} (h:UQ i j):IntMulOk i j:=by
 obtain ⟨m,n,h1,h2,h3⟩:=h
 exact IntMulOk.of_le (Q9 h1) (Q9 h2) (by omega)
def Yc7 (i j:Int):Prop:=0<j∧j.natAbs<2^9000
theorem Wu:OpR X (binaryOp .FloorDiv) (rI Yc7 fun i j => .int (i / j)):=opI fun i j _ _ _ _ _ hc q=>by
 have h1:(0:Int)<j:=hc.1
 have h2:=hc.2
 have h3:j.natAbs≠0:=by omega
 exact floordiv_int (by omega) (by rw [Int.fdiv_eq_ediv_of_nonneg i (by omega)];exact q) (.inl (PyProof.noPylong_of_log2 ((Nat.log2_lt h3).mpr h2)))
theorem WD {j:Int} (h:0<j) (h2:j<1073741824) {i:Int}:Yc7 i j:=⟨h,Nat.lt_of_lt_of_le (show j.natAbs<2^30 by omega) (Nat.pow_le_pow_right (by decide) (by decide))⟩
end
end L2
namespace L2
open PySem PySem.Spec PyProof.Rows
theorem Yef {CX:CXT} {P:Program} {w:World} {K:PySem.W.Frag} {mg:Str→Option Value} {base:Heap} {N:List Str} {qual:Str} {scope:Scope} {f:Addr} {cd:Value} {A:Around} {outer:List Env} {s:Shared} {H:Hp} {E:XK} :
  (WJ CX P w K mg base N qual scope f cd A outer s H E).K=K:=rfl
theorem nox_K {X:Cx}:X.nox.K=X.K:=rfl
section
variable {g:TG} {tb:TS} {D:Ends} {σ:St} {H:Hp}
theorem X5 {ta:TA} {n:Nat} (Pv:Nat→St→Hp→Prop) (ha:∀ R:List V→Hp→Prop,R [.int n] H→ta σ H R) (hn:n<2^62) (h0:Pv 0 σ H)
  (hs:∀ i σ H,i<n→Pv i σ H→g (.int i) σ H fun σ2 H2=>tb { D with nx:=Pv (i+1),ct:=Pv (i+1),bk:=D.nx } σ2 H2) (hd:∀ σ H,Pv n σ H→D.nx σ H):V8 (VG ta) g tb D σ H:=by
 refine ha _ ⟨n,rfl,by omega,by omega,?_⟩
 refine Ybm (lo:=0) (n:=n) Pv h0 (fun i σ H hi p=>?_) hd
 have e:(0:Int)+i=i:=by omega
 rw [e];exact hs i σ H hi p
end
end L2
namespace L2
open PySem PySem.Spec PyProof.Rows
section
variable {X:Cx}
theorem W2 (hc:X.calm=true:=by rfl):Xv X (.builtin "sum") (fun xs H Q=>∃ (p:Addr) (ns:List Int),xs=[.ref p]∧SqL X.K H p (ns.map V.int)∧Q (.int ns.sum) H):=by
 intro pins s σ H xs us Q I r h
 obtain ⟨p,ns,rfl,hq,q⟩:=h
 obtain ⟨u,rfl,rx⟩:=Wb r
 cases rx
 obtain ⟨its,r',pl,hz⟩:=I.list hq
 have hi:=YaH r'
 have hl:=pl.isList
 obtain ⟨xs,ex⟩:=hi.allInts.items
 rw [ex] at hl
 have e:preSum (numAt xs) xs.size=ns.sum:=by
  have h1:=nums_intItems (xs:=xs)
  rw [← ex] at h1
  have h2:=hi.numsOf
  rw [preSum_eq,List.take_of_length_le (by simp)]
  rw [← h1]
  exact congrArg List.sum h2
 refine sum_intListG (I.ok.hd hc) hl fun h' tk t' hk=>?_
 rw [e]
 exact ⟨.int _,H,I.kept (t':=tk) hk,⟨t',rfl⟩,q⟩
end
def Ite (G:Hp→List V→Prop):It :=
 ⟨fun i H=>∃ xs x,G H xs∧xs[i]?=some x,fun i H v H'=>∃ T,v = .ref T∧H T=none∧∀ xs x,G H xs→xs[i]?=some x→H'=upd H T (.tup [.int i,x]),fun i H=>∃ xs,G H xs∧xs.length≤i⟩
theorem YaL {P:Program} {w:World} {K:PySem.W.Frag} {elts:List Expr} {kk:Nat} {pos:Pos} {a e it:Addr} (ne:e≠it) (na:a≠e∧a≠it) :
  Turn P w K (.Tuple elts kk pos) (Ite fun H xs=>SqL K H a xs) [e,it] e (fun i h=>(∃ old,IsEnum h e it i old)∧h.IsListIter it a i) where
 mem:=by simp
 obj:=fun i h ⟨⟨old,he⟩,hi⟩ c hc=>by
  simp only [List.mem_cons,List.not_mem_nil,or_false] at hc
  rcases hc with rfl | rfl
  ·exact ⟨_,he,fun v z=>by cases z⟩
  ·obtain ⟨o,q,_,d⟩:=hi
   exact ⟨o,q,fun v z=>by rw [d] at z;cases z⟩
 keep:=fun i h h' ⟨⟨old,he⟩,hi⟩ q=>⟨⟨old,q e (by simp) _ he⟩,hi.at fun o z=>q it (by simp) o z⟩
 item:=by
  intro X hP hw hK hc i pins s σ H E I hf ⟨⟨old,he⟩,hi⟩ hg
  subst hP hw hK
  obtain ⟨xs,x,g1,hx⟩:=hg
  obtain ⟨its,rv,pl,hz⟩:=I.list g1
  obtain ⟨u,hu,ru⟩:=rv.get hx
  refine wpAny_pyNext_enum_item he hi pl.isList (x:=u) (by simpa using hu) ne fun h1 ho hi1 hT hsz kp=>?_
  refine ⟨_,rfl,?_⟩
  refine wpAny_letOwnedTupleGo_enum (s:={ s with heap:=h1,toks:=s.toks+1 }) ho fun h2 he2 sb=>?_
  have elt:e<s.heap.objs.size:=Heap.lt_size he
  have kp2:∀ c o,c∉[e,it]→s.heap.get? c=some o→h2.get? c=some o:=fun c o hm z=>by
   have c1:c≠e:=fun q=>hm (by simp [q])
   have c2:c≠it:=fun q=>hm (by simp [q])
   exact sb.extBut c o c1 (kp c o c1 c2 z)
  have hT2:h2.get? s.heap.objs.size=some { cls := .type "tuple",data := .seq #[.int i s.toks,u] }:=sb.extBut _ _ (Nat.ne_of_gt elt) hT
  have I':=I.turnedT (t':=s.toks+1) (h':=h2) (T:=s.heap.objs.size) (vs:=[.int i,x]) kp2 hf (Nat.le_refl _) (show Yz X.prog X.w _ h2 _ (.tup [.int i,x]) from ⟨by show 2≤sizeLine;decide,[.int i s.toks,u],.cons ⟨_,rfl⟩ (.cons ru .nil),_,hT2,rfl,_,rfl⟩)
  have fresh:H s.heap.objs.size=none:=I.hok.fresh (Nat.le_refl _)
  refine ⟨.ref s.heap.objs.size,_,I',rfl,⟨_,rfl,fresh,fun xs' x' g1' hx'=>?_⟩,⟨⟨_,by simpa using he2⟩,hi1.at fun o z=>sb.extBut _ _ (Ne.symm ne) z⟩,fun c hm=>?_⟩
  ·rw [I.list_inj g1' g1,hx] at hx'
   cases hx'
   rfl
  ·have h0:=(hf c hm).1
   have clt:c<s.heap.objs.size:=by
    simp only [List.mem_cons,List.not_mem_nil,or_false] at hm
    rcases hm with rfl | rfl
    ·exact elt
    ·obtain ⟨o,q,_⟩:=hi;exact Heap.lt_size q
   rw [Yb (Nat.ne_of_lt clt)]
   exact h0
 done:=by
  intro X hP hw hK hc i pins s σ H E I hf ⟨⟨old,he⟩,hi⟩ hg
  subst hP hw hK
  obtain ⟨xs,g1,hx⟩:=hg
  obtain ⟨its,rv,pl,hz⟩:=I.list g1
  have hl:=rv.length
  obtain ⟨f0,f1,f2,f3,f4,f5⟩:=hf it (by simp)
  exact wpAny_pyNext_enum_end (I.ok.hd hc) he hi pl.isList (by simp;omega) fun h' eb=>⟨rfl,I.turned (t':=s.toks) (fun b o hb z=>eb b o hb z) f0 f1 f3 f4 f5⟩
 self:=fun _ _ _ _ _ ⟨⟨_,he⟩,_⟩ h=>wpAny_pyIter_enum he h
section
variable {X:Cx} {elts:List Expr} {kk:Nat} {tpos:Pos}
def YbF (K:PySem.W.Frag) (ta:TA):TI:=fun σ H R=>ta σ H fun vs H1=>∃ a xs,vs=[.ref a]∧SqL K H1 a xs∧R (Ite fun H xs=>SqL K H a xs) H1
theorem Ycm {a:Expr} {ta:TA} {p pos:Pos} (hg:Gl X "enumerate") (hm:X.mg "enumerate"=none) (ha:PA X [a] ta) (hs:starEach [a] X.env=[(false,eval a X.env)]) :
  PI X (.Tuple elts kk tpos) (.Call (.Name "enumerate" p) [a] [] pos) (YbF X.K ta):=by
 intro pins s σ H R I h
 refine Call_ (XN I hg hm boot_enumerate (PyProof.Rows.callWith_type1 (thn (ha pos pins s σ H _ I h) fun us s1 ⟨vs,H1,I1,r1,q1⟩=>?_) hs rfl))
 obtain ⟨x,xs,e,hx,q⟩:=q1
 subst e
 obtain ⟨u,rfl,ru⟩:=Wb r1
 cases ru
 obtain ⟨i1,_,pl,_⟩:=I1.list hx
 have l1:x<s1.heap.objs.size:=by obtain ⟨_,e,_⟩:=pl.isList;exact Heap.lt_size e
 refine call_enumerate_list pl.isList fun h' he hi hsz keep=>?_
 refine wpAny_pyIter_enum he ?_
 have I2:Inv X pins σ H1 { s1 with heap:=h' }:=I1.kept (t':=s1.toks) keep
 have l1':@LT.lt Nat _ x s1.heap.objs.size:=l1
 refine ⟨_,[s1.heap.objs.size+1,s1.heap.objs.size],_,_,H1,rfl,I2,YaL (by intro z;have z':@Eq Nat _ _:=z;omega) ⟨by intro z;have z':@Eq Nat _ _:=z;omega,by intro z;have z':@Eq Nat _ _:=z;omega⟩,⟨⟨_,he⟩,hi⟩,fun c hc=>?_,q⟩
 have hle:s1.heap.objs.size≤c:=by
  simp only [List.mem_cons,List.not_mem_nil,or_false] at hc
  rcases hc with e | e<;>(have e':@Eq Nat _ _:=e;show @LE.le Nat _ s1.heap.objs.size c;omega)
 exact I1.fpOk hle (I1.hok.fresh hle)
end
end L2
namespace L2
open PySem PySem.Spec PyProof.Rows
mutual
inductive Den (K:PySem.W.Frag) (H:Hp):V→PyData→Prop
 | non:Den K H .non .none
 | bl (b:Bool):Den K H (.bl b) (.bool b)
 | int (i:Int):Den K H (.int i) (.int i)
 | str (x:Str) (h:PyData.strOk x=true):Den K H (.str x) (.str x)
 | lst {a:Addr} {vs:List V} {ds:List PyData}:SqL K H a vs→Dens K H vs ds→Den K H (.ref a) (.list ds)
 | tup {a:Addr} {vs:List V} {ds:List PyData}:SqT K H a vs→Dens K H vs ds→Den K H (.ref a) (.tuple ds)
inductive Dens (K:PySem.W.Frag) (H:Hp):List V→List PyData→Prop
 | nil:Dens K H [] []
 | cons {v:V} {d:PyData} {vs:List V} {ds:List PyData}:Den K H v d→Dens K H vs ds→Dens K H (v::vs) (d::ds)
end
mutual
theorem Den.keep {K:PySem.W.Frag} {H H':Hp} (e:Yk H H'):∀ {v:V} {d:PyData},Den K H v d→Den K H' v d
 | _,_,.non => .non
 | _,_,.bl b => .bl b
 | _,_,.int i => .int i
 | _,_,.str x h => .str x h
 | _,_,.lst h hs => .lst (e.seq h) (hs.keep e)
 | _,_,.tup h hs => .tup (e.tup h) (hs.keep e)
theorem Dens.keep {K:PySem.W.Frag} {H H':Hp} (e:Yk H H'):∀ {vs:List V} {ds:List PyData},Dens K H vs ds→Dens K H' vs ds
 | _,_,.nil => .nil
 | _,_,.cons h hs => .cons (h.keep e) (hs.keep e)
end
mutual
theorem Den.lay {K:PySem.W.Frag} {H:Hp}:∀ {v:V} {d:PyData},Den K H v d→d.canLay0=true
 | _,_,.non=>rfl
 | _,_,.bl b=>rfl
 | _,_,.int i=>rfl
 | _,_,.str x h=>by simpa [PyData.canLay0] using h
 | _,_,.lst _ hs=>by rw [PyData.canLay0];exact hs.lay
 | _,_,.tup _ hs=>by rw [PyData.canLay0];exact hs.lay
theorem Dens.lay {K:PySem.W.Frag} {H:Hp}:∀ {vs:List V} {ds:List PyData},Dens K H vs ds→PyData.canLayAll0 ds=true
 | _,_,.nil=>rfl
 | _,_,.cons h hs=>by rw [PyData.canLayAll0,h.lay,hs.lay];rfl
end
section
variable {X:Cx}
mutual
theorem Den.reads {pins:List (Addr×Obj)} {σ:St} {H:Hp} {s:Shared} (I:Inv X pins σ H s):∀ {v:V} {d:PyData} {u:Value},Den X.K H v d→Ys v u→∃ as,Reads s.heap u d as
 | _,_,u,.non,r=>by cases (show u = .none from r);exact ⟨_,.none⟩
 | _,_,u,.bl b,r=>by cases (show u = .bool b from r);exact ⟨_,.bool b⟩
 | _,_,u,.int i,r=>by obtain ⟨t,rfl⟩:=r;exact ⟨_,.int i t⟩
 | _,_,u,.str x h,r=>by obtain ⟨t,rfl⟩:=r;exact ⟨_,.str x t⟩
 | _,_,u,.lst (a:=a) h hs,r=>by
  cases (show u = .ref a from r)
  obtain ⟨its,rv,pl,hz⟩:=I.list h
  obtain ⟨as,ra⟩:=hs.reads I rv
  obtain ⟨o,e1,e2,n,e3⟩:=pl.isList
  exact ⟨_,.list e1 e2 e3 (by simpa using ra)⟩
 | _,_,u,.tup (a:=a) h hs,r=>by
  cases (show u = .ref a from r)
  obtain ⟨its,rv,pl,hz⟩:=I.tuple h
  obtain ⟨as,ra⟩:=hs.reads I rv
  obtain ⟨o,e1,e2,n,e3⟩:=(show s.heap.IsTuple a its.toArray from pl)
  exact ⟨_,.tuple e1 e2 e3 (by simpa using ra)⟩
theorem Dens.reads {pins:List (Addr×Obj)} {σ:St} {H:Hp} {s:Shared} (I:Inv X pins σ H s):∀ {vs:List V} {ds:List PyData} {us:List Value},Dens X.K H vs ds→Ym vs us→∃ as,ReadsAll s.heap us ds as
 | _,_,us,.nil,r=>by cases r;exact ⟨_,.nil⟩
 | _,_,us,.cons h hs,r=>by
  cases r with
  | cons r rr =>
   obtain ⟨as,ra⟩:=h.reads I r
   obtain ⟨bs,rb⟩:=hs.reads I rr
   exact ⟨_,.cons ra rb⟩
end
theorem YbG (hu:X.A.units+64<cLine):OpR X (compareOp .Eq) (fun x y H Q=>∃ d e,Den X.K H x d∧Den X.K H y e∧d.depth≤64∧Q (.bl (PyData.eqv d e)) H):=by
 intro pins s σ H x y v u Q I rx ry h
 obtain ⟨d,e,hd,he,dp,q⟩:=h
 obtain ⟨as,ra⟩:=hd.reads I rx
 obtain ⟨bs,rb⟩:=he.reads I ry
 exact SeqAt.rcAt_reads ra rb hd.lay he.lay (by omega) _ _ _ _ ⟨.bl _,H,I,rfl,q⟩
theorem Yeg (hu:X.A.units+64<cLine):OpR X (compareOp .NotEq) (fun x y H Q=>∃ d e,Den X.K H x d∧Den X.K H y e∧d.depth≤64∧Q (.bl (!PyData.eqv d e)) H):=by
 intro pins s σ H x y v u Q I rx ry h
 obtain ⟨d,e,hd,he,dp,q⟩:=h
 obtain ⟨as,ra⟩:=hd.reads I rx
 obtain ⟨bs,rb⟩:=he.reads I ry
 exact SeqAt.compareNe_reads ra rb hd.lay he.lay (by omega) ⟨.bl _,H,I,rfl,q⟩
end
theorem Ux {α:Type} {l:List α} {i:Nat} {x:α} (h:l[i]?=some x):l.take (i+1)=l.take i++[x]:=by
 obtain ⟨hi,hc⟩:=List.getElem?_eq_some_iff.mp h
 rw [List.take_succ_eq_append_getElem hi,hc]
theorem U9 {J:It} {P:Hp→Prop} {xs:List V} (hJ:Wd J P xs) {src:List (Option Nat)} {te:TE} {σ:St} {H1:Hp} {Q:VK} {D:Addr} (ys:List V) (hP:∀ H',Yk H1 H'→P H') (hD:H1 D=none) (hl:ys.length=xs.length) (hlen:xs.length≤100000)
  (step:∀ (i:Nat) x y H',xs[i]?=some x→ys[i]?=some y→Yk H1 H'→∀ R:VK,(∀ H'',Yk H' H''→R y H'')→te (some x::YS src σ) H' R)
  (fin:∀ H',Yk H1 H'→H' D=some (.lst ys)→Q (.ref D) H'):LC (none::src) J (YM 0) Wt te σ H1 Q D:=by
 have h6:100000<sizeLine:=by decide
 refine VR hJ (fun i zs σ' H'=>zs=ys.take i∧(∃ o,σ'=o::YS src σ)∧Yk H1 H'∧H' D=some (.lst zs)) ⟨by simp,⟨none,rfl⟩,.upd_new hD _,Yc⟩ (fun i zs σ' H' p=>⟨hP _ p.2.2.1,p.2.2.2⟩) (Wf 0) ?_ ?_
 ·rintro i zs σ' H' x hx ⟨rfl,⟨o,rfl⟩,sm,hd⟩
  have hi:=(List.getElem?_eq_some_iff.mp hx).1
  have hy:ys[i]?=some (ys[i]'(by omega)):=List.getElem?_eq_getElem _
  show te (some x::YS src σ) H' _
  refine step i x _ H' hx hy sm _ fun H'' s2=>⟨s2 _ _ hd,?_,(Ux hy).symm,⟨_,rfl⟩,.upd_over hD (sm.trans s2) _,Yc⟩
  rw [List.length_take];omega
 ·rintro zs σ' H' ⟨rfl,_,sm,hd⟩
  rw [← hl,List.take_length] at hd
  exact fin H' sm hd
theorem QL (K:PySem.W.Frag) (i j:Nat):∀ x σ H Q Q',(∀ σ' H',Q σ' H'→Q' σ' H')→V7 K 2 (X4 (YM i) (X4 (YM j) V5)) x σ H Q→V7 K 2 (X4 (YM i) (X4 (YM j) V5)) x σ H Q':=by
 rintro x σ H Q Q' h ⟨a,xs,e,sq,l,v,r,e1,v2,r2,e2,e3,q⟩
 exact ⟨a,xs,e,sq,l,v,r,e1,v2,r2,e2,e3,h _ _ q⟩
end L2
namespace L2
open PySem PySem.Spec PyProof.Rows
section
variable {a b c d e r:TS} {D:Ends} {σ:St} {H:Hp} (M:St→Hp→Prop) (h1:∀ σ H,M σ H→r D σ H)
include h1
theorem cut1 (h2:∀ N:St→Hp→Prop,(∀ σ H,M σ H→N σ H)→a { D with nx:=N } σ H):Y8 a r D σ H:=h2 (r D) h1
theorem YaM (h2:∀ N:St→Hp→Prop,(∀ σ H,M σ H→N σ H)→Y8 a b { D with nx:=N } σ H):Y8 a (Y8 b r) D σ H:=h2 (r D) h1
theorem cut4 (h2:∀ N:St→Hp→Prop,(∀ σ H,M σ H→N σ H)→Y8 a (Y8 b (Y8 c d)) { D with nx:=N } σ H):Y8 a (Y8 b (Y8 c (Y8 d r))) D σ H:=h2 (r D) h1
theorem cut5 (h2:∀ N:St→Hp→Prop,(∀ σ H,M σ H→N σ H)→Y8 a (Y8 b (Y8 c (Y8 d e))) { D with nx:=N } σ H):Y8 a (Y8 b (Y8 c (Y8 d (Y8 e r)))) D σ H:=h2 (r D) h1
end
theorem Ydx (i j:Int):Yay (.int i) (.int j)=true:=rfl
theorem Y0 (i j:Str):Yay (.str i) (.str j)=true:=rfl
theorem Ycn {α:Type} (xs:List α) (i j:Nat):(xs.drop (min i xs.length)).take (min j xs.length - min i xs.length)=(xs.drop i).take (j - i):=by
 by_cases hi:i≤xs.length
 ·rw [Nat.min_eq_left hi]
  by_cases hj:j≤xs.length
  ·rw [Nat.min_eq_left hj]
  ·rw [Nat.min_eq_right (by omega),List.take_of_length_le (by rw [List.length_drop];omega),List.take_of_length_le (by rw [List.length_drop];omega)]
 ·rw [List.drop_of_length_le (by omega),List.drop_of_length_le (show xs.length≤i by omega)]
  simp
theorem Ydy (xs:List V) (i j:Nat):V9 xs (some (i:Int)) (some (j:Int))=(xs.drop i).take (j - i):=by
 unfold V9
 rw [HT.sIx_nat,HT.sIx_nat]
 exact Ycn xs i j
theorem Yco (ns:List Int) (i j:Nat):((ns.map V.int).drop i).take j=((ns.drop i).take j).map V.int:=by rw [List.map_take,List.map_drop]
end L2
namespace L2
open PySem PySem.Spec PyProof.Rows
theorem Xr {α:Type} {c:TT} {tb:TS} {D:Ends} {σ:St} {H:Hp} (Pv:α→St→Hp→Prop) (cond:α→Bool) (μ:α→Nat) (a₀:α) (h0:Pv a₀ σ H)
  (hc:∀ a σ H,Pv a σ H→∀ R:Bool→Hp→Prop,(∀ H',Pv a σ H'→R (cond a) H')→c σ H R)
  (hb:∀ a σ H,Pv a σ H→cond a=true→tb { D with nx:=fun σ' H'=>∃ a',Pv a' σ' H'∧μ a'<μ a,ct:=fun σ' H'=>∃ a',Pv a' σ' H'∧μ a'<μ a,bk:=D.nx } σ H)
  (hd:∀ a σ H,Pv a σ H→cond a=false→D.nx σ H):Ybj c tb D σ H:=by
 refine ⟨fun m σ H=>∃ a,m=μ a∧Pv a σ H,⟨_,a₀,rfl,h0⟩,?_⟩
 rintro m σ H ⟨a,rfl,p⟩
 refine hc a σ H p _ fun H' p'=>?_
 cases e:cond a with
 | true=>exact ⟨_,fun σ' H' ⟨a',q,l⟩=>⟨_,l,a',rfl,q⟩,hb a σ H' p' e⟩
 | false=>exact hd a σ H' p' e
section
variable {X:Cx} {tg:Expr}
def Itd (hi:Int) (n:Nat):It:=⟨fun i _=>i<n,fun i H x H'=>H'=H∧x = .int (hi - i),fun i _=>n≤i⟩
theorem YbH {P:Program} {w:World} {K:PySem.W.Frag} {tg:Expr} (it:Addr) (hi:Int) (n:Nat):Turn P w K tg (Itd hi n) [it] it (fun i h=>IsRangeIter h it (hi+(i:Nat)*(-1)) ((n:Int) - (i:Nat)) (-1)) where
 mem:=by simp
 obj:=fun i h st b hb=>by
  have e:b=it:=by simpa using hb
  subst e
  exact ⟨_,st,fun v z=>by
   have z':Data.fields _=Data.cell v:=z
   cases z'⟩
 keep:=fun i h h' st k=>k it (by simp) _ st
 item:=by
  intro X hP hw hK hc i pins s σ H E I hf st hg
  subst hP hw hK
  obtain ⟨f0,f1,f2,f3,f4,f5⟩:=hf it (by simp)
  have W:=Walks.range (prog:=X.prog) (w:=X.w) (I.ok.hd hc) it hi (-1) n
  refine W.item i s _ _ hg st fun v h' tk hv st' kk=>?_
  obtain ⟨t,rfl⟩:=hv
  have I1:Inv X pins σ H { s with heap:=h',toks:=tk }:=I.turned (fun b o hb e=>kk b o (by simpa using hb) e) f0 f1 f3 f4 f5
  refine ⟨_,rfl,UM (s:={ s with heap:=h',toks:=tk }) (n:="range_iterator") st' rfl rfl (by decide) ⟨.int (hi - i),H,I1,⟨t,?_⟩,⟨rfl,rfl⟩,st',fun b hb=>(hf b hb).1⟩⟩
  have:hi+(i:Int) * -1=hi - i:=by omega
  rw [this]
 done:=by
  intro X hP hw hK hc i pins s σ H E I hf st hg
  subst hP hw hK
  obtain ⟨f0,f1,f2,f3,f4,f5⟩:=hf it (by simp)
  exact wpAny_pyNext_range_end (I.ok.hd hc) st (by have:n≤i:=hg;omega) fun h' eb=>⟨rfl,I.turned (t':=s.toks) (fun b o hb e=>eb b o hb e) f0 f1 f3 f4 f5⟩
 self:=fun _ _ _ _ _ st h=>wpAny_pyIter_rangeiter st h
theorem YaN {a b:Int} (ha : -(2^62)≤a) (ha':a<2^62) (hb : -(2^62)≤b) (hb':b<2^62):Builtin.Range.small a b (-1)=true:=by
 have e:Builtin.Range.rangeSize a b (-1)=if a>b then a - b else 0:=by unfold Builtin.Range.rangeSize;simp
 unfold Builtin.Range.small
 rw [e]
 simp only [Builtin.Range.rangeFitsLong,Bool.and_eq_true,Bool.or_eq_true,decide_eq_true_eq,beq_iff_eq,show ¬ ((-1:Int)>0) by decide,if_false]
 split<;>omega
theorem Ydz {pins:List (Addr×Obj)} {σ:St} {H:Hp} {s:Shared} {R:It→Hp→Prop} {E:Value→Shared→Prop} {lo hi:Int} {t u v:Tok} {tk:Nat} (I:Inv X pins σ H s) (h1 : -(2^62)≤lo) (h2:lo<2^62) (h3 : -(2^62)≤hi) (h4:hi<2^62)
  (q:R (Itd lo (lo - hi).toNat) H):wpAny (model X.prog X.w) X.A (pyIter (.ref s.heap.objs.size)) (PIE X pins σ tg R) E { s with heap:=s.heap.push { cls := .type "range",data := .fields #[.int lo t,.int hi u,.int (-1) v] },toks:=tk }:=by
 refine wpAny_pyIter_range (IsRange.new ..) (YaN h1 h2 h3 h4) ?_
 have I1:Inv X pins σ H { s with heap:=s.heap.push { cls := .type "range",data := .fields #[.int lo t,.int hi u,.int (-1) v] },toks:=tk }:=I.kept fun b o e=>Heap.get?_push_of_some _ e
 refine ⟨(s.heap.push { cls := .type "range",data := .fields #[.int lo t,.int hi u,.int (-1) v] }).objs.size,[(s.heap.push { cls := .type "range",data := .fields #[.int lo t,.int hi u,.int (-1) v] }).objs.size],_,_,H,rfl,
  I1.kept (t':=tk) fun b o e=>Heap.get?_push_of_some _ e,YbH _ lo (lo - hi).toNat,?_,fun b hb=>?_,q⟩
 ·have e1:lo+((0:Nat):Int)*(-1)=lo:=by simp
  have e2:(((lo - hi).toNat:Nat):Int) - ((0:Nat):Int)=Builtin.Range.rangeSize lo hi (-1):=by unfold Builtin.Range.rangeSize;simp;split<;>omega
  show IsRangeIter _ _ (lo+((0:Nat):Int)*(-1)) ((((lo - hi).toNat:Nat):Int) - ((0:Nat):Int)) (-1)
  rw [e1,e2]
  exact Heap.get?_push_size _ rfl
 ·have e:b=(s.heap.push { cls := .type "range",data := .fields #[.int lo t,.int hi u,.int (-1) v] }).objs.size:=by simpa using hb
  subst e
  exact I1.fpOk (Nat.le_refl _) (I1.hok.fresh (Nat.le_refl _))
def Yc8 (ta:TA):TI:=fun σ H R=>ta σ H fun vs H1=>∃ i j:Int,vs=[.int i,.int j,.int (-1)]∧(-(2^62)≤i∧i<2^62 ∧ -(2^62)≤j∧j<2^62)∧R (Itd i (i - j).toNat) H1
theorem YbI {a b c:Expr} {ta:TA} {p pos:Pos} (hg:Gl X "range") (hm:X.mg "range"=none) (ha:PA X [a,b,c] ta) (hs:starEach [a,b,c] X.env=[(false,eval a X.env),(false,eval b X.env),(false,eval c X.env)]) (hs2:starEach [b,c] X.env=[(false,eval b X.env),(false,eval c X.env)]) :
  PI X tg (.Call (.Name "range" p) [a,b,c] [] pos) (Yc8 ta):=by
 intro pins s σ H R I h
 refine Call_ (XN I hg hm boot_range (PyProof.Rows.callWith_type1 (thn (ha pos pins s σ H _ I h) fun us s1 ⟨vs,H1,I1,r1,q1⟩=>?_) (by rw [hs,hs2]) (by rw [hs2];rfl)))
 obtain ⟨i,j,e,⟨q1,q2,q3,q4⟩,q⟩:=q1
 subst e
 cases r1 with
 | cons r rr =>
  cases rr with
  | cons r' rr =>
   cases rr with
   | cons r'' rr =>
    cases rr
    obtain ⟨t,rfl⟩:=r
    obtain ⟨t',rfl⟩:=r'
    obtain ⟨t'',rfl⟩:=r''
    exact call_range_3 (by decide) (Ydz I1 q1 q2 q3 q4 q) (.inl (PyProof.noPylong_small (by decide)))
end
end L2
namespace L2
open PySem PySem.Spec PyProof.Rows
theorem WW {g:TG} {tb:TS} {D:Ends} {σ:St} {H:Hp} {K:PySem.W.Frag} {tl:TE} {xs:List V} (Pv:Addr→Nat→St→Hp→Prop) (ha:∀ R:V→Hp→Prop,(∀ c H1,Pv c 0 σ H1→R (.ref c) H1)→tl σ H R) (hl:∀ c i σ H,i≤xs.length→Pv c i σ H→SqL K H c xs)
  (hs:∀ c (i:Nat) x σ H,xs[i]?=some x→Pv c i σ H→g x σ H fun σ2 H2=>tb { D with nx:=Pv c (i+1),ct:=Pv c (i+1),bk:=D.nx } σ2 H2) (hd:∀ c σ H,Pv c xs.length σ H→D.nx σ H):V8 (Vk K tl) g tb D σ H:=by
 refine ha _ fun c H1 h0=>⟨c,rfl,⟨xs,hl c 0 σ H1 (Nat.zero_le _) h0⟩,?_⟩
 exact Yce (Pv c) h0 (hl c) (hs c) (hd c)
theorem getI {ns:List Int} {i:Nat} {x:V} (h:(ns.map V.int)[i]?=some x):∃ z:Int,ns[i]?=some z∧x = .int z:=by
 rw [List.getElem?_map] at h
 cases e:ns[i]? with
 | none=>rw [e] at h;cases h
 | some z=>rw [e] at h;exact ⟨z,rfl,(Option.some.inj h).symm⟩
end L2
namespace L2
open PySem PySem.Spec PyProof.Rows
section
variable {src:List (Option Nat)} {te:TE} {σ:St} {H:Hp} {Q:VK}
theorem YaO {ta:TA} {n:Nat} (ys:List V) (ha:∀ R:List V→Hp→Prop,R [.int n] H→ta σ H R) (hl:ys.length=n) (hlen:n≤100000)
  (step:∀ (i:Nat) y H',i<n→ys[i]?=some y→Yk H H'→∀ R:VK,(∀ H'',Yk H' H''→R y H'')→te (some (.int i)::YS src σ) H' R)
  (fin:∀ D H',H D=none→Yk H H'→H' D=some (.lst ys)→Q (.ref D) H'):tLC (none::src) (VG ta) (YM 0) Wt te σ H Q:=by
 refine ha _ ⟨n,rfl,by omega,by omega,fun D hD=>?_⟩
 refine U9 (WK (lo:=0) (n:=n) (P:=fun _=>True)) ys (fun _ _=>trivial) hD (by simpa using hl) (by simpa using hlen) (fun i x y H' hx hy sm R r=>?_) fun H'=>fin D H' hD
 have hi:i<n:=by have:=(List.getElem?_eq_some_iff.mp hx).1;simpa using this
 rw [List.getElem?_map,List.getElem?_range hi] at hx
 have e:V.int (0+(i:Int))=x:=Option.some.inj hx
 rw [Int.zero_add] at e
 subst e
 exact step i y H' hi hy sm R r
theorem Ycp {K:PySem.W.Frag} {tl:TE} {a:Addr} {xs:List V} (ys:List V) (ha:∀ R:V→Hp→Prop,R (.ref a) H→tl σ H R) (hS:SqL K H a xs) (hl:ys.length=xs.length) (hlen:xs.length≤100000)
  (step:∀ (i:Nat) x y H',xs[i]?=some x→ys[i]?=some y→Yk H H'→∀ R:VK,(∀ H'',Yk H' H''→R y H'')→te (some x::YS src σ) H' R)
  (fin:∀ D H',H D=none→Yk H H'→H' D=some (.lst ys)→Q (.ref D) H'):tLC (none::src) (Vk K tl) (YM 0) Wt te σ H Q :=
 ha _ ⟨a,rfl,⟨xs,hS⟩,fun D hD=>U9 (We.imp fun H' (e:Yk H H')=>e.seq hS) ys (fun _ e=>e) hD hl hlen step fun H'=>fin D H' hD⟩
end
end L2
namespace L2
open PySem PySem.Spec PyProof.Rows
section
variable {src:List (Option Nat)} {te:TE} {σ:St} {H:Hp} {Q:VK}
end
section
variable {X:Cx} {K:PySem.W.Frag}
end
end L2
namespace L2
open PySem PySem.Spec PyProof.Rows
section
variable {tb:TS} {D:Ends} {σ:St} {H:Hp}
end
end L2
namespace L2
open PySem PySem.Spec PyProof.Rows
section
variable {X:Cx} {e st:Expr} {te ts:TE} {pos p2:Pos}
def tRev (K:PySem.W.Frag) (te ts:TE):TE:=fun σ H Q=>te σ H fun x H1=>ts σ H1 fun y H2=>y = .int (-1)∧∃ a xs,x = .ref a∧SqL K H2 a xs∧∀ p,H2 p=none→Q (.ref p) (upd H2 p (.lst xs.reverse))
end
end L2
namespace L2
open PySem PySem.Spec PyProof.Rows
section
variable {X:Cx} {pos:Pos}
theorem Yeh:OpR X (compareOp .Is) (fun x y H Q=>∃ a b,x = .bl a∧y = .bl b∧Q (.bl (a==b)) H):=by
 intro pins s σ H x y v u Q I rx ry h
 obtain ⟨a,b,rfl,rfl,q⟩:=h
 cases rx
 cases ry
 exact is_bool ⟨.bl _,H,I,rfl,q⟩
def rBits:V→List V→Hp→VK→Prop:=fun x vs H Q=>∃ i,x = .int i∧vs=[]∧Q (.int (Builtin.Int.intBits i:Nat)) H
def rFind:V→List V→Hp→VK→Prop:=fun x vs H Q=>∃ (z y:Str),x = .str z∧vs=[.str y]∧Q (.int (Txt.find z y)) H
def Yei:TE:=fun _ H Q=>∀ p,H p=none→Q (.ref p) (upd H p (.dK []))
end
def Gx.ConT (g:Gx) (x:Str) (xs:List V):Prop:=∃ c,g.mg x=some (.ref c)∧∀ H,SqT g.K H c xs
theorem YdA {K:PySem.W.Frag} {h:Heap} {mg:Str→Option Value} {x:Str} {i:Addr} {dc:Option Addr} {its:Array Value} {n:Nat} {sl:Array (Option Value)} {xs:List V} (X:K.In h) (G:h.Ns mainGlobals mg)
  (a:PySem.W.nsIn K mainGlobals x=some (some (.ref i))) (l:K.lookup i=some ⟨.type "tuple",dc,.seq its n,sl⟩) (hz:its.size≤sizeLine) (r:Ym xs its.toList):∀ P w base,(Gx.mk P w K mg base).ConT x xs :=
 fun P w base=>⟨i,PySem.W.mg_of X G a,fun H => .inr ⟨_,its,n,l,rfl,rfl,hz,r⟩⟩
section
variable {X:Cx} {g:Gx} {x:Str} {pos:Pos}
def Yc9 (K:PySem.W.Frag) (xs:List V):TE:=fun _ H Q=>∀ c,SqT K H c xs→Q (.ref c) H
theorem pe_gt {xs:List V} (F:g.ConT x xs) (hX:X.gx=g) (hg:Gl X x) (hd:(x==("__debug__":Str))=false):PE X (.Name x pos) (Yc9 g.K xs):=by
 subst hX
 obtain ⟨c,e,hc⟩:=F
 exact fun pins s σ H Q I h=>QY hg e (show Ys (.ref c) (.ref c) from rfl) hd pins s σ H Q I (h c (hc H))
end
end L2
namespace L2
open PySem PySem.Spec PyProof.Rows
theorem YL {c A B:Prop} [Decidable c] (h:¬ c) (hb:B):if c then A else B:=by rw [if_neg h];exact hb
theorem Xs {c A B:Prop} [Decidable c] (h:c) (ha:A):if c then A else B:=by rw [if_pos h];exact ha
section
variable {src:List (Option Nat)} {te:TE} {σ:St} {H:Hp} {Q:VK}
end
section
variable {X:Cx} {K:PySem.W.Frag} {o e:Expr} {es:List Expr} {to:TE} {t:TA} {name:Str} {apos cpos:Pos} {T id:String} {r:V→List V→Hp→VK→Prop}
end
section
variable {X:Cx}
def CMulC (i j:Int):Prop:=UQ i j∨CMul i j
theorem XX:OpR X (binaryOp .Mult) (rI CMulC fun i j => .int (i*j)):=opI fun _ _ _ _ _ _ _ hc q=>mul_int q (hc.elim (fun h=>h.ok) fun h=>h.ok)
end
end L2
namespace L2
open PySem PySem.Spec PyProof.Rows
section
variable {prog:Program} {w:World} {A:Around} {E:Value→Shared→Prop} {s:Shared} {z TI TO i1 i2 T:Addr} {S1 S2:Nat→Heap→Prop} {R1 R2:Heap→(Nat→Option Value)→Prop} {g1 g2:Nat→Option Value} {k:Nat} {a b:Value} {f:Bool} {oT:Obj}
end
section
variable {prog:Program} {w:World} {A:Around} {s:Shared} {R:Result→Shared→Prop} {z TI TO i1 i2 S p1 p2:Addr} {xs ys:List Value}
end
end L2
namespace L2
open PySem PySem.Calls PySem.Spec PyProof.Rows PyProof.V
section
variable {prog:Program} {w:World} {A:Around} {E:Value→Shared→Prop} {s:Shared} {z TI TO i1 i2 p1 p2:Addr} {xs ys:List Value}
end
end L2
namespace L2
open PySem PySem.Spec PyProof.Rows
section
variable {X:Cx} {pins:List (Addr×Obj)} {σ:St} {H H':Hp} {s:Shared} {h':Heap}
end
section
variable {X:Cx}
def tLZ (K:PySem.W.Frag) (ta:TA):TE:=fun σ H Q=>ta σ H fun vs H1=>∃ a b xs ys,vs=[.ref a,.ref b]∧SqT K H1 a xs∧SqT K H1 b ys∧xs.length=ys.length ∧
 ∀ (l:Addr) (as:List Addr) (H2:Hp),H1 l=none→Yk H1 H2→H2 l=some (.lst (as.map V.ref))→as.length=xs.length →
  (∀ (j:Nat) a x y,as[j]?=some a→xs[j]?=some x→ys[j]?=some y→H1 a=none∧H2 a=some (.tup [x,y]))→Q (.ref l) H2
end
end L2
namespace L2
open PySem PySem.Spec PyProof.Rows
section
variable {src:List (Option Nat)} {te:TE} {σ:St} {H:Hp} {Q:VK}
end
end L2
namespace L2
open PySem PySem.Spec PyProof.Rows
section
variable {X:Cx}
theorem Ycq {i:Nat} {x:Str} {pos':Pos} {pins:List (Addr×Obj)} {σ:St} {D0:Ends} (hN:X.N.Nodup) (hix:X.N[i]?=some x) (hlx:Loc X.env.scope x) (hf:X.fn x=true∨X.env.scope.names.lookup x=some .local) (D C:Addr) (s6:Shared) (H5:Hp)
  (fi:∀ h',Heap.SameBut C s6.heap h'→Inv X pins σ H5 { s6 with heap:=h' }) (hn:∃ m,s6.heap.Ns C m) (hCn:H5 C=none) (hC:∀ {H':Hp},H' C=none→XU X pins H' C) (qn:D0.nx (σ.set i (some (.ref D))) H5) :
  compPost (model X.prog X.w) X.A X.xe (some fun v=>assignAll v ((assignEach [.Name x pos'] X.env).map (·.2))) (fun _ s'=>wpAny (model X.prog X.w) X.A (pure PUnit.unit) (fun _ s'=>wpAny (model X.prog X.w) X.A (pure Flow.next) (SP X pins D0) X.xe s') X.xe s') (.ref D) C (.ok .next) s6:=by
 obtain ⟨m,oC,es,ep,hoC,rC⟩:=hn
 have IO:Inv X pins σ H5 s6:=fi s6.heap (Heap.SameBut.refl _ _)
 have IP:=IO.pinned (fp:=[C]) (fun b hb=>by rw [List.mem_singleton.mp hb];exact hC hCn) (fun b hb=>by rw [List.mem_singleton.mp hb];exact ⟨oC,hoC,fun v z=>by (rw [rC.1] at z;cases z)⟩)
 show wpAny _ _ (assign (.Name x pos') X.env (.ref D)) _ _ _
 refine thn (YJ hN hix hlx hf _ s6 σ H5 (.ref D) (.ref D) _ IP rfl qn) fun _ s7 ⟨σ7,H7,I7,q7⟩=>?_
 obtain ⟨g1,g2,_⟩:=I7.pin (C,oC) (List.mem_append_right _ (List.mem_append_right _ (XO (List.mem_singleton.mpr rfl) hoC)))
 refine ⟨m,⟨oC,es,ep,g1,rC⟩,fun h' sb=>wpAny_pure (wpAny_pure ⟨σ7,H7,?_,q7⟩)⟩
 exact I7.unpinned.turnedL (t':=s7.toks) (ch:=[C]) (fun b o hb e=>sb.extBut b o (fun z=>hb (by rw [z];exact List.mem_singleton.mpr rfl)) e) (fun b hb=>by rw [List.mem_singleton.mp hb];exact hC g2)
theorem YdB {i:Nat} {x:Str} {pos' apos:Pos} {elt tg iter:Expr} {ifs:List Expr} {scope:Scope} {pos:Pos} {src:List (Option Nat)} {N':List Str} {wi:TI} {g:TG} {tt:TT} {te:TE} (hN:X.N.Nodup) (hix:X.N[i]?=some x) (hlx:Loc X.env.scope x) (hcap:Cap X scope src N') (hc:X.calm=true) (hi:PI X tg iter wi)
  (hg:∀ cl C s₀ H₀ fp pn,PG (cxC X scope N' cl C s₀ H₀ fp pn) tg g) (ht:∀ cl C s₀ H₀ fp pn,PTs (cxC X scope N' cl C s₀ H₀ fp pn) ifs tt) (he:∀ cl C s₀ H₀ fp pn,PE (cxC X scope N' cl C s₀ H₀ fp pn) elt te)
  (hfree:∀ x,(x,NameKind.free)∈scope.names→X.env.scope.names.lookup x=some NameKind.cell∨X.env.scope.names.lookup x=some NameKind.free)
  (hk:scope.kind = .function) (hcell:∀ y∈scope.names,y.2 ≠ .cell) (hnames:∀ y∈scope.names,y.2 = .local→scope.names.lookup y.1=some .local)
  (hs:∀ x,foldedSetIterable iter X.env x=pure x) (hsw:swapsWithSole [.Name x pos'] (.ListComp elt [⟨tg,iter,ifs,0⟩] scope pos) apos.line X.env=pure true) (hf:X.fn x=true∨X.env.scope.names.lookup x=some .local) :
  PS X (.Assign [.Name x pos'] (.ListComp elt [⟨tg,iter,ifs,0⟩] scope pos) apos) (tAsg (tLC src wi g tt te) (YM i)):=by
 intro pins s σ H D0 I h
 obtain ⟨cl,hcl,a,b⟩:=VQ X.env scope fun x hx=>I.ok.has x (hfree x hx)
 rw [exec_Assign_arm]
 refine wpAny_bind (wpAny_standAt ?_)
 rw [hsw]
 refine wpAny_bind (wpAny_pure ?_)
 rw [if_pos rfl]
 refine wpAny_bind ?_
 rw [arm_evalThenUse_ListComp]
 refine wpAny_bind ?_
 refine wpAny_comprehension_free (use:=some _) rfl hs hcl hk hnames (thn (hi pins s σ H _ I h) fun v s1 h1=>thn h1 fun itv s2 h2=>?_)
 exact U7 (Po:=fun v C=>compPost (model X.prog X.w) X.A X.xe (some fun v=>assignAll v ((assignEach [.Name x pos'] X.env).map (·.2))) (fun _ s'=>wpAny (model X.prog X.w) X.A (pure PUnit.unit) (fun _ s'=>wpAny (model X.prog X.w) X.A (pure Flow.next) (SP X pins D0) X.xe s') X.xe s') v C) (Z:=fun _ _ _ _ _ _ _=>False) hcap hc (hg cl) (ht cl) (he cl) hk hcell a b h2 (Ycq hN hix hlx hf) fun _ _ _ _ _ _ _ _ z=>z.elim
end
end L2
namespace L2
open PySem PySem.Spec PyProof.Rows
def Yw {α:Type}:Sem α→Prop
 | .pure _=>True
 | .raise _=>True
 | .unsupported _=>True
 | .rule _ k=>Yw (k ())
 | .at _ k=>Yw (k ())
 | .load _ _ k=>∀ o,Yw (k o)
 | .update _ _ f k=>(∀ o:Obj,(f o).dict=o.dict∧(f o).isFreed=o.isFreed)∧Yw (k ())
 | .alloc _ k=>∀ a,Yw (k a)
 | .stack k=>∀ x,Yw (k x)
 | _=>False
def Xk (h:Heap) (e:Addr) (dc:Option Addr):Prop:=∃ o,h.get? e=some o∧o.dict=dc
theorem YbJ {α β:Type} {f:α→Sem β} (m:Sem α):Yw m→(∀ a,Yw (f a))→Yw (m.bind f):=by
 induction m with
 | pure a=>intro _ hf;exact hf a
 | raise e=>intro _ _;simp only [Sem.bind,Yw]
 | unsupported e=>intro _ _;simp only [Sem.bind,Yw]
 | rule n k ih=>intro h hf;simp only [Yw] at h;simp only [Sem.bind,Yw];exact ih () h hf
 | «at» n k ih=>intro h hf;simp only [Yw] at h;simp only [Sem.bind,Yw];exact ih () h hf
 | load a b k ih=>intro h hf;simp only [Yw] at h;simp only [Sem.bind,Yw];exact fun o=>ih o (h o) hf
 | update a b g k ih=>intro h hf;simp only [Yw] at h;simp only [Sem.bind,Yw];exact ⟨h.1,ih () h.2 hf⟩
 | alloc a k ih=>intro h hf;simp only [Yw] at h;simp only [Sem.bind,Yw];exact fun o=>ih o (h o) hf
 | stack k ih=>intro h hf;simp only [Yw] at h;simp only [Sem.bind,Yw];exact fun o=>ih o (h o) hf
 | _=>intro h;simp only [Yw] at h
theorem YdC {M:Model} {Γ:PySem.Ctx} {α:Type} {Q:α→Pos→Shared→Prop} {E:Value→Pos→Shared→Prop} {e:Addr} {dc:Option Addr} (t:Sem α):Yw t→∀ (p:Pos) (s:Shared),Sem.wp M Γ t Q E p s→Xk s.heap e dc→Sem.wp M Γ t (fun a p s'=>Q a p s'∧Xk s'.heap e dc) (fun v p s'=>E v p s'∧Xk s'.heap e dc) p s:=by
 induction t with
 | pure a=>intro _ p s h d;simp only [Sem.wp] at h ⊢;exact ⟨h,d⟩
 | raise a=>intro _ p s h d;simp only [Sem.wp] at h ⊢;exact ⟨h,d⟩
 | unsupported a=>intro _ p s h d;simp only [Sem.wp] at h
 | rule n k ih=>intro t p s h d;simp only [Yw] at t;simp only [Sem.wp] at h ⊢;exact ih () t p s h d
 | «at» n k ih=>intro t p s h d;simp only [Yw] at t;simp only [Sem.wp] at h ⊢;exact ih () t n s h d
 | load a b k ih=>intro t p s h d;simp only [Yw] at t;simp only [Sem.wp] at h ⊢;obtain ⟨o,h1,h2⟩:=h;exact ⟨o,h1,ih o (t o) p s h2 d⟩
 | update a b f k ih =>
  intro t p s h d
  simp only [Yw] at t
  simp only [Sem.wp] at h ⊢
  obtain ⟨o,d1,d2⟩:=d
  refine ⟨h.1,ih () t.2 p _ h.2 ?_⟩
  by_cases c:a=e
  ·subst c
   exact ⟨f o,Heap.get?_update_self f d1 (by rw [(t.1 o).2];exact (Heap.get?_some_iff.mp d1).2),by rw [(t.1 o).1];exact d2⟩
  ·exact ⟨o,(Heap.get?_update_other _ _ c).trans d1,d2⟩
 | alloc a k ih=>intro t p s h d;simp only [Yw] at t;simp only [Sem.wp] at h ⊢;obtain ⟨o1,d1,d2⟩:=d;exact ih _ (t _) p _ h ⟨o1,Heap.get?_push_of_some _ d1,d2⟩
 | stack k ih=>intro t p s h d;simp only [Yw] at t;simp only [Sem.wp] at h ⊢;exact ih _ (t _) p s h d
 | _=>intro t;simp only [Yw] at t
theorem Wv {M:Model} {A:Around} {α:Type} {t:Sem α} {Q:α→Shared→Prop} {E:Value→Shared→Prop} {s:Shared} {e:Addr} {dc:Option Addr} (T:Yw t) (d:Xk s.heap e dc) (h:wpAny M A t Q E s):wpAny M A t (fun a s'=>Q a s'∧Xk s'.heap e dc) (fun v s'=>E v s'∧Xk s'.heap e dc) s :=
 fun Γ p hΓ=>YdC t T p s (h Γ p hΓ) d
theorem YG {α β:Type} {m:Sem α} {f:α→Sem β} (h:Yw m) (hf:∀ a,Yw (f a)):Yw (m >>= f):=YbJ m h hf
theorem WO {α:Type} (a:α):Yw (pure a:Sem α):=trivial
theorem Yej {α:Type} (x:String):Yw (unsupported x:Sem α):=trivial
theorem YaP:Yw stack:=fun _=>trivial
theorem Ycr (a:Addr) (f:Obj→Obj) (h:∀ o:Obj,(f o).dict=o.dict∧(f o).isFreed=o.isFreed):Yw (update a f):=⟨h,trivial⟩
theorem UH (v:Value):Yw (fieldsOf v):=by
 unfold fieldsOf
 cases v<;>first | trivial | skip
 refine YG (fun o=>trivial) fun o=>?_
 cases o.data<;>trivial
theorem Wg (v:Value) (i:Nat):Yw (field v i):=by
 unfold field
 refine YG (UH v) fun vs=>?_
 cases vs[i]?<;>trivial
theorem mapF (f:Array Value→Array Value) (o:Obj):(Obj.mapFields f o).dict=o.dict∧(Obj.mapFields f o).isFreed=o.isFreed:=by
 obtain ⟨c,d,dt,sl⟩:=o
 cases dt<;>exact ⟨rfl,rfl⟩
theorem Vz (a:Addr) (i:Nat) (v:Value):Yw (updateField a i v):=by
 unfold updateField
 refine YG (fun o=>trivial) fun o=>?_
 cases o.data with
 | fields vs =>
  dsimp only
  split
  ·exact ⟨mapF _,trivial⟩
  ·trivial
 | _=>trivial
theorem XC (v:Value) (i:Nat) (x:Value):Yw (setField v i x):=by
 unfold setField
 cases v<;>first | trivial | exact Vz _ _ _
theorem XY (v:Value) (f:Option Addr):Yw (setFlight v f):=by
 unfold setFlight
 refine YG (Wg _ _) fun tb=>?_
 split
 ·exact XC _ _ _
 ·trivial
theorem UI (env:Env) (b:Bool) (l:List Env):Yw (keptBack env b l):=by
 cases l with
 | nil =>
  rw [keptBack]
  by_cases c:(env.scope.isGenerator||env.scope.isCoroutine)=true
  ·rw [if_pos c];exact WO _
  ·rw [if_neg c]
   refine YG ?_ fun x=>WO _
   unfold underTheClaimsCaller
   exact YG YaP fun x=>WO _
 | cons x r=>rw [keptBack];exact WO _
theorem VS:∀ l:List Env,Yw (readyFrames l)
 | []=>trivial
 | env::outer=>by
  unfold readyFrames
  cases env.frame with
  | none=>trivial
  | some f =>
   dsimp only
   refine YG (fun o=>trivial) fun o=>?_
   split
   ·trivial
   ·refine YG ?_ fun b=>YG (UI _ _ _) fun k=>YG (Ycr _ _ fun o=>by obtain ⟨c,d,dt,sl⟩:=o;cases dt<;>exact ⟨rfl,rfl⟩) fun _=>VS outer
    unfold behindIsImport
    split
    ·trivial
    ·split
     ·trivial
     ·exact YG (Wg _ _) fun x=>trivial
theorem Vc (env:Env):Yw (PySem.frameOf env):=by
 unfold PySem.frameOf frameEnvs
 refine YG (YG (fun x=>trivial) fun x=>trivial) fun l=>?_
 generalize l.dropWhile _=l'
 refine YG ?_ fun r=>?_
 ·cases l' with
  | nil=>trivial
  | cons x r =>
   unfold frameObject
   exact YG (VS _) fun _=>trivial
 ·cases r<;>trivial
theorem Uc (ty:String) (vs:List Value):Yw (newFields ty vs):=by
 unfold newFields newObj
 dsimp only
 split
 ·exact YG (Yej _) fun _=>YG (fun _=>trivial) fun _=>WO _
 ·exact YG (m:=alloc _) (fun _=>trivial) fun _=>WO _
theorem W3 (a b c d e:Value) (pl:List Value):Yw (EntryCells.newEntry a b c d e pl):=Uc _ _
theorem VT (f:Addr) (b:Bool):Yw (entryPlaceOf f b):=by
 unfold entryPlaceOf
 refine YG (fun x=>trivial) fun l=>?_
 split<;>trivial
theorem WP (e:Value) (env:Env):Yw (noteFrame e env):=by
 unfold noteFrame
 cases env.frame with
 | none=>trivial
 | some f =>
  dsimp only
  refine YG (Wg _ _) fun hd=>?_
  split
  ·refine YG (Wg _ _) fun x=>?_
   split
   ·trivial
   ·exact YG (XC _ _ _) fun _=>YG (Vc _) fun _=>YG (VT _ _) fun _=>YG (W3 _ _ _ _ _ _) fun _=>XC _ _ _
  ·exact YG (Vc _) fun _=>YG (VT _ _) fun _=>YG (W3 _ _ _ _ _ _) fun _=>XC _ _ _
theorem Vd (env:Env) (e:Value):Yw (leaving env e):=by
 unfold leaving
 exact YG (WP _ _) fun _=>XY _ _
structure Fly (P:Program) (w:World) (l:List Env) (H:Hp) (h:Heap) (e:Addr) (cls:Value) (H':Hp) (h' B:Heap):Prop where
 fl:∃ a0,Heap.FlyingW B l e cls a0 h'
 hok:HOk P w H' B
 keep:∀ b o,h.get? b=some o→H b=none→b∉frs l→B.get? b=some o
 slot:∀ b o,h.get? b=some o→H b=none→b∈frs l→∃ sl,h'.get? b=some { o with slots:=sl }
 al:∀ b o,h.get? b=some o→b∉frs l→∃ o',B.get? b=some o'
 free:∀ b o,h.get? b=some o→H b=none→H' b=none
 tups:∀ b xs,H b=some (.tup xs)→H' b=some (.tup xs)
 frzs:∀ b o u,H b=some (.frz o u)→H' b=some (.frz o u)
 tbls:∀ b ps,H b=some (.tbl ps)→∃ more,H' b=some (.tbl (ps++more))
section
variable {P:Program} {w:World} {l:List Env} {H H':Hp} {h h' h'' B:Heap} {e:Addr} {cls:Value}
theorem Fly.un (F:Fly P w l H h e cls H' h' B) (hf:∀ b∈frs l,H b=none):Un (frs l) [] H H' h h':=by
 obtain ⟨a0,fl⟩:=F.fl
 refine ⟨fun b o q n hb _=>fl.1 b o (F.keep b o q n hb),fun b o q n hb _=>F.slot b o q n hb,fun b o q n _=>F.free b o q n,fun b o q _=>?_,F.tups,F.frzs,F.tbls⟩
 by_cases hb:b∈frs l
 ·obtain ⟨sl,z⟩:=F.slot b o q (hf b hb) hb
  exact ⟨_,z⟩
 ·obtain ⟨o',z⟩:=F.al b o q hb
  exact ⟨o',fl.1 b o' z⟩
theorem Fly.held (F:Fly P w l H h e cls H' h' B):HOk P w H' h':=by
 obtain ⟨a0,fl⟩:=F.fl
 exact F.hok.kept fl.1
theorem Fly.on (F:Fly P w l H h e cls H' h' B) (fl:∃ a0,Heap.FlyingW B l e cls a0 h'') (nf:∀ b∈frs l,∀ o,h.get? b=some o→∀ vs,o.data ≠ .fields vs) (sm:h'.UpToSlots h''):Fly P w l H h e cls H' h'' B :=
 ⟨fl,F.hok,F.keep,fun b o q n hb=>by
  obtain ⟨sl,z⟩:=F.slot b o q n hb
  obtain ⟨sl',z'⟩:=sm b _ z (nf b hb o q)
  exact ⟨sl',z'⟩,F.al,F.free,F.tups,F.frzs,F.tbls⟩
end
section
variable {X:Cx} {pins:List (Addr×Obj)} {σ:St} {H H':Hp} {s s':Shared} {h' B:Heap} {e:Addr} {cls:Value} {M:Model} {A:Around} {Q:Unit→Shared→Prop} {EE:Value→Shared→Prop}
theorem Inv.notL (I:Inv X pins σ H s) {b:Addr} {o:Obj} (q:X.s₀.heap.get? b=some o):b≠X.env.locals:=Nat.ne_of_lt (Nat.lt_of_lt_of_le (Heap.lt_size q) I.ok.above)
theorem Inv.notStk (I:Inv X pins σ H s) (hf:X.env.frame=some X.env.locals) {b:Addr} {o:Obj} (q:X.s₀.heap.get? b=some o) (n:b∉X.fs):b∉frs (X.env::X.outer):=fun z=>by
 unfold frs at z
 rw [List.filterMap_cons,hf] at z
 rcases List.mem_cons.mp z with z | z
 ·exact I.notL q z
 ·exact n z
theorem Inv.inStk (I:Inv X pins σ H s) (hf:X.env.frame=some X.env.locals) {b:Addr} (n:b∈X.fs):b∈frs (X.env::X.outer):=by
 unfold frs
 rw [List.filterMap_cons,hf]
 exact List.mem_cons_of_mem _ n
theorem Inv.leave_on (I:Inv X pins σ H s) (hs:X.stack=X.env::X.outer) (hf:X.env.frame=some X.env.locals) (hex:X.ex=[]) (hA:A.frames=some (X.env::X.outer)) (F:Fly X.prog X.w X.stack H s.heap e cls H' s'.heap B) {dc:Option Addr} (hd:Xk s'.heap e dc)
  (hQ:∀ h'',Fly X.prog X.w X.outer X.H₀ X.s₀.heap e cls H' h'' B→Xk h'' e dc→Q () { s' with heap:=h'' }):wpAny M A (leaving X.env (.ref e)) Q EE s':=by
 have nx:∀ b:Addr,b∉X.ex:=by
  rw [hex]
  intro b z
  cases z
 rw [hs] at F
 obtain ⟨a0,fl⟩:=F.fl
 refine wpAny_mono (Wv (Vd _ _) hd (wpAny_leaves_onW (Q:=fun _ s2=>∃ h'',s2={ s' with heap:=h'' }∧Fly X.prog X.w X.outer X.H₀ X.s₀.heap e cls H' h'' B) hA hf fl fun h'' x1 x2=>⟨h'',rfl,?_⟩)) (fun _ s2 z=>by
  obtain ⟨⟨h'',rfl,F⟩,d⟩:=z
  exact hQ h'' F d) fun _ _ z=>z.1
 refine ⟨⟨_,x1⟩,F.hok,fun b o q n nb=>F.keep b o (I.base.keep b o q n nb (nx b)) (I.base.free b o q n (nx b)) (I.notStk hf q nb),fun b o q n hb=>?_,fun b o q nb=>?_,fun b o q n=>?_,fun b xs q=>F.tups b xs (I.base.tups b xs q),fun b o u q=>F.frzs b o u (I.base.frzs b o u q),fun b ps q=>?_⟩
 ·obtain ⟨sl,e1⟩:=I.base.slot b o q n hb (nx b)
  obtain ⟨sl1,e2⟩:=F.slot b _ e1 (I.base.free b o q n (nx b)) (I.inStk hf hb)
  obtain ⟨_,o',e',d⟩:=I.ok.funs.mem hb
  rw [q] at e'
  cases e'
  obtain ⟨sl',e3⟩:=x2 b _ e2 d
  exact ⟨sl',e3⟩
 ·obtain ⟨o',e1⟩:=I.base.there b o q (nx b)
  exact F.al b o' e1 (I.notStk hf q nb)
 ·obtain ⟨o',e1⟩:=I.base.there b o q (nx b)
  exact F.free b o' e1 (I.base.free b o q n (nx b))
 ·obtain ⟨m1,e1⟩:=I.base.tbls b ps q
  obtain ⟨m2,e2⟩:=F.tbls b _ e1
  exact ⟨m1++m2,by rw [e2,Array.append_assoc]⟩
end
def CXF (P:Program) (w:World):CXT:=fun l H s E e s'=>∃ (a:Addr) (cls:Value) (H':Hp) (B:Heap) (dc:Option Addr),e = .ref a∧s'.os=s.os∧AllBare s'.gens∧Fly P w l H s.heap a cls H' s'.heap B∧Xk s'.heap a dc∧E cls dc H'
abbrev Gx.cxX (g:Gx) (N:List Str) (qual:Str) (st:Stmt) (f:Addr) (cdv:Value) (A:Around) (outer:List Env) (s:Shared) (H:Hp) (E:XK):Cx:=WJ (CXF g.P g.w) g.P g.w g.K g.mg g.base N qual (Yi st) f cdv A outer s H E
section
variable {g:Gx} {N:List Str} {qual:Str} {st:Stmt} {f:Addr} {cdv:Value} {A:Around} {outer:List Env} {s:Shared} {H:Hp} {E:XK}
theorem passF:XB (CXF g.P g.w) (g.cxX N qual st f cdv A outer s H E) E:=by
 intro pins σ H1 s1 e s' I hq
 obtain ⟨a,cls,H',B,dc,he,os,bare,F,hd,q⟩:=hq
 subst he
 exact I.leave_on rfl rfl rfl I.ok.frames F hd fun h'' F' hd'=>⟨a,cls,H',B,dc,rfl,os.trans I.os,bare,F',hd',q⟩
end
def Gx.FnX (g:Gx) (k:Nat) (x:Str) (ps:List Str) (sp:Sp):Prop:=∃ f fd,FnOk g.P g.w g.K g.mg g.base (CXF g.P g.w) k f fd ps sp∧YW g.K fd ps []∧PySem.W.keepIn g.K (.ref f)=true∧g.mg x=some (.ref f)
def Yda (g:Gx) (k:Nat) (N:List Str) (qual:Str) (st:Stmt) (sp:Sp):Prop:=∀ (f:Addr) (cdv:Value) (A:Around) (outer:List Env) (s:Shared) (H:Hp) (vs:List V) (Q:VK) (E:XK),Room k (g.cxX N qual st f cdv A outer s H E).A→sp vs H Q E →
 ∃ t,PSs (g.cxX N qual st f cdv A outer s H E) (Yy st) t∧t { nx:=fun _ H'=>Q .non H',rt:=Q } (Xw N vs) H
section
variable {g:Gx} {k:Nat} {x qual m:Str} {st:Stmt} {N ps:List Str} {sp:Sp} {C:Addr}
theorem Gx.Raw.fnX (R:g.Raw x qual st ps) (S:FnScope N ps (Yi st)) (len:∀ vs H Q E,sp vs H Q E→vs.length=ps.length) (b:Yda g k N qual st sp):g.FnX (k+1) x ps sp:=by
 obtain ⟨f,fd,F,bd,hm⟩:=R
 refine ⟨f,fd,?_,bd,F.kp,hm⟩
 obtain ⟨oc,od,kV,doc,pm,an,cdv,ct,osl,rfl,lk,hcd⟩:=F.ex
 exact UO lk hcd S len fun A outer s H vs Q E hr h=>b f cdv A outer s H vs Q E hr h
theorem Gx.FnX.mono {j:Nat} (F:g.FnX j x ps sp) (h:j≤k):g.FnX k x ps sp:=by
 obtain ⟨f,fd,F,r⟩:=F
 exact ⟨f,fd,F.mono h,r⟩
end
section
variable {g:Gx} {X:Cx} {k j:Nat} {x:Str} {ps:List Str} {sp:Sp} {E:XK} {e:Expr} {es:List Expr} {t:TA} {p pos cpos np:Pos}
theorem Qa (F:g.FnX j x ps sp) (hr:Room k X.A) (hp:XB (CXF g.P g.w) X E) (ha:PA X (e::es) t) (hj:j≤k) (hX:X.gx=g) (hg:Gl X x) (hdb:(x==("__debug__":Str))=false)
  (he:starEach (e::es) X.env=(false,eval e X.env)::starEach es X.env) (hpl:(backTo pos (starEach es X.env)).any (·.1)=false):PE X (.Call (.Name x p) (e::es) [] pos) (VN sp [] E t):=by
 subst hX
 obtain ⟨f,fd,F,b,kp,hm⟩:=F
 exact Q3 F (hr.mono hj) hg hm kp b .nil hp ha hdb he hpl
theorem PS.nox {st:Stmt} {t:TS} (h:PS X.nox st t):PS X st t:=fun pins s σ H D I hw =>
 wpAny_mono (h pins s σ H D (I.wish _) hw) (fun _ _ q=>q.unwish) fun _ _ z=>False.elim z
abbrev VU:List Value:=[.type "ValueError",.type "Exception",.type "BaseException",.type "object"]
def Yek (C:Addr) (E:XK) (t:TA):TS:=fun _ σ H=>t σ H fun vs H1=>vs.length≤sizeLine∧E (.ref C) none H1
end
abbrev Cx.caught (X:Cx) (e:Addr):Cx:={ X with A:=X.A.mark (some (.ref e)),calm:=false,xe:=fun _ _=>False }
section
variable {X:Cx} {pins:List (Addr×Obj)} {σ:St} {H H' H1:Hp} {s s1 s':Shared} {e:Value} {D:Ends} {ts:TS} {b₀:Stmt} {suite:List Stmt} {c:Str} {cv:Value} {cp hpos:Pos}
theorem Inv.caught (I:Inv X pins σ H s) (a:Addr):Inv (X.caught a) pins σ H s :=
 ⟨⟨I.ok.mod,I.ok.kind,I.ok.glob,I.ok.blt,I.ok.above,I.ok.inj,I.ok.has,I.ok.cab,fun z=>(by cases z),I.ok.frames,I.ok.stk,I.ok.exf,I.ok.bs,I.ok.bsz,I.ok.noex,I.ok.exfs,I.ok.funs,I.ok.frf⟩,I.os,I.bare,I.base,I.loc,I.cell,I.free,I.freeC,I.pin,I.hok,I.len⟩
theorem Inv.uncaught {a:Addr} (hd:X.calm=true→X.A.handled=none) (I:Inv (X.caught a) pins σ H s):Inv X pins σ H s :=
 ⟨⟨I.ok.mod,I.ok.kind,I.ok.glob,I.ok.blt,I.ok.above,I.ok.inj,I.ok.has,I.ok.cab,hd,I.ok.frames,I.ok.stk,I.ok.exf,I.ok.bs,I.ok.bsz,I.ok.noex,I.ok.exfs,I.ok.funs,I.ok.frf⟩,I.os,I.bare,I.base,I.loc,I.cell,I.free,I.freeC,I.pin,I.hok,I.len⟩
theorem Inv.seen {a:Addr} {cls:Value} {B:Heap} (I:Inv X pins σ H1 s1) (F:Fly X.prog X.w X.stack H1 s1.heap a cls H' s'.heap B) (os:s'.os=s1.os) (bare:AllBare s'.gens):Inv X pins σ H' s' :=
 I.call' (ch:=[]) os (F.un I.stkFree) F.held bare fun b z=>nomatch z
theorem Inv.stkData (I:Inv X pins σ H1 s1):∀ b∈frs X.stack,∀ o,s1.heap.get? b=some o→∀ vs,o.data ≠ .fields vs:=fun b hb o q=>by
 obtain ⟨_,o',e',d⟩:=I.stack.mem hb
 rw [q] at e'
 cases e'
 exact d
end
def tTry (K:PySem.W.Frag) (cv:Value) (sp:Sp) (t:TA) (i:Nat) (ts:TS):TS:=fun D σ H=>t σ H fun vs H1=>sp (vs++[]) H1 (fun v H2=>D.nx (σ.set i (some v)) H2) (fun cls _ H2=>PySem.W.exmOne K cls cv=some true∧ts D σ H2)
section
variable {g:Gx} {X:Cx} {k j i:Nat} {x f c:Str} {ps:List Str} {sp:Sp} {e:Expr} {es:List Expr} {t:TA} {ts:TS} {b₀:Stmt} {suite:List Stmt} {cv:Value} {fp px cp hpos apos cpos pos:Pos}
end
end L2
namespace L2
open PySem PySem.Spec PyProof.Rows
def Ud (k:Nat) (G:Hp→List V→Prop):It :=
 ⟨fun i H=>∃ xs x,G H xs∧xs[i]?=some x,fun i H v H'=>∃ T,v = .ref T∧H T=none∧∀ xs x,G H xs→xs[i]?=some x→H'=upd H T (.tup [.int ((i+k:Nat):Int),x]),fun i H=>∃ xs,G H xs∧xs.length=i⟩
theorem Vt {P:Program} {w:World} {A:Around} {it:Addr} {fp:List Addr} {n:Nat} {R:Nat→Value→Prop} {St:Nat→Heap→Prop} (D:Draws P w A it fp n R St) (k:Nat) :
  Draws P w A it fp (n+k) (fun i v=>∃ j,i=j+k∧R j v) (fun i h=>∃ j,i=j+k∧St j h) where
 live:=fun i h ⟨j,_,st⟩=>D.live j h st
 frame:=fun i h h' ⟨j,e,st⟩ q=>⟨j,e,D.frame j h h' st q⟩
 item:=fun i s Q E hi ⟨j,e,st⟩ hQ=>by
  subst e
  exact D.item j s Q E (by omega) st fun x h' tk p st' sb=>hQ x h' tk ⟨j,rfl,p⟩ ⟨j+1,by omega,st'⟩ sb
 done:=fun s Q E ⟨j,e,st⟩ hE=>by
  have:j=n:=by omega
  subst this
  exact D.done s Q E st hE
theorem YbK {P:Program} {w:World} {K:PySem.W.Frag} {elts:List Expr} {kk:Nat} {pos:Pos} {a e it:Addr} {k:Nat} {G:Hp→List V→Prop} {inner:Nat→Heap→Prop} (ne:e≠it) (na:e≠a)
  (obj:∀ i h,inner i h→∃ o,h.get? it=some o∧∀ v,o.data ≠ .cell v) (keep:∀ i h h',inner i h→(∀ o,h.get? it=some o→h'.get? it=some o)→inner i h')
  (inj:∀ (X:Cx) pins σ H s xs ys,X.prog=P→X.w=w→X.K=K→Inv X pins σ H s→G H xs→G H ys→xs=ys)
  (dr:∀ (X:Cx) pins σ H s xs i,X.prog=P→X.w=w→X.K=K→X.calm=true→Inv X pins σ H s→G H xs→inner i s.heap→∃ its:List Value,Ym xs its∧∃ St:Nat→Heap→Prop,Draws P w X.A.in1 it [it,a] its.length (fun i v=>its[i]?=some v) St∧St i s.heap∧∀ i h,St i h→inner i h) :
  Turn P w K (.Tuple elts kk pos) (Ud k G) [e,it] e (fun i h=>(∃ old,IsEnum h e it ((i+k:Nat):Int) old)∧inner i h) where
 mem:=by simp
 obj:=fun i h ⟨⟨old,he⟩,hi⟩ c hc=>by
  simp only [List.mem_cons,List.not_mem_nil,or_false] at hc
  rcases hc with rfl | rfl
  ·exact ⟨_,he,fun v z=>by cases z⟩
  ·exact obj i h hi
 keep:=fun i h h' ⟨⟨old,he⟩,hi⟩ q=>⟨⟨old,q e (by simp) _ he⟩,keep i h h' hi fun o z=>q it (by simp) o z⟩
 item:=by
  intro X hP hw hK hc i pins s σ H E I hf ⟨⟨old,he⟩,hi⟩ hg
  obtain ⟨xs,x,g1,hx⟩:=hg
  obtain ⟨its,rv,St,D,hst,hin⟩:=dr X pins σ H s xs i hP hw hK hc I g1 hi
  subst hP hw hK
  have hlen:=rv.length
  have hil:i<xs.length:=(List.getElem?_eq_some_iff.mp hx).1
  refine wpAny_pyNext_enum_itemD (Vt D k) he ⟨i,rfl,hst⟩ (by omega) ne (fun z=>?_) fun u h1 tk hu ho hi1 hT hsz kp=>?_
  ·simp only [List.mem_cons,List.not_mem_nil,or_false] at z
   rcases z with z | z
   ·exact ne z
   ·exact na z
  refine ⟨_,rfl,?_⟩
  refine wpAny_letOwnedTupleGo_enum (s:={ s with heap:=h1,toks:=tk+1 }) ho fun h2 he2 sb=>?_
  have elt:e<s.heap.objs.size:=Heap.lt_size he
  have ilt:it<s.heap.objs.size:=by obtain ⟨o,q,_⟩:=obj i _ hi;exact Heap.lt_size q
  have kp2:∀ c o,c∉[e,it]→s.heap.get? c=some o→h2.get? c=some o:=fun c o hm z=>by
   have c1:c≠e:=fun q=>hm (by simp [q])
   have c2:c≠it:=fun q=>hm (by simp [q])
   exact sb.extBut c o c1 (kp c o c1 c2 z)
  obtain ⟨j,ej,hu⟩:=hu
  have ej:j=i:=by omega
  subst ej
  obtain ⟨u',hu',ru⟩:=rv.get hx
  rw [hu] at hu'
  cases hu'
  have hT2:h2.get? s.heap.objs.size=some { cls := .type "tuple",data := .seq #[.int ((j+k:Nat):Int) tk,u] }:=sb.extBut _ _ (Nat.ne_of_gt elt) hT
  have I':=I.turnedT (t':=tk+1) (h':=h2) (T:=s.heap.objs.size) (vs:=[.int ((j+k:Nat):Int),x]) kp2 hf (Nat.le_refl _) (show Yz X.prog X.w _ h2 _ (.tup [.int ((j+k:Nat):Int),x]) from ⟨by show 2≤sizeLine;decide,[.int ((j+k:Nat):Int) tk,u],.cons ⟨_,rfl⟩ (.cons ru .nil),_,hT2,rfl,_,rfl⟩)
  have fresh:H s.heap.objs.size=none:=I.hok.fresh (Nat.le_refl _)
  obtain ⟨j',ej',st'⟩:=hi1
  have ej':j'=j+1:=by omega
  subst ej'
  refine ⟨.ref s.heap.objs.size,_,I',rfl,⟨_,rfl,fresh,fun xs' x' g1' hx'=>?_⟩,⟨⟨u,?_⟩,keep _ _ _ (hin _ _ st') fun o z=>sb.extBut _ _ (Ne.symm ne) z⟩,fun c hm=>?_⟩
  ·rw [inj X pins σ H s _ _ rfl rfl rfl I g1' g1,hx] at hx'
   cases hx'
   rfl
  ·have e2:(((j+1+k:Nat)):Int)=((j+k:Nat):Int)+1:=by omega
   rw [e2]
   simpa using he2
  ·have h0:=(hf c hm).1
   have clt:c<s.heap.objs.size:=by
    simp only [List.mem_cons,List.not_mem_nil,or_false] at hm
    rcases hm with rfl | rfl
    ·exact elt
    ·exact ilt
   rw [Yb (Nat.ne_of_lt clt)]
   exact h0
 done:=by
  intro X hP hw hK hc i pins s σ H E I hf ⟨⟨old,he⟩,hi⟩ hg
  obtain ⟨xs,g1,hx⟩:=hg
  obtain ⟨its,rv,St,D,hst,hin⟩:=dr X pins σ H s xs i hP hw hK hc I g1 hi
  subst hP hw hK
  have hlen:=rv.length
  obtain ⟨f0,f1,f2,f3,f4,f5⟩:=hf it (by simp)
  exact wpAny_pyNext_enum_endD (Vt D k) he ⟨i,by omega,hst⟩ fun h' eb=>⟨rfl,I.turned (t':=s.toks) (fun b o hb z=>eb b o hb z) f0 f1 f3 f4 f5⟩
 self:=fun _ _ _ _ _ ⟨⟨_,he⟩,_⟩ h=>wpAny_pyIter_enum he h
section
variable {prog:Program} {w:World} {A:Around} {E:Value→Shared→Prop} {s:Shared}
open AutoSeq1 (wpAny_loadPart') in
end
section
variable {X:Cx} {elts:List Expr} {kk:Nat} {tpos:Pos}
end
section
variable {g:TG} {tb:TS} {D:Ends} {σ:St} {H:Hp}
theorem Ycs {k:Nat} {G:Hp→List V→Prop} {xs:List V} (Pv:Nat→St→Hp→Prop) (h0:Pv 0 σ H) (hl:∀ i σ H,i≤xs.length→Pv i σ H→G H xs)
  (hs:∀ i x σ H T,xs[i]?=some x→Pv i σ H→H T=none→g (.ref T) σ (upd H T (.tup [.int ((i+k:Nat):Int),x])) fun σ2 H2=>tb { D with nx:=Pv (i+1),ct:=Pv (i+1),bk:=D.nx } σ2 H2) (hd:∀ σ H,Pv xs.length σ H→D.nx σ H) :
  ∃ W:Nat→Nat→St→Hp→Prop,(∃ m,W 0 m σ H)∧∀ i m σ H,W i m σ H →
   ((Ud k G).stop i H∧D.nx σ H)∨((Ud k G).go i H∧∃ N:St→Hp→Prop,(∀ σ' H',N σ' H'→∃ m',m'<m∧W (i+1) m' σ' H')∧∀ x H',(Ud k G).yld i H x H'→g x σ H' fun σ2 H2=>tb { D with nx:=N,ct:=N,bk:=D.nx } σ2 H2):=by
 refine ⟨fun i m σ H=>m=xs.length - i∧i≤xs.length∧Pv i σ H,⟨xs.length,by simp,Nat.zero_le _,h0⟩,?_⟩
 rintro i m σ H ⟨rfl,hi,p⟩
 have q:=hl i σ H hi p
 by_cases hlt:i<xs.length
 ·have hx:xs[i]?=some xs[i]:=List.getElem?_eq_getElem hlt
  refine .inr ⟨⟨xs,_,q,hx⟩,Pv (i+1),fun σ' H' p'=>⟨xs.length - (i+1),by omega,rfl,hlt,p'⟩,?_⟩
  rintro v H' ⟨T,rfl,hT,heq⟩
  have e:=heq xs _ q hx
  subst e
  exact hs i _ σ H T hx p hT
 ·have e:i=xs.length:=by omega
  subst e
  exact .inl ⟨⟨xs,q,rfl⟩,hd σ H p⟩
end
end L2
namespace L2
open PySem PySem.Spec PyProof.Rows
section
variable {prog:Program} {w:World} {A:Around} {E:Value→Shared→Prop} {s:Shared}
theorem Ue (a b:Value):checkTypeCall "enumerate" ⟨[a],[("start",b)]⟩=pure ():=by kernel_rfl
theorem UJ (a b:Value):checkBuiltinCall "enumerate.__new__" ⟨[.type "enumerate",a],[("start",b)]⟩=pure ():=by kernel_rfl
theorem YaQ (obj a b:Value):argsOk "object.__init__" ⟨[obj,a],[("start",b)]⟩:=by first | decide +kernel | rfl | (unfold argsOk;kernel_rfl) | kernel_rfl
theorem QM {T newId:String} {self a b:Value} (hl:typeLookup (.type T) "__init__"=pure (some (.builtin "object.__init__"))) (hm:Bind.madeBy (.type T)=pure (some newId)) (hne:(some newId != some "object.__new__")=true) :
  Meets (Builtin.«object.__init__» ⟨[self,a],[("start",b)]⟩) (fun _ R s=>s.TypeIs self T∧R (.ok (.ret .none)) s):=by
 refine .of_wp fun prog w A R s hs=>?_
 obtain ⟨hT,hq⟩:=hs
 repeat (any_goals (first | wp_step | assumption))
 exact ⟨_,rfl,hq⟩
open AutoSeq1 (wpAny_loadPart') in
theorem QN (l:Addr) (o:Obj) (its:Array Value) (n:Nat) (t:Tok) (hc:o.cls = .type "list") (hd:o.data = .seq its n) :
  Meets (Builtin.«enumerate.__new__» ⟨[.type "enumerate",.ref l],[("start",.int 1 t)]⟩) (fun _ R s=>s.heap.get? l=some o ∧
   R (.ok (.ret (.ref (s.heap.push { cls := .type "list_iterator",data := .fields #[.ref l,.int 0 0] }).objs.size)))
    { s with heap:=(s.heap.push { cls := .type "list_iterator",data := .fields #[.ref l,.int 0 0] }).push { cls := .type "enumerate",data := .fields #[.none,.bool false,.ref s.heap.objs.size,rawInt 1,.none,.none] } }) :=
 .of_wp fun prog w A R s h=>by
  obtain ⟨hp,g,d,tk,os⟩:=s
  obtain ⟨hl,h⟩:=h
  have hsub:=sub_enumerate
  have hL:Heap.IsList (Shared.heap ⟨hp,g,d,tk,os⟩) l its:=⟨o,hl,hc,n,hd⟩
  wp_walk using wpAny_loadPart' hl
  refine wpAny_stack_any fun st=>wpAny_pure ?_
  split
  ·rename_i c _ _ _ _ _
   cases (c==Value.type "enumerate")
   ·wp_walk using wpAny_loadPart' hl,wpAny_pyIter_list hL
    exact ⟨_,rfl,h⟩
   ·wp_walk using wpAny_loadPart' hl,wpAny_pyIter_list hL
    exact ⟨_,rfl,h⟩
  ·wp_walk using wpAny_loadPart' hl,wpAny_pyIter_list hL
   exact ⟨_,rfl,h⟩
theorem QO {T newId:String} {Bn:Builtin} {args:List Value} {kw:List (Str×Value)} {S0:PySem.Spec} {Q:Value→Shared→Prop} (ft:TypeCalled T newId "object.__init__")
  (hct:checkTypeCall T ⟨args,kw⟩=pure ()) (hcn:checkBuiltinCall newId ⟨.type T::args,kw⟩=pure ()) (hok:∀ obj,argsOk "object.__init__" ⟨obj::args,kw⟩) (entryN:entryFor table newId=some Bn) (gn:Meets (Bn ⟨.type T::args,kw⟩) S0)
  (gi:∀ obj,Meets (Builtin.«object.__init__» ⟨obj::args,kw⟩) (fun _ R s=>s.TypeIs obj T∧R (.ok (.ret .none)) s))
  (h:S0 A.in1 (wants (fun obj s₁=>s₁.TypeIs obj T∧Q obj s₁) E) s):wpAny (model prog w) A (call (.type T) args kw) Q E s:=by
 have h1:=ft.notType
 have h2:=ft.canCreate
 have h3:=ft.made
 have h4:=ft.sub
 obtain ⟨c,tl,h5⟩:=ft.mro
 refine wpAny_call (codeAny_of_tree ?_)
 change wpAny _ _ (callAny (.type T) _) _ _ _
 refine wpAny_pure ⟨Code.quiet_builtin ⟨.type T::args,kw⟩ (by decide +kernel),codeAny_builtin F.entry_type_call ?_⟩
 rw [Around.under_plain (weight_type_call_type T args kw) (units_type_call_type T args kw)]
 repeat (any_goals (first | wp_step | assumption))
 refine codeAny_mono (codeAny_call_builtin ft.plain entryN (wpAny_of_eq hcn (gn prog w A.in1 _ s h))) fun r1 s1 z1=>?_
 cases r1 with
 | error e=>exact z1
 | ok f1 =>
  cases f1 with
  | ret obj =>
   obtain ⟨hT,hq⟩:=z1
   have h6:=ft.init.lookup
   have h7:=ft.init.bind obj
   repeat (any_goals (first | wp_step | assumption))
   refine codeAny_mono (codeAny_call_builtin ft.init.plain F.entry_object_init (ft.init.check _ _ _ _ _ _ _ _ hT (hok obj) (gi obj prog w A.in1 (wants (fun r s₂=>r = .none∧Q obj s₂) E) s1 ⟨hT,rfl,hq⟩))) fun r2 s2 z2=>?_
   cases r2 with
   | error e=>exact z2
   | ok f2 =>
    cases f2 with
    | ret r =>
     obtain ⟨rfl,hq⟩:=z2
     repeat (any_goals (first | wp_step | assumption))
    | _=>exact z2.elim
  | _=>exact z1.elim
theorem YaR {l:Addr} {its:Array Value} {t:Tok} {Q:Value→Shared→Prop} (hL:s.heap.IsList l its)
  (h:∀ h',IsEnum h' (s.heap.objs.size+1) s.heap.objs.size 1 .none→h'.IsListIter s.heap.objs.size l 0→(∀ b o,s.heap.get? b=some o→h'.get? b=some o)→Q (.ref (s.heap.objs.size+1)) { s with heap:=h' }) :
  wpAny (model prog w) A (call (.type "enumerate") [.ref l] [("start",.int 1 t)]) Q E s:=by
 obtain ⟨o,hl,hc,n,hd⟩:=hL
 refine QO F.called_enumerate (Ue _ _) (UJ _ _) (fun obj=>YaQ obj _ _) F.entry_enumerate_new (QN l o its n t hc hd) (fun obj=>QM F.called_enumerate.init.lookup F.called_enumerate.made (by decide)) ⟨hl,?_⟩
 have hz:(s.heap.push { cls := .type "list_iterator",data := .fields #[.ref l,.int 0 0] }).objs.size=s.heap.objs.size+1:=Heap.size_push ..
 change _∧_
 rw [hz]
 have he:IsEnum ((s.heap.push { cls := .type "list_iterator",data := .fields #[.ref l,.int 0 0] }).push { cls := .type "enumerate",data := .fields #[.none,.bool false,.ref s.heap.objs.size,rawInt 1,.none,.none] }) (s.heap.objs.size+1) s.heap.objs.size 1 .none:=by
  have z:=Heap.get?_push_size (s.heap.push { cls := .type "list_iterator",data := .fields #[.ref l,.int 0 0] }) (o:={ cls := .type "enumerate",data := .fields #[.none,.bool false,.ref s.heap.objs.size,rawInt 1,.none,.none] }) rfl
  rw [hz] at z
  exact z
 exact ⟨⟨_,he,rfl⟩,h _ he ⟨_,Heap.get?_push_of_some _ (Heap.get?_push_size _ rfl),rfl,rfl⟩ fun b o x=>Heap.get?_push_of_some _ (Heap.get?_push_of_some _ x)⟩
end
end L2
namespace L2
open PySem PySem.Spec PyProof.Rows
section
variable {X:Cx} {elts:List Expr} {kk:Nat} {tpos:Pos}
theorem YaS {P:Program} {w:World} {K:PySem.W.Frag} {pos:Pos} {a e it:Addr} (ne:e≠it) (na:e≠a) (nt:a≠it) :
  Turn P w K (.Tuple elts kk pos) (Ud 1 fun H xs=>SqL K H a xs) [e,it] e (fun i h=>(∃ old,IsEnum h e it ((i+1:Nat):Int) old)∧h.IsListIter it a i):=by
 refine YbK ne na (fun i h ⟨o,q,_,d⟩=>⟨o,q,fun v z=>by rw [d] at z;cases z⟩) (fun i h h' ⟨o,q,r⟩ k=>⟨o,k o q,r⟩) (fun X pins σ H s xs ys hP hw hK I g1 g2=>?_) (fun X pins σ H s xs i hP hw hK hc I g1 hi=>?_)
 ·subst hP hw hK
  exact I.list_inj g1 g2
 ·subst hP hw hK
  obtain ⟨its,rv,pl,hz⟩:=I.list g1
  refine ⟨its,rv,fun i h=>h.IsListIter it a i∧h.IsList a its.toArray,by simpa using Draws.list (prog:=X.prog) (w:=X.w) (A:=X.A.in1) (I.ok.hd hc) it a nt its.toArray,⟨hi,pl.isList⟩,fun i h st=>st.1⟩
def YbL (K:PySem.W.Frag) (ta:TA):TI:=fun σ H R=>ta σ H fun vs H1=>∃ a xs,vs=[.ref a]∧SqL K H1 a xs∧R (Ud 1 fun H xs=>SqL K H a xs) H1
theorem Yct {a:Expr} {ta:TA} {p pos cp kp:Pos} {cj:Nat} (hg:Gl X "enumerate") (hm:X.mg "enumerate"=none) (ha:PA X [a] ta) (he:starEach [a] X.env=(false,eval a X.env)::starEach [] X.env) :
  PI X (.Tuple elts kk tpos) (.Call (.Name "enumerate" p) [a] [⟨some "start",.Constant (.int 1) cj cp,kp⟩] pos) (YbL X.K ta):=by
 intro pins s σ H R I h
 refine wpAny_Call_ofName (XN I hg hm boot_enumerate ?_)
 refine PySem.W.callWith_of (P:=fun _=>True) (by rw [he];rfl) (fun h _=>⟨_,.inr (.inl rfl),PySem.W.Looks.of_pure rfl⟩) (PyProof.Rows.evalArgs_kw2 rfl (thn (ha pos pins s σ H _ I h) fun us s1 hz=>?_) he)
 obtain ⟨vs,H1,I1,r1,x,xs,e,hx,q⟩:=hz
 refine thn (Ydp (X:=X) (nm:=some "start") (kpos:=kp) (Yj (X:=X)) Yd9 pos pins s1 σ H1 (fun vs H2=>vs=[.int 1]∧H2=H1) I1 ⟨rfl,rfl⟩) fun ws s2 hz=>⟨trivial,?_⟩
 obtain ⟨zs,H2,I2,r2,rfl,rfl⟩:=hz
 subst e
 obtain ⟨u,rfl,ru⟩:=Wb r1
 cases ru
 obtain ⟨u2,rfl,t2,rfl⟩:=Wb r2
 obtain ⟨i1,_,pl,_⟩:=I2.list hx
 have l1:x<s2.heap.objs.size:=by obtain ⟨_,e,_⟩:=pl.isList;exact Heap.lt_size e
 refine YaR pl.isList fun h' he hi keep=>?_
 refine wpAny_pyIter_enum he ?_
 have I3:Inv X pins σ H2 { s2 with heap:=h' }:=I2.kept (t':=s2.toks) keep
 have l1':@LT.lt Nat _ x s2.heap.objs.size:=l1
 refine ⟨_,[s2.heap.objs.size+1,s2.heap.objs.size],_,_,H2,rfl,I3,YaS (by intro z;have z':@Eq Nat _ _:=z;omega) (by intro z;have z':@Eq Nat _ _:=z;omega) (by intro z;have z':@Eq Nat _ _:=z;omega),⟨⟨_,he⟩,hi⟩,fun c hc=>?_,q⟩
 have hle:s2.heap.objs.size≤c:=by
  simp only [List.mem_cons,List.not_mem_nil,or_false] at hc
  rcases hc with e | e<;>(have e':@Eq Nat _ _:=e;show @LE.le Nat _ s2.heap.objs.size c;omega)
 exact I2.fpOk hle (I2.hok.fresh hle)
end
section
variable {g:TG} {tb:TS} {D:Ends} {σ:St} {H:Hp}
theorem YaT {K:PySem.W.Frag} {ta:TA} {a:Addr} {xs:List V} (Pv:Nat→St→Hp→Prop) (ha:∀ R:List V→Hp→Prop,R [.ref a] H→ta σ H R) (h0:Pv 0 σ H) (hl:∀ i σ H,i≤xs.length→Pv i σ H→SqL K H a xs)
  (hs:∀ i x σ H T,xs[i]?=some x→Pv i σ H→H T=none→g (.ref T) σ (upd H T (.tup [.int ((i+1:Nat):Int),x])) fun σ2 H2=>tb { D with nx:=Pv (i+1),ct:=Pv (i+1),bk:=D.nx } σ2 H2) (hd:∀ σ H,Pv xs.length σ H→D.nx σ H):V8 (YbL K ta) g tb D σ H:=by
 refine ha _ ⟨a,xs,rfl,hl 0 σ H (Nat.zero_le _) h0,?_⟩
 exact Ycs Pv h0 hl (fun i x σ H T hx p hT=>hs i x σ H T hx p hT) hd
end
section
variable {X:Cx} {tg:Expr}
end
end L2
namespace L2
open PySem PySem.Spec PyProof.Rows
def Wa (a:Addr) (cls:Value) (dc:Option Addr):HO := .ext fun h=>∃ o vs,h.get? a=some o∧o.cls=cls∧o.data = .fields vs∧o.dict=dc
section
variable {P:Program} {w:World} {l:List Env} {H H':Hp} {h h' h'' B:Heap} {a e:Addr} {cls:Value} {o:HO}
theorem Yz.alive (x:Yz P w H h a o):∃ u,h.get? a=some u:=by
 cases o with
 | lst xs=>obtain ⟨_,_,_,_,e⟩:=x;exact ⟨_,e⟩
 | tup xs=>obtain ⟨_,_,_,u,e,_⟩:=x;exact ⟨_,e⟩
 | dK kvs=>obtain ⟨_,_,_,_,o,_,_,e,_⟩:=x;exact ⟨_,e⟩
 | dT kvs=>obtain ⟨_,_,_,_,o,_,_,e,_⟩:=x;exact ⟨_,e⟩
 | set S n=>obtain ⟨o,_,_,_,e,_⟩:=x;exact ⟨_,e⟩
 | ins C dx fs=>obtain ⟨_,_,_,e,_⟩:=x;exact ⟨_,e⟩
 | own y=>exact x
 | xd fs=>obtain ⟨_,⟨_,_,_,e,_⟩,_⟩:=x;exact ⟨_,e⟩
 | rng lo hi=>obtain ⟨_,_,_,e⟩:=x;exact ⟨_,e⟩
 | frz ob u=>obtain ⟨e,_⟩:=x;exact ⟨_,e⟩
 | tbl ps=>exact ⟨_,(show h.get? a=some _ from x)⟩
 | met f y=>exact ⟨_,(show h.get? a=some _ from x)⟩
 | ext φ=>exact x.2.1
theorem Fly.new (F:Fly P w l H h e cls H' h' B) (hf:∀ b∈frs l,H b=none) (nf:∀ b∈frs l,∀ o,h.get? b=some o→∀ vs,o.data ≠ .fields vs):h.get? e=none:=by
 obtain ⟨a0,fl⟩:=F.fl
 cases q:h.get? e with
 | none=>rfl
 | some o =>
  by_cases hb:e∈frs l
  ·obtain ⟨sl,z⟩:=F.slot e o q (hf e hb) hb
   obtain ⟨oe,vs,z',_,d,_⟩:=fl.first
   rw [z] at z'
   cases z'
   exact absurd d (nf e hb o q vs)
  ·obtain ⟨o',z⟩:=F.al e o q hb
   rw [fl.2.1] at z
   cases z
theorem Fly.out (F:Fly P w l H h e cls H' h' B):H' e=none:=by
 obtain ⟨a0,fl⟩:=F.fl
 cases q:H' e with
 | none=>rfl
 | some u =>
  obtain ⟨o,z⟩:=(F.hok e u q).alive
  rw [fl.2.1] at z
  cases z
theorem Fly.track (F:Fly P w l H h e cls H' h' B) (hf:∀ b∈frs l,H b=none) (nf:∀ b∈frs l,∀ o,h.get? b=some o→∀ vs,o.data ≠ .fields vs) {dc:Option Addr} (hd:Xk h' e dc) :
  Un (frs l) [] H (upd H' e (Wa e cls dc)) h h'∧HOk P w (upd H' e (Wa e cls dc)) h':=by
 have n1:=F.new hf nf
 have n2:=F.out
 have u:=F.un hf
 have ok:=F.held
 obtain ⟨a0,fl⟩:=F.fl
 refine ⟨⟨u.keep,u.slot,fun b o q n hx=>?_,u.there,fun b xs q=>?_,fun b o x q=>?_,fun b ps q=>?_⟩,fun b x q=>?_⟩
 ·rw [Yb (fun z=>by rw [z,n1] at q;cases q)]
  exact u.free b o q n hx
 ·rw [Yb (Ye (u.tups b xs q) n2)]
  exact u.tups b xs q
 ·rw [Yb (Ye (u.frzs b o x q) n2)]
  exact u.frzs b o x q
 ·obtain ⟨m,z⟩:=u.tbls b ps q
  exact ⟨m,by rw [Yb (Ye z n2)];exact z⟩
 ·by_cases hb:b=e
  ·subst hb
   rw [Yc] at q
   cases q
   obtain ⟨oe,vs,z1,z2,z3,_⟩:=fl.first
   obtain ⟨od,d1,d2⟩:=hd
   rw [z1] at d1
   cases d1
   exact ⟨⟨oe,vs,z1,z2,z3,d2⟩,⟨oe,z1⟩,fun h1 h2 p k=>by obtain ⟨o,vs,y1,y2,y3⟩:=p;exact ⟨o,vs,k o y1,y2,y3⟩⟩
  ·rw [Yb hb] at q
   exact (ok b x q).stay (fun c v _ r=>r) (fun c r=>by rw [Yb (Ye r n2)];exact r) fun c xs r=>by rw [Yb (Ye r n2)];exact r
end
section
variable {X:Cx} {pins:List (Addr×Obj)} {σ:St} {H H' H1:Hp} {s s1 s':Shared}
theorem YdD {M:Model} {A:Around} {E:Value→Shared→Prop} {j:Nat} {n:Str} {pos:Pos} {Q:Unit→Shared→Prop} (I:Inv X pins σ H s) (hN:X.N.Nodup) (hj:X.N[j]?=some n) (hk:X.env.scope.names.lookup n=some .local)
  (h:∀ s',Inv X pins (σ.set j none) H s'→Q () s'):wpAny M A (do bindName X.env n .none;unbindBehindTheSuite X.env n pos) Q E s:=by
 obtain ⟨m,hn,hl⟩:=id I.loc
 have hcls:(X.env.scope.kind == .class||(X.env.scope.kind == .module&&X.env.locals != X.env.globals))=false:=by rw [I.ok.kind];rfl
 have cne:=I.cne
 have tracked:∀ {a:Addr} {h':Heap},(∃ o,s.heap.get? a=some o∧H a=none)→Heap.SameBut a s.heap h'→HOk X.prog X.w H h':=fun {a h'} ha hs b ob e=>by
  obtain ⟨_,_,hfree⟩:=ha
  refine (I.hok b ob e).stay (fun c w' hc q=>(hs.2 c ?_).trans q) (fun _ q=>q) fun _ _ q=>q
  rintro rfl
  rcases hc with rfl | hc
  ·rw [hfree] at e;cases e
  ·rw [hfree] at hc;cases hc
 refine wpAny_nameGoes_keeps hk hn hcls fun h' v hn' hs=>?_
 obtain ⟨oL,_,_,hoL,_⟩:=id hn
 refine h _ ⟨I.ok,I.os,I.bare,⟨fun b o e n hb hx=>?_,fun b o e n hb hx=>?_,I.base.free,fun b o e hx=>?_,I.base.tups,I.base.frzs,I.base.tbls⟩,⟨_,hn',fun i y v' e1 e2 e3=>?_⟩,fun y c e=>?_,I.free,I.freeC,fun p hp=>?_,tracked ⟨oL,hoL,I.free⟩ hs,by simpa using I.len⟩
 ·exact (hs.2 b (I.notL e)).trans (I.base.keep b o e n hb hx)
 ·obtain ⟨sl,e1⟩:=I.base.slot b o e n hb hx
  exact ⟨sl,(hs.2 b (I.notL e)).trans e1⟩
 ·obtain ⟨o',e1⟩:=I.base.there b o e hx
  exact ⟨o',(hs.2 b (I.notL e)).trans e1⟩
 ·by_cases hji:i=j
  ·subst hji
   rw [List.getElem?_set] at e2
   split at e2
   ·split at e2<;>cases e2
   ·rename_i z;exact absurd rfl z
  ·rw [List.getElem?_set_ne (Ne.symm hji)] at e2
   obtain ⟨u',r',q⟩:=hl i y v' e1 e2 e3
   refine ⟨u',r',?_⟩
   rcases q with ⟨k,e⟩ | ⟨k,c,e,z⟩
   ·refine .inl ⟨k,?_⟩
    have:y≠n:=fun e=>hji (Vv hN e1 (e▸hj))
    simp [this,e]
   ·exact .inr ⟨k,c,e,z.sameBut hs (cne y c e)⟩
 ·obtain ⟨w',z⟩:=I.cell y c e
  exact ⟨w',z.sameBut hs (cne y c e)⟩
 ·obtain ⟨e,n,ne,nf,d⟩:=I.pin p hp
  exact ⟨(hs.2 p.1 ne).trans e,n,ne,nf,d⟩
end
def Ends.gone (D:Ends) (j:Nat):Ends:={ nx:=fun σ H=>D.nx (σ.set j none) H,rt:=D.rt,bk:=fun σ H=>D.bk (σ.set j none) H,ct:=fun σ H=>D.ct (σ.set j none) H }
section
variable {X:Cx} {pins:List (Addr×Obj)} {σ:St} {H H' H1:Hp} {s s1 s':Shared} {e:Value} {D:Ends} {ts:TS} {b₀:Stmt} {suite:List Stmt} {c n:Str} {cv:Value} {cp hpos:Pos} {j:Nat}
theorem Inv.catchAs (I:Inv X pins σ H1 s1) (hs:X.stack=X.env::X.outer) (hf:X.env.frame=some X.env.locals) (hN:X.N.Nodup) (hj:X.N[j]?=some n) (hk:X.env.scope.names.lookup n=some .local)
  (hq:CXF X.prog X.w X.stack H1 s1 (fun cls dc H2=>PySem.W.exmOne X.K cls cv=some true∧∀ a,H2 a=none→ts (D.gone j) (σ.set j (some (.ref a))) (upd H2 a (Wa a cls dc))) e s')
  (hsu:∀ a,PSs (X.caught a) (b₀::suite) ts) (hc:Gl X c) (hcm:X.mg c=some cv) (hdb:(c==("__debug__":Str))=false) :
  wpAny (model X.prog X.w) X.A (noteFrame e X.env) (fun _ s₂=>wpAny (model X.prog X.w) X.A (setFlight e none) (fun _ s₃=>wpAny (model X.prog X.w) X.A (handleBy e X.env [.ExceptHandler (some (.Name c cp)) (some n) (b₀::suite) hpos]) (SP X pins D) X.xe s₃) X.xe s₂) X.xe s':=by
 obtain ⟨a,cls,H2,B,dc,rfl,os,bare,F,hdc,hm,ht⟩:=hq
 obtain ⟨a0,fl⟩:=F.fl
 have nf:=I.stkData
 have fl':=fl
 rw [hs] at fl'
 have hfr:=I.ok.frames
 rw [hs] at hfr
 refine wpAny_mono (Wv (WP _ _) hdc (wpAny_looks_onW (Q:=fun _ s₂=>∃ h₄ L,s₂={ s' with heap:=h₄ }∧Heap.HeldW B (X.env::X.outer) a cls a0 L h₄∧s'.heap.UpToSlots h₄) (E:=X.xe) hfr hf fl' fun h₄ held sm4=>⟨h₄,_,rfl,held,sm4⟩)) ?_ fun _ _ z=>z.1
 rintro _ s₂ ⟨⟨h₄,L4,rfl,held,sm4⟩,hd4⟩
 refine wpAny_mono (Wv (XY _ _) hd4 (wpAny_landsW (Q:=fun _ s₃=>∃ h₅,s₃={ s' with heap:=h₅ }∧Heap.FlyingW B (X.env::X.outer) a cls a0 h₅∧h₄.UpToSlots h₅) (E:=X.xe) held fun h₅ fl5 sm5=>⟨h₅,rfl,fl5,sm5⟩)) ?_ fun _ _ z=>z.1
 rintro _ s₃ ⟨⟨h₅,rfl,fl5,sm5⟩,hd5⟩
 rw [← hs] at fl5
 have F5:=F.on ⟨a0,fl5⟩ nf (sm4.trans sm5)
 have I5:Inv X pins σ H2 { s' with heap:=h₅ }:=I.seen (s':={ s' with heap:=h₅ }) F5 os bare
 have I5c:=I5.caught a
 refine wpAny_handleBy_cons (codeAny_handlers_test (Wl I5c hc hcm ?_ hdb)) (by intro q;cases q)
 obtain ⟨ob,hob,hcl⟩:=fl5.there
 have LT:PySem.W.Looks (model X.prog X.w) h₅ (typeOf (.ref a)) cls:=by
  subst hcl
  exact (PySem.W.Looks.ld hob).andThen .now
 refine PySem.W.exm_one (K:=X.K) (h:=h₅) I5.kIn LT hm _ _ _ _ (fun _ _ z=>z) ?_
 refine codeAny_handlers_suite_as ?_
 refine wpAny_mono (Wv (XY _ _) hd5 (lands_againW (Q:=fun _ s₄=>∃ h₆,s₄={ s' with heap:=h₆ }∧Heap.FlyingW B X.stack a cls a0 h₆∧h₅.UpToSlots h₆) (E:=fun _ _=>False) fl5 fun h₆ fl6 sm6=>⟨h₆,rfl,fl6,sm6⟩)) ?_ fun _ _ z=>z.1.elim
 rintro _ s₄ ⟨⟨h₆,rfl,fl6,sm6⟩,hd6⟩
 have F6:=F5.on ⟨a0,fl6⟩ nf sm6
 obtain ⟨u6,ok6⟩:=F6.track I.stkFree nf hd6
 have I6:Inv X pins σ (upd H2 a (Wa a cls dc)) { s' with heap:=h₆ }:=I.call' (s':={ s' with heap:=h₆ }) (ch:=[]) os u6 ok6 bare fun b z=>nomatch z
 have I6c:=I6.caught a
 refine XD (X:=X.caught a) I6c hN hj (.inl hk) (v := .ref a) rfl (fun s7 I7=>?_) (.inr hk)
 refine wpAny_mono (hsu a pins _ _ _ (D.gone j) I7 (ht a F6.out)) (fun f s8 z=>?_) fun _ _ z=>z.elim
 have key:∀ {σ':St} {H':Hp} {Q:St→Hp→Prop},Inv (X.caught a) pins σ' H' s8→Q (σ'.set j none) H'→∀ {R:Unit→Shared→Prop},(∀ s9,Inv X pins (σ'.set j none) H' s9→R () s9)→wpAny (model X.prog X.w) X.A (do bindName X.env n .none;unbindBehindTheSuite X.env n hpos) R X.xe s8 :=
  fun {σ' H' Q} J _ {R} hR=>YdD (J.uncaught I.ok.hd) hN hj hk hR
 cases f with
 | next=>obtain ⟨σ',H',J,q⟩:=z;exact key (Q:=fun _ _=>True) J trivial fun s9 J9=>⟨_,_,J9,q⟩
 | brk=>obtain ⟨σ',H',J,q⟩:=z;exact key (Q:=fun _ _=>True) J trivial fun s9 J9=>⟨_,_,J9,q⟩
 | cont=>obtain ⟨σ',H',J,q⟩:=z;exact key (Q:=fun _ _=>True) J trivial fun s9 J9=>⟨_,_,J9,q⟩
 | ret u=>obtain ⟨v,σ',H',J,r,q⟩:=z;exact key (Q:=fun _ _=>True) J trivial fun s9 J9=>⟨v,_,_,J9,r,q⟩
end
end L2
namespace L2
open PySem PySem.Spec PyProof.Rows
def Yel (K:PySem.W.Frag) (cv:Value) (sp:Sp) (t:TA) (i j:Nat) (ts:TS):TS:=fun D σ H=>t σ H fun vs H1=>sp (vs++[]) H1 (fun v H2=>D.nx (σ.set i (some v)) H2) (fun cls dc H2=>PySem.W.exmOne K cls cv=some true∧∀ a,H2 a=none→ts (D.gone j) (σ.set j (some (.ref a))) (upd H2 a (Wa a cls dc)))
section
variable {g:Gx} {X:Cx} {k jj i j:Nat} {x f c n:Str} {ps:List Str} {sp:Sp} {e:Expr} {es:List Expr} {t:TA} {ts:TS} {b₀:Stmt} {suite:List Stmt} {cv:Value} {fp px cp hpos apos cpos pos:Pos}
end
section
variable {g:Gx} {k:Nat} {x qual:Str} {st:Stmt} {N ps:List Str} {sp:Sp}
end
section
variable {g:Gx} {X:Cx} {k j:Nat} {x:Str} {ps:List Str} {sp:Sp} {e:Expr} {es:List Expr} {t:TA} {p pos:Pos}
end
end L2
namespace PySem.W
open PySem PySem.Calls PyProof.Rows Builtin Builtin.ObjectAttr Builtin.Getset_descriptor
section
variable {prog:Program} {w:World} {A:Around} {E:Value→Shared→Prop} {K:Frag} {x C:Addr} {ox:Obj} {hh:Heap} {g:Array GenState} {d:Drawn} {t:Nat} {os:OsState}
theorem Uy (v:Value):bindSpecial (.builtin "BaseException.__getattribute__") v=pure (.builtin "BaseException.__getattribute__",[v]):=by
 have h1:withoutEnding? "BaseException.__getattribute__" "#opaque"=none:=by decide +kernel
 have h2:withoutEnding? "BaseException.__getattribute__" "#data"=none:=by decide +kernel
 have h3:builtinKind "BaseException.__getattribute__"=some .slot:=by decide +kernel
 simp only [bindSpecial,typeOf,builtinType,h1,h2,h3]
 rfl
theorem YbM {tp:Value} {R:Result→Shared→Prop} (In:K.In hh) (hx:hh.get? x=some ox) (hc:ox.cls = .ref C) (hm:mroIn K C (.type "object")=some true)
  (h:R (.ok (.ret (.ref C))) ⟨hh,g,d,t,os⟩):codeAny (model prog w) A (.call (.builtin "getset_descriptor.__get__") ⟨[.builtin "object.__class__",.ref x,tp],[]⟩) R ⟨hh,g,d,t,os⟩:=by
 have L0:Looks (model prog w) hh (typeOf (.ref x)) (.ref C):=by rw [← hc];exact (Looks.ld hx).andThen .now
 have L1:=looks_mroIn (M:=model prog w) In hm
 refine codeAny_call_builtin KF.slot_gs.plain KF.entry_gs (KF.slot_gs.check _ _ _ _ _ _ _ _ KF.type_class (KF.args_gs _ _ _) ?_)
 unfold Builtin.«getset_descriptor.__get__»
 unfold descrGet
 rw [dga_obj]
 refine wpAny_bind (wpAny_pure ?_)
 unfold descrGetter
 unfold descrCheckInstance descrNameAndClass
 unfold isInstance
 simp only [KF.owner_class]
 repeat lk
 refine ⟨Code.quiet_builtin _ (by decide +kernel),codeAny_builtin KF.entry_class ?_⟩
 unfold Builtin.«object.__class__»
 unfold shownTypeOf
 repeat lk
 exact h
theorem QP {tk:Tok} {Q:Fin→Shared→Prop} (In:K.In hh) (hx:hh.get? x=some ox) (hc:ox.cls = .ref C) (hm:mroIn K C (.type "object")=some true) (ha:findIn K (.ref C) "__class__"=some (some (.builtin "object.__class__")))
  (hq:Q (.done (.ret (.ref C))) ⟨hh,g,d,t,os⟩):wpAny (model prog w) A (Builtin.«object.__getattribute__» ⟨[.ref x,.str "__class__" tk],[]⟩) Q E ⟨hh,g,d,t,os⟩:=by
 have hT5:(⟨hh,g,d,t,os⟩:Shared).TypeIs (.builtin "object.__class__") "getset_descriptor":=F.typeOf_object_class
 have f5:=F.typeOf_object_class
 have f6:=F.slot_gs_get.lookup
 have f7:=F.slot_gs_set.lookup
 have L3:=looks_findIn (M:=model prog w) In ha
 repeat (any_goals (first | assumption | (with_reducible refine wpAny_loadPart_at hx ?_;rw [hc]) | with_reducible refine L3.at ?_ | wp_step))
 refine YbM In hx hc hm ?_
 repeat (any_goals (first | assumption | wp_step))
theorem Vu {nv:Value} {Q:Unit→Shared→Prop} (In:K.In hh) (hx:hh.get? x=some ox) (hc:ox.cls = .ref C) (hb:mroIn K C (.type "BaseException")=some true) (hq:Q () ⟨hh,g,d,t,os⟩) :
  wpAny (model prog w) A (checkBuiltinCall "BaseException.__getattribute__" ⟨[.ref x,nv],[]⟩) Q E ⟨hh,g,d,t,os⟩:=by
 have k1:builtinKind "BaseException.__getattribute__"=some .slot:=by decide +kernel
 have k2:splitId "BaseException.__getattribute__"=some ("BaseException","__getattribute__"):=by decide +kernel
 have k3:=F.args_bexc_ga (.ref x) nv
 have L1:=looks_mroIn (M:=model prog w) In hb
 simp only [checkBuiltinCall,k1,k2]
 refine wpAny_bind ?_
 unfold isInstance
 repeat (first | (with_reducible refine wpAny_loadPart_at hx ?_;rw [hc]) | with_reducible refine L1.at ?_ | wp_step)
 exact hq
theorem YaU {tk:Tok} {R:Result→Shared→Prop} (In:K.In hh) (hx:hh.get? x=some ox) (hc:ox.cls = .ref C) (hm:mroIn K C (.type "object")=some true) (hb:mroIn K C (.type "BaseException")=some true) (ha:findIn K (.ref C) "__class__"=some (some (.builtin "object.__class__")))
  (hq:R (.ok (.ret (.ref C))) ⟨hh,g,d,t,os⟩):codeAny (model prog w) A (.call (.builtin "BaseException.__getattribute__") ⟨[.ref x,.str "__class__" tk],[]⟩) R ⟨hh,g,d,t,os⟩ :=
 codeAny_call_builtin (by decide +kernel) F.entry_bexc_ga (Vu In hx hc hb (QP In hx hc hm ha hq))
theorem Ycu {tk:Tok} {Q:Value→Shared→Prop} (In:K.In hh) (hx:hh.get? x=some ox) (hc:ox.cls = .ref C) (hm:mroIn K C (.type "object")=some true) (hb:mroIn K C (.type "BaseException")=some true) (ha:findIn K (.ref C) "__class__"=some (some (.builtin "object.__class__")))
  (hga:findIn K (.ref C) "__getattribute__"=some (some (.builtin "BaseException.__getattribute__"))) (hgt:findIn K (.ref C) "__getattr__"=some none) (hbd:bindSpecial (.builtin "BaseException.__getattribute__") (.ref x)=pure (.builtin "BaseException.__getattribute__",[.ref x])) (hq:Q (.ref C) ⟨hh,g,d,t,os⟩) :
  wpAny (model prog w) A (getAttrBy (.ref x) (.str "__class__" tk) false) Q E ⟨hh,g,d,t,os⟩:=by
 have e2:(Value.builtin "BaseException.__getattribute__"==Value.builtin "object.__getattribute__")=false:=by decide +kernel
 have e1:(onTheHeap (Value.ref C)&&Value.builtin "BaseException.__getattribute__"==Value.builtin "object.__getattribute__")=false:=by rw [e2];rfl
 have e0:(false&&onTheHeap (Value.builtin "BaseException.__getattribute__"))=false:=rfl
 have L1:=looks_findIn (M:=model prog w) In hga
 have L2:=looks_findIn (M:=model prog w) In hgt
 repeat (any_goals (first | assumption | (with_reducible refine wpAny_loadPart_at hx ?_;rw [hc]) | with_reducible refine L1.at ?_ | with_reducible refine L2.at ?_ | wp_step))
 refine YaU In hx hc hm hb ha ?_
 repeat (any_goals (first | assumption | wp_step))
theorem YaV {Q:Option Value→Shared→Prop} (In:K.In hh) (hx:hh.get? x=some ox) (hc:ox.cls = .ref C) (hm:mroIn K C (.type "object")=some true) (hb:mroIn K C (.type "BaseException")=some true) (ha:findIn K (.ref C) "__class__"=some (some (.builtin "object.__class__")))
  (hga:findIn K (.ref C) "__getattribute__"=some (some (.builtin "BaseException.__getattribute__"))) (hgt:findIn K (.ref C) "__getattr__"=some none) (hq:Q (some (.ref C)) ⟨hh,g,d,t+1,os⟩) :
  wpAny (model prog w) A (getAttr? (.ref x) "__class__") Q E ⟨hh,g,d,t,os⟩:=by
 unfold getAttr? getAttrBy?
 refine wpAny_bind (wpAny_mkText (wpAny_bind (wpAny_attempt (Ycu In hx hc hm hb ha hga hgt ?_ (wpAny_pure hq)))))
 exact Uy (.ref x)
theorem kitx_exc (hd:hasDictIn K C=true) (hm:mroIn K C (.type "object")=some true) (hb:mroIn K C (.type "BaseException")=some true) (ha:findIn K (.ref C) "__class__"=some (some (.builtin "object.__class__")))
  (hga:findIn K (.ref C) "__getattribute__"=some (some (.builtin "BaseException.__getattribute__"))) (hgt:findIn K (.ref C) "__getattr__"=some none):KitX K (.ref x) (.ref C) (fun h=>∃ o,h.get? x=some o∧o.cls = .ref C) where
 ty:=fun M h _ ⟨o,hx,hc⟩=>by rw [← hc];exact (Looks.ld hx).andThen .now
 it:=fun M h In _=>by
  obtain ⟨cd,e,_⟩:=any_some hd
  unfold clsIn at e
  split at e
  case h_2=>cases e
  case h_1 q =>
   intro A' Q' E' s' k z
   unfold isType
   unfold loadHead
   exact wpAny_bind (wpAny_loadPart (k _ _ (In _ _ q)) (wpAny_pure z))
 ne:=fun h tp dd its n sl In htp=>by
  obtain ⟨cd,e,_⟩:=any_some hd
  refine Bool.eq_false_iff.mpr fun z=>?_
  have z1:C=tp:=Value.ref.inj (beq_iff_eq.mp z)
  subst z1
  unfold clsIn at e
  split at e
  case h_2=>cases e
  case h_1 q =>
   have y:=(In _ _ q).symm.trans htp
   cases y
 ca:=fun {prog w A E Q s} In ⟨o,hx,hc⟩ k=>by
  obtain ⟨hh,g,d,t,os⟩:=s
  exact YaV In hx hc hm hb ha hga hgt k
end
end PySem.W
namespace L2
open PySem PySem.Spec PyProof.Rows
structure ExcT (K:PySem.W.Frag) (C:Addr):Prop where
 hd:PySem.W.hasDictIn K C=true
 hm:PySem.W.mroIn K C (.type "object")=some true
 hb:PySem.W.mroIn K C (.type "BaseException")=some true
 ha:PySem.W.findIn K (.ref C) "__class__"=some (some (.builtin "object.__class__"))
 hga:PySem.W.findIn K (.ref C) "__getattribute__"=some (some (.builtin "BaseException.__getattribute__"))
 hgt:PySem.W.findIn K (.ref C) "__getattr__"=some none
section
variable {X:Cx}
theorem Ww {g:Gx} {x:Str} {C:Addr} {pos:Pos} (h:g.mg x=some (.ref C)) (hX:X.gx=g:=by rfl) (hg:Gl X x:=by rfl) (hd:(x==("__debug__":Str))=false:=by decide):PE X (.Name x pos) (tC (.ref C)):=by
 subst hX
 exact QY hg h rfl hd
end
theorem Ycv {X:Cx} {a:Addr}:(X.caught a).K=X.K:=rfl
end L2
namespace L2
open PySem PySem.Spec PyProof.Rows
theorem YR {K:PySem.W.Frag} {C:Addr} {f:Str} (h:PySem.W.findIn K (.ref C) f=some none):Yg K C f:=h
end L2
namespace L2
open PySem PySem.Spec PyProof.Rows
section
variable {src:List (Option Nat)} {te:TE} {σ:St} {H:Hp} {Q:VK}
end
end L2
namespace L2
open PySem PySem.Spec PyProof.Rows
section
variable {X:Cx}
end
end L2
namespace L2
open PySem PySem.Spec PyProof.Rows
section
variable {src:List (Option Nat)} {te:TE} {σ:St} {H:Hp} {Q:VK}
theorem Ycw {K:PySem.W.Frag} {tl:TE} {xs:List V} (ys:List V) (ha:∀ R:V→Hp→Prop,(∀ a H1,Yk H H1→SqT K H1 a xs→R (.ref a) H1)→tl σ H R) (hl:ys.length=xs.length) (hlen:xs.length≤100000)
  (step:∀ (i:Nat) x y H',xs[i]?=some x→ys[i]?=some y→Yk H H'→∀ R:VK,(∀ H'',Yk H' H''→R y H'')→te (some x::YS src σ) H' R)
  (fin:∀ D H',H D=none→Yk H H'→H' D=some (.lst ys)→Q (.ref D) H'):tLC (none::src) (iTup K tl) (YM 0) Wt te σ H Q :=
 ha _ fun a H1 s1 hS=>⟨a,rfl,⟨xs,hS⟩,fun D hD=>U9 (YbC.imp fun H' (e:Yk H1 H')=>e.tup hS) ys (fun _ e=>e) hD hl hlen (fun i x y H' hx hy sm R r=>step i x y H' hx hy (s1.trans sm) R r) fun H' sm=>fin D H' (s1.free hD) (s1.trans sm)⟩
end
end L2
namespace L2
open PySem PySem.Spec PyProof.Rows
section
variable {X:Cx}
end
end L2
namespace L2
open PySem PySem.Spec PyProof.Rows
section
variable {X:Cx} {g:Gx} {k j i:Nat} {x:Str} {ps:List Str} {sp:Sp} {p pos:Pos} {e:Expr} {es:List Expr} {t:TA}
end
theorem XG (es:List Expr) (x:Nat) (p:Pos) (es':List Expr) (env:Env):starEach (.Tuple es x p::es') env=(false,eval (.Tuple es x p) env)::starEach es' env:=rfl
end L2
namespace L2
open PySem PySem.Spec PyProof.Rows
section
variable {X:Cx} {pins:List (Addr×Obj)} {σ:St} {H:Hp} {s:Shared} {A:Around} {E Q:Value→Shared→Prop}
end
section
variable {X:Cx}
end
section
variable {src:List (Option Nat)} {te:TE} {σ:St} {Q:VK}
variable {X:Cx} {H:Hp}
end
end L2
namespace L2
open PySem PySem.Spec PyProof.Rows
section
open PySem.SeqAt
open PySem.AutoSeq1 (wpAny_loadPart')
open PySem.MeetsSeq PySem.MeetsSeq2 PySem.MeetsSeq3
variable {X:Cx}
end
end L2
namespace L2
open PySem PySem.Spec PyProof.Rows
section
open PySem.SeqAt
open PySem.AutoSeq1 (wpAny_loadPart')
open PySem.MeetsSeq PySem.MeetsSeq2 PySem.MeetsSeq3
variable {X:Cx}
variable {K:PySem.W.Frag}
end
end L2
namespace L2
open PySem
end L2
namespace L2
open PySem
section
variable {src:List (Option Nat)} {te:TE} {σ:St} {H:Hp} {Q:VK}
end
end L2
namespace L2
open PySem
mutual
inductive VL (H:Hp):V→PyData→List Addr→Prop
 | int (i:Int):VL H (.int i) (.int i) []
 | str (x:Str) (h:PyData.strOk x=true):VL H (.str x) (.str x) []
 | lst {a:Addr} {vs:List V} {ds:List PyData} {L:List Addr}:H a=some (.lst vs)→vs.length≤10000→VLs H vs ds L→VL H (.ref a) (.list ds) (a::L)
 | tup {a:Addr} {vs:List V} {ds:List PyData} {L:List Addr}:H a=some (.tup vs)→vs.length≤10000→VLs H vs ds L→VL H (.ref a) (.tuple ds) L
inductive VLs (H:Hp):List V→List PyData→List Addr→Prop
 | nil:VLs H [] [] []
 | cons {v:V} {d:PyData} {L:List Addr} {vs:List V} {ds:List PyData} {L':List Addr}:VL H v d L→VLs H vs ds L'→VLs H (v::vs) (d::ds) (L++L')
end
section
variable {src:List (Option Nat)} {te:TE} {σ:St} {H:Hp} {Q:VK}
end
end L2
namespace L2
open PySem PySem.Spec PyProof.Rows
section
variable {X:Cx} {pos:Pos}
end
def dg (i:Int):List Nat:=(Str.ofString (toString i)).cps.toList
theorem Yem (n:Nat):dg (n:Int)=(Nat.toDigits 10 n).map Char.toNat:=PySem.W.KIN.signs_num n
theorem Ve {n k:Nat} (hk:0<k) (h:n<10^k):(dg (n:Int)).length≤k:=by
 rw [Yem,List.length_map]
 have:=(Nat.length_repr_le_iff hk).mpr h
 rwa [← String.length_toList,Nat.toList_repr] at this
end L2
namespace L2
open PySem
section
variable {src:List (Option Nat)} {te:TE} {σ:St} {H:Hp} {Q:VK}
theorem WX {ta:TA} {n:Nat} (I:Addr→Nat→List V→Hp→Prop) (ha:∀ R:List V→Hp→Prop,R [.int n] H→ta σ H R) (hlen:n≤100000)
  (i0:∀ D,H D=none→I D 0 [] (upd H D (.lst []))) (dl:∀ D i zs H',I D i zs H'→zs.length=i∧H' D=some (.lst zs))
  (step:∀ D (i:Nat) zs H',H D=none→i<n→I D i zs H'→∀ R:VK,(∀ y H'',H'' D=some (.lst zs)→I D (i+1) (zs++[y]) (upd H'' D (.lst (zs++[y])))→R y H'')→te (some (.int i)::YS src σ) H' R)
  (fin:∀ D zs H',H D=none→I D n zs H'→Q (.ref D) H'):tLC (none::src) (VG ta) (YM 0) Wt te σ H Q:=by
 refine ha _ ⟨n,rfl,by omega,by omega,fun D hD=>?_⟩
 have h6:100000<sizeLine:=by decide
 refine VR (WK (lo:=0) (n:=n) (P:=fun _=>True)) (fun i zs σ' H'=>(∃ o,σ'=o::YS src σ)∧i≤n∧I D i zs H') ⟨⟨none,rfl⟩,Nat.zero_le _,i0 D hD⟩ (fun i zs σ' H' q=>⟨trivial,(dl _ _ _ _ q.2.2).2⟩) (Wf 0) ?_ ?_
 ·rintro i zs σ' H' x hx ⟨⟨o,rfl⟩,_,hI⟩
  have hi:i<n:=by have:=(List.getElem?_eq_some_iff.mp hx).1;simpa using this
  rw [List.getElem?_map,List.getElem?_range hi] at hx
  have e:V.int (0+(i:Int))=x:=Option.some.inj hx
  rw [Int.zero_add] at e
  subst e
  have hl:=(dl _ _ _ _ hI).1
  show te (some (.int i)::YS src σ) H' _
  exact step D i zs H' hD hi hI _ fun y H'' hd hI'=>⟨hd,by omega,⟨_,rfl⟩,hi,hI'⟩
 ·rintro zs σ' H' ⟨_,_,hI⟩
  exact fin D zs H' hD (by simpa using hI)
end
end L2
namespace L2
open PySem PySem.Spec PyProof.Rows
section
variable {g:Gx} {k:Nat} {x qual m:Str} {st:Stmt} {N ps:List Str} {sp:Sp} {C:Addr}
end
section
variable {g:Gx} {X:Cx} {k j:Nat} {x m:Str} {ps:List Str} {sp:Sp} {E:XK} {C:Addr} {e o:Expr} {es:List Expr} {t:TA} {ta:TE} {p pos apos:Pos}
end
theorem YbN {P:Program} {w:World} {X:Cx}:XB (CXF P w) X (fun _ _ _=>False):=by
 intro pins σ H s e s' I h
 obtain ⟨_,_,_,_,_,_,_,_,_,_,z⟩:=h
 exact z.elim
section
variable {g:Gx} {X:Cx} {k jj j:Nat} {f c n:Str} {ps:List Str} {sp:Sp} {e:Expr} {es:List Expr} {t:TA} {ts:TS} {b₀:Stmt} {suite:List Stmt} {cv:Value} {fp cp hpos apos cpos pos:Pos}
end
end L2
namespace L2
open PySem PySem.Spec PyProof.Rows
def YdE (l:List Str) (v:Str):List Str:=if l.any (·==v) then l else l++[v]
def met (val:Nat→Str) (i:Nat):List Str:=((List.range i).map val).foldl YdE []
section
variable {prog:Program} {w:World} {A:Around} {R:Result→Shared→Prop} {I:Addr} {fp wr:List Addr} {G:Array GenState→Array GenState→Prop} {n:Nat} {P:Nat→Value→Prop} {St:Nat→Shared→Prop}
end
end L2
namespace L2
open PySem PySem.Spec PyProof.Rows
def sg (x:Str) (i:Nat):Str:=⟨#[x.cps.getD i 0]⟩
section
variable {prog:Program} {w:World} {A:Around} {E:Value→Shared→Prop} {s:Shared}
end
def SetO (a:Addr) (n:Nat):HO := .ext fun h=>∃ (o:Obj) (es:Array (Int×Value)) (ep:Nat) (t:SetTable),h.get? a=some o∧o.ExactSet∧o.data = .set es ep t∧t.fits es.size=true∧es.size=n∧n<scanBound
section
variable {X:Cx}
end
end L2
namespace L2
open PySem PySem.Spec PyProof.Rows
section
variable {X:Cx}
end
end L2
namespace L2
open PySem PySem.Spec PyProof.Rows
section
variable {X:Cx}
end
end L2
namespace L2
open PySem PySem.Spec PyProof.Rows
section
variable {X:Cx}
end
end L2
namespace L2
open PySem PySem.Spec PyProof.Rows
section
variable {X:Cx} {e lo st:Expr} {te tl ts:TE} {pos p2:Pos}
def YdF (K:PySem.W.Frag) (te tl ts:TE):TE:=fun σ H Q=>te σ H fun x H1=>tl σ H1 fun y H2=>ts σ H2 fun z H3 =>
 ∃ (a:Addr) (xs:List V) (k n:Int),x = .ref a∧y = .int k∧z = .int n∧0≤k∧0<n∧SqL K H3 a xs∧∀ p ys,H3 p=none→(∀ v∈ys,v∈xs)→ys.length≤xs.length→Q (.ref p) (upd H3 p (.lst ys))
end
structure ClsFn (K:PySem.W.Frag) (B:Addr) (m:Str) (f:Addr):Prop where
 ga:PySem.W.specialIn K (.ref B) "__getattribute__"=some (some (.builtin "type.__getattribute__"))
 rd:PySem.W.readsIn K B (.type "type")=true
 at_:PySem.W.findCls K (.ref B) (.type "type") m=some (.val (.ref f))
 kp:PySem.W.keepIn K (.ref f)=true
def Gx.Cf (g:Gx) (k:Nat) (x m:Str) (ps:List Str) (sp:Sp):Prop:=∃ B f fd,FnOk g.P g.w g.K g.mg g.base CX0 k f fd ps sp∧YW g.K fd ps []∧ClsFn g.K B m f∧g.mg x=some (.ref B)
def Gx.RawC (g:Gx) (x m qual:Str) (st:Stmt) (ps:List Str):Prop:=∃ B f fd,Fun g.K m qual st f fd∧YW g.K fd ps []∧ClsFn g.K B m f∧g.mg x=some (.ref B)
theorem Gx.Cf.mono {g:Gx} {j k:Nat} {x m:Str} {ps:List Str} {sp:Sp} (F:g.Cf j x m ps sp) (h:j≤k):g.Cf k x m ps sp:=by
 obtain ⟨B,f,fd,F,r⟩:=F
 exact ⟨B,f,fd,F.mono h,r⟩
section
variable {g:Gx} {X:Cx} {k j:Nat} {x m:Str} {ps:List Str} {sp:Sp} {e:Expr} {es:List Expr} {t:TA} {p pos apos:Pos}
theorem UR {pl:Sem Bool} (F:g.Cf j x m ps sp) (hr:Room k X.A) (ha:PA X (e::es) t) (hj:j≤k) (hX:X.gx=g) (hg:Gl X x) (hdb:(x==("__debug__":Str))=false)
  (hst:starEach (e::es) X.env=(false,eval e X.env)::starEach es X.env) (hpl:(backTo pos (starEach es X.env)).any (·.1)=false)
  (ht:eval (.Call (.Attribute (.Name x p) m apos) (e::es) [] pos) X.env=(do
   let ov ← eval (.Name x p) X.env
   standAt apos.atName
   let (f,first) ← holding [ov] (getMethod ov m pl)
   callWith pos f first (backTo pos (starEach (e::es) X.env)) (backToKw pos (keywordEach [] X.env)))):PE X (.Call (.Attribute (.Name x p) m apos) (e::es) [] pos) (VN sp [] E0 t):=by
 subst hX
 obtain ⟨B,f,fd,F,b,c,hm⟩:=F
 intro pins s σ H Q I h
 refine PySem.W.methodCall_KW (pl:=pl) (thn (Ww (g:=X.gx) (pos:=p) hm rfl hg hdb pins s σ H (fun v H1=>v = .ref B∧H1=H) I ⟨rfl,rfl⟩) fun u s1 ⟨v,H1,I1,rv,e1,e2⟩=>?_) ht
 subst e1 e2
 obtain rfl:u=Value.ref B:=rv
 refine PySem.W.method_cls I1.kIn c.ga (PySem.W.cls_value I1.kIn c.rd c.at_ rfl ?_)
 have I2:=I1.tok (s1.toks+1)
 refine PySem.W.callWith_K (h₀:=X.base) I.ok.mod.kin c.kp (thn (ha pos pins _ σ H1 _ I2 h) fun us s2 ⟨vs,H2,I3,r,q2⟩=>⟨I3.kIn,?_⟩) hst hpl
 exact VO (dvs:=[]) (ds:=[]) F (hr.mono hj) b .nil Vn I3 r q2
end
end L2
namespace L2
open PySem PySem.Spec PyProof.Rows
def YdG:R2:=fun y x H Q=>∃ a o,x = .ref a∧DGet H a y o∧Q (.bl (!o.isSome)) H
def rInD:R2:=fun y x H Q=>∃ a o,x = .ref a∧DGet H a y o∧Q (.bl o.isSome) H
section
variable {X:Cx}
end
section
variable {K:PySem.W.Frag} {h:Heap} {mg:Str→Option Value} {P:Program} {w:World} {base:Heap} {f B:Addr} {x qual m:Str} {st:Stmt} {ps N:List Str} {oc kV dc pm cd ct:Value} {od an:Option Addr} {sl:Array (Option Value)} {g:Gx} {k:Nat} {sp:Sp}
theorem Gx.RawC.cf (R:g.RawC x m qual st ps) (S:FnScope N ps (Yi st)) (len:∀ vs H Q E,sp vs H Q E→vs.length=ps.length) (b:Vb g k N qual st sp):g.Cf (k+1) x m ps sp:=by
 obtain ⟨B,f,fd,F,bd,c,hm⟩:=R
 exact ⟨B,f,fd,F.ok S len fun cdv A outer s H vs Q E hr h=>b f cdv A outer s H vs Q E hr h,bd,c,hm⟩
theorem YdH (X:K.In h) (G:h.Ns mainGlobals mg) (ps:List Str) (aB:PySem.W.nsIn K mainGlobals x=some (some (.ref B))) (ga:PySem.W.specialIn K (.ref B) "__getattribute__"=some (some (.builtin "type.__getattribute__")))
  (rd:PySem.W.readsIn K B (.type "type")=true) (a:PySem.W.findCls K (.ref B) (.type "type") m=some (.val (.ref f)))
  (l:K.lookup f=some ⟨oc,od,.func (PySem.W.fnOf m qual (YN st) (Yy st) (Yi st) .none kV dc pm an cd ct),sl⟩) (c:PySem.W.codeIn K cd qual=true) (k:PySem.W.keepIn K (.ref f)=true)
  (b:∀ (kV doc pm:Value) (an:Option Addr) (cdv ct:Value) (us:List Value),us.length=ps.length→bindArgs (PySem.W.fnOf m qual (YN st) (Yy st) (Yi st) .none kV doc pm an cdv ct) ⟨us,[]⟩=pure (ps.zip us)) :
  ∀ P w base,(Gx.mk P w K mg base).RawC x m qual st ps:=fun P w base =>
 have F:=Wr (st:=st) l c k
 ⟨B,f,_,F,F.binds b,⟨ga,rd,a,k⟩,PySem.W.mg_of X G aB⟩
end
end L2
namespace L2
def Yaa (a b:TE):TE:=fun σ H Q=>a σ H Q∨b σ H Q
theorem XJ {X:Cx} {e:PySem.Expr} {a b:TE} (ha:PE X e a) (hb:PE X e b):PE X e (Yaa a b):=fun pins s σ H Q I h=>h.elim (fun z=>ha pins s σ H Q I z) (fun z=>hb pins s σ H Q I z)
end L2
namespace L2
open PySem PySem.Spec PyProof.Rows
section
variable {g:TG} {tb:TS} {D:Ends} {σ:St} {H:Hp}
theorem YaW {K:PySem.W.Frag} {ta:TA} {a:Addr} {xs:List V} (Pv:Nat→St→Hp→Prop) (ha:∀ R:List V→Hp→Prop,R [.ref a] H→ta σ H R) (h0:Pv 0 σ H) (hl:∀ i σ H,i≤xs.length→Pv i σ H→SqL K H a xs)
  (hs:∀ i x σ H T,xs[i]?=some x→Pv i σ H→H T=none→g (.ref T) σ (upd H T (.tup [.int (i:Int),x])) fun σ2 H2=>tb { D with nx:=Pv (i+1),ct:=Pv (i+1),bk:=D.nx } σ2 H2) (hd:∀ σ H,Pv xs.length σ H→D.nx σ H):V8 (YbF K ta) g tb D σ H:=by
 refine ha _ ⟨a,xs,rfl,hl 0 σ H (Nat.zero_le _) h0,?_⟩
 refine ⟨fun i m σ H=>m=xs.length - i∧i≤xs.length∧Pv i σ H,⟨xs.length,by simp,Nat.zero_le _,h0⟩,?_⟩
 rintro i m σ H ⟨rfl,hi,p⟩
 have q:=hl i σ H hi p
 by_cases hlt:i<xs.length
 ·have hx:xs[i]?=some xs[i]:=List.getElem?_eq_getElem hlt
  refine .inr ⟨⟨xs,_,q,hx⟩,Pv (i+1),fun σ' H' p'=>⟨xs.length - (i+1),by omega,rfl,hlt,p'⟩,?_⟩
  rintro v H' ⟨T,rfl,hT,heq⟩
  have e:=heq xs _ q hx
  subst e
  exact hs i _ σ H T hx p hT
 ·have e:i=xs.length:=by omega
  subst e
  exact .inl ⟨⟨xs,q,Nat.le_refl _⟩,hd σ H p⟩
end
end L2
namespace L2
open PySem
end L2
namespace L2
open PySem
end L2
namespace L2
open PySem PySem.Spec PyProof.Rows
section
variable {X:Cx} {elts:List Expr} {kk:Nat} {tpos:Pos}
end
section
variable {tb:TS} {D:Ends} {σ:St} {H:Hp}
end
end L2
namespace L2
open PySem
end L2
namespace L2
open PySem PySem.Spec PyProof.Rows
abbrev FnO (f:Addr) (fd:FuncData):HO := .ext fun h=>h.get? f=some { cls := .type "function",data := .func fd }
abbrev CdO (c:Addr) (q:Str):HO := .ext fun h=>h.CodeRec (.ref c) q
abbrev WE (c:Addr) (v:V):HO := .ext fun h=>∃ u,Ys v u∧h.IsCell c (some u)
section
variable {P:Program} {w:World} {H H':Hp} {h h':Heap}
theorem YbO {f:Addr} {fd:FuncData} (e:h.get? f=some { cls := .type "function",data := .func fd }):Yz P w H h f (FnO f fd):=⟨e,⟨_,e⟩,fun _ _ p k=>k _ p⟩
theorem Yen {c:Addr} {q:Str} (e:h.CodeRec (.ref c) q):Yz P w H h c (CdO c q):=by
 obtain ⟨c',o,vs,t,e1,e2,e3⟩:=id e
 cases e1
 refine ⟨e,⟨_,e2⟩,fun h1 h2 p k=>?_⟩
 obtain ⟨c',o,vs,t,e1,e2,e3⟩:=p
 cases e1
 exact ⟨c,o,vs,t,rfl,k _ e2,e3⟩
theorem Ycx {c:Addr} {v:V} {u:Value} (r:Ys v u) (e:h.IsCell c (some u)):Yz P w H h c (WE c v):=by
 obtain ⟨o,e1,e2⟩:=id e
 refine ⟨⟨u,r,e⟩,⟨_,e1⟩,fun h1 h2 p k=>?_⟩
 obtain ⟨u,r,o,e1,e2⟩:=p
 exact ⟨u,r,o,k _ e1,e2⟩
theorem HOk.track {c:Addr} {o:HO} (x:HOk P w H h) (hn:H c=none) (new:Yz P w (upd H c o) h c o):HOk P w (upd H c o) h:=fun b u e=>by
 by_cases hb:b=c
 ·subst hb;rw [Yc] at e;cases e;exact new
 ·rw [Yb hb] at e
  exact (x b u e).stay (fun _ _ _ q=>q) (fun d q=>by rw [Yb (Ye q hn)];exact q) fun d xs q=>by rw [Yb (Ye q hn)];exact q
end
def off (H:Hp) (cs:List Addr):Hp:=fun b=>if b∈cs then none else H b
def on (H' H:Hp) (cs:List Addr):Hp:=fun b=>if b∈cs then H b else H' b
section
variable {H H':Hp} {cs:List Addr} {b:Addr} {o:HO}
theorem Vf (h:b∈cs):off H cs b=none:=if_pos h
theorem YT (h:b∉cs):off H cs b=H b:=if_neg h
theorem YaX (h:b∈cs):on H' H cs b=H b:=if_pos h
theorem X8 (h:b∉cs):on H' H cs b=H' b:=if_neg h
theorem XZ (h:H b=none):off H cs b=none:=by unfold off;split<;>first | rfl | exact h
theorem Yeo (h:off H cs b=some o):H b=some o∧b∉cs:=by
 by_cases hb:b∈cs
 ·rw [Vf hb] at h;cases h
 ·rw [YT hb] at h;exact ⟨h,hb⟩
end
abbrev Yu:=List (Str×Addr×V)
def Yu.cl (l:Yu):List (Str×Addr):=l.map fun p=>(p.1,p.2.1)
def Yu.as (l:Yu):List Addr:=l.map fun p=>p.2.1
def Yu.vs (l:Yu):List V:=l.map fun p=>p.2.2
section
variable {l:Yu} {H:Hp}
theorem Wm {c:Addr} (h:c∈l.as):∃ p∈l,p.2.1=c:=by
 obtain ⟨p,hp,e⟩:=List.mem_map.mp h
 exact ⟨p,hp,e⟩
theorem XQ:∀ {l:Yu} {x:Str} {c:Addr},l.cl.lookup x=some c→∃ p∈l,p.1=x∧p.2.1=c
 | p::l,x,c,h=>by
  rw [Yu.cl,List.map_cons,List.lookup_cons] at h
  cases hb:x==p.1 with
  | true=>rw [hb] at h;exact ⟨p,.head _,(eq_of_beq hb).symm,Option.some.inj h⟩
  | false =>
   rw [hb] at h
   obtain ⟨q,h1,h2⟩:=XQ (l:=l) h
   exact ⟨q,.tail _ h1,h2⟩
theorem Qb:∀ {l:Yu},(l.map (·.1)).Nodup→∀ p∈l,l.cl.lookup p.1=some p.2.1
 | a::q,nd,p,hp=>by
  rw [List.map_cons,List.nodup_cons] at nd
  rw [Yu.cl,List.map_cons,List.lookup_cons]
  rcases List.mem_cons.mp hp with rfl | hp
  ·simp
  ·have:(p.1==a.1)=false:=by
    rw [beq_eq_false_iff_ne]
    intro z
    exact nd.1 (z▸List.mem_map_of_mem hp)
   rw [this]
   exact Qb nd.2 p hp
end
def YaY (P:Program) (w:World) (K:PySem.W.Frag) (mg:Str→Option Value) (base:Heap) (N:List Str) (qual:Str) (scope:Scope) (f:Addr) (cd:Value) (cl:List (Str×Addr)) (A:Around) (outer:List Env) (s:Shared) (H:Hp):Cx where
 prog:=P
 w:=w
 K:=K
 mg:=mg
 base:=base
 A:=A.deeper (PySem.W.envX qual scope s.heap.objs.size f cd cl)
 N:=N
 s₀:=s
 H₀:=H
 env:=PySem.W.envX qual scope s.heap.objs.size f cd cl
 outer:=outer
 stack:=PySem.W.envX qual scope s.heap.objs.size f cd cl::outer
 ex:=[]
 calm:=true
 fn:=fun _=>false
 pn:=[]
 xe:=fun _ _=>False
structure ClScope (N ps:List Str) (l:List Str) (sc:Scope):Prop where
 kind:sc.kind = .function
 co:sc.isCoroutine=false
 gen:sc.isGenerator=false
 nd:N.Nodup
 pre:N.take ps.length=ps
 suf:N.drop (N.length - l.length)=l
 len:ps.length+l.length≤N.length
 par:∀ x∈ps,sc.names.lookup x=some .local
 fre:∀ x∈l,sc.names.lookup x=some .free
 nocell:∀ y∈sc.names,y.2 ≠ .cell
 all:∀ y∈sc.names,y.2 = .free→y.1∈l
def VV (N:List Str) (vs fv:List V):St:=vs.map some++List.replicate (N.length - vs.length - fv.length) none++fv.map some
section
variable {P:Program} {w:World} {K:PySem.W.Frag} {mg:Str→Option Value} {base:Heap} {N ps:List Str} {qual name:Str} {scope:Scope} {f c:Addr} {A:Around} {outer:List Env} {s:Shared} {H:Hp} {us:List Value} {vs:List V} {l:Yu} {cd:Value}
theorem Uf:∀ {ps:List Str} {us:List Value} {i:Nat} {x:Str} {u:Value},ps.Nodup→ps[i]?=some x→us[i]?=some u→(ps.zip us).reverse.lookup x=some u:=by
 intro ps us i x u nd h1 h2
 have hm:(x,u)∈ps.zip us:=List.mem_of_getElem? (show (ps.zip us)[i]?=some (x,u) from List.getElem?_zip_eq_some.mpr ⟨h1,h2⟩)
 have key:∀ (q:List (Str×Value)),(q.map (·.1)).Nodup→(x,u)∈q→q.lookup x=some u:=by
  intro q
  induction q with
  | nil=>intro _ h;cases h
  | cons a q ih =>
   intro nd h
   rw [List.lookup_cons]
   rw [List.map_cons,List.nodup_cons] at nd
   rcases List.mem_cons.mp h with rfl | h
   ·simp
   ·have:(x==a.1)=false:=by
     rw [beq_eq_false_iff_ne]
     intro z
     exact nd.1 (z▸List.mem_map_of_mem h)
    rw [this]
    exact ih nd.2 h
 refine key _ ?_ (List.mem_reverse.mpr hm)
 rw [List.map_reverse]
 have hz:∀ (ps:List Str) (us:List Value),ps.Nodup→((ps.zip us).map (·.1)).Nodup∧∀ z∈(ps.zip us).map (·.1),z∈ps:=by
  intro ps
  induction ps with
  | nil=>intro us _;simp
  | cons a ps ih =>
   intro us nd
   cases us with
   | nil=>simp
   | cons u us =>
    have nd':=List.nodup_cons.mp nd
    obtain ⟨i1,i2⟩:=ih us nd'.2
    rw [List.zip_cons_cons,List.map_cons]
    refine ⟨List.nodup_cons.mpr ⟨fun hm=>nd'.1 (i2 _ hm),i1⟩,fun z hz=>?_⟩
    rcases List.mem_cons.mp hz with rfl | hz
    ·exact .head _
    ·exact .tail _ (i2 z hz)
 exact List.pairwise_reverse.mpr ((hz ps us nd).1.imp fun h=>Ne.symm h)
theorem YaZ {h1:Heap} {tk:Nat} (S:ClScope N ps (l.map (·.1)) scope) (hnd:l.as.Nodup) (hd:A.handled=none) (e0:Env0 P w K mg base A outer s H) (hl:vs.length=ps.length) (r:Ym vs us) (cellAt:∀ p∈l,∃ u,Ys p.2.2 u∧s.heap.IsCell p.2.1 (some u)) (hoff:HOk P w (off H l.as) s.heap)
  (hns:h1.Ns s.heap.objs.size (fun x=>(ps.zip us).reverse.lookup x)) (hk:∀ b o,s.heap.get? b=some o→h1.get? b=some o) :
  Inv (YaY P w K mg base N qual scope f cd l.cl A outer s (off H l.as)) [] (VV N vs l.vs) (off H l.as) { s with heap:=h1,toks:=tk }:=by
 have lfst:l.cl.map (·.1)=l.map (·.1):=by rw [Yu.cl,List.map_map];rfl
 have ndN:(l.map (·.1)).Nodup:=by rw [← S.suf];exact S.nd.sublist (List.drop_sublist _ _)
 have noA:∀ b:Addr,b∉(YaY P w K mg base N qual scope f cd l.cl A outer s (off H l.as)).ex:=fun b z=>absurd (show b∈([]:List Addr) from z) (by simp)
 have lk:=Qb ndN
 have cinj:∀ p∈l,∀ q∈l,p.2.1=q.2.1→p=q:=fun p hp q hq e=>by
  obtain ⟨i,hi,e1⟩:=List.getElem_of_mem hp
  obtain ⟨j,hj,e2⟩:=List.getElem_of_mem hq
  have h1:l.as[i]?=some p.2.1:=by rw [Yu.as,List.getElem?_map,List.getElem?_eq_getElem hi,e1];rfl
  have h2:l.as[j]?=some p.2.1:=by rw [Yu.as,List.getElem?_map,List.getElem?_eq_getElem hj,e2,e];rfl
  have hij:i=j:=by
   obtain ⟨g1,g2⟩:=List.getElem?_eq_some_iff.mp h1
   obtain ⟨g3,g4⟩:=List.getElem?_eq_some_iff.mp h2
   exact (List.getElem_inj hnd).mp (g2.trans g4.symm)
  subst hij
  rw [← e1,← e2]
 refine ⟨⟨e0.mod,S.kind,rfl,rfl,Nat.le_refl _,fun y z c h1 h2=>?_,fun y hy=>?_,fun y c h _=>absurd h (by show ¬ (false=true);decide),fun _=>hd,Around.frames_deeper e0.frames,.inr ⟨rfl,rfl⟩,fun b z=>absurd z (noA b),fun b o e=>⟨(e0.bs b o e).1,XZ (e0.bs b o e).2⟩,e0.bsz,fun b _ _=>noA b,fun b z=>absurd z (noA b),e0.funs,fun b hb=>XZ (e0.frf b hb)⟩,
  rfl,e0.bare,Un.kept hk,⟨_,hns,fun i y v h1 h2 h3=>?_⟩,fun y c h=>?_,XZ (e0.hok.fresh (Nat.le_refl _)),fun y c h=>?_,fun p hp=>absurd (show p∈([]:List (Addr×Obj)) from hp) (by simp),hoff.kept hk,?_⟩
 ·obtain ⟨p,hp,e1,e2⟩:=XQ h1
  obtain ⟨q,hq,e3,e4⟩:=XQ h2
  have:=cinj p hp q hq (e2.trans e4.symm)
  rw [← e1,← e3,this]
 ·have hy:scope.names.lookup y=some .cell∨scope.names.lookup y=some .free:=hy
  rcases hy with hy | hy
  ·exact absurd rfl (S.nocell _ (PySem.mem_of_lookup hy))
  ·obtain ⟨p,hp,e⟩:=List.mem_map.mp (S.all _ (PySem.mem_of_lookup hy) rfl)
   exact ⟨p.2.1,by show l.cl.lookup y=_;rw [← show p.1=y from e];exact lk p hp⟩
 ·have hvl:l.vs.length=(l.map (·.1)).length:=by rw [Yu.vs,List.length_map,List.length_map]
  have hsl:=S.len
  unfold VV at h2
  by_cases hi:i<vs.length
  ·have ha:vs[i]?=some v:=by
    rw [List.append_assoc,List.getElem?_append_left (by simpa using hi),List.getElem?_map] at h2
    cases e:vs[i]? with
    | none=>rw [e] at h2;cases h2
    | some a=>rw [e] at h2;cases h2;rfl
   obtain ⟨u,hu,rv⟩:=r.get ha
   have hp:ps[i]?=some y:=by
    rw [← S.pre,List.getElem?_take_of_lt (by omega)];exact h1
   have ndP:ps.Nodup:=by rw [← S.pre];exact S.nd.sublist (List.take_sublist _ _)
   exact ⟨u,rv,.inl ⟨S.par y (List.mem_of_getElem? hp),Uf ndP hp hu⟩⟩
  ·by_cases hi2:i<vs.length+(N.length - vs.length - l.vs.length)
   ·rw [List.getElem?_append_left (by rw [List.length_append,List.length_map,List.length_replicate];exact hi2),List.getElem?_append_right (by rw [List.length_map];omega),List.getElem?_replicate] at h2
    split at h2<;>cases h2
   ·rw [List.getElem?_append_right (by rw [List.length_append,List.length_map,List.length_replicate];omega),List.length_append,List.length_map,List.length_replicate,List.getElem?_map] at h2
    obtain ⟨v',hv',e⟩:=Option.map_eq_some_iff.mp h2
    cases e
    have hv2:(l.map fun p=>p.2.2)[i - (vs.length+(N.length - vs.length - l.vs.length))]?=some _:=hv'
    rw [List.getElem?_map] at hv2
    obtain ⟨p,hp,rfl⟩:=Option.map_eq_some_iff.mp hv2
    have hpm:=List.mem_of_getElem? hp
    have hy:(l.map (·.1))[i - (vs.length+(N.length - vs.length - l.vs.length))]?=some y:=by
     rw [← S.suf,List.getElem?_drop]
     rw [show N.length - (l.map (·.1)).length+(i - (vs.length+(N.length - vs.length - l.vs.length)))=i by omega]
     exact h1
    rw [List.getElem?_map,hp] at hy
    have ey:p.1=y:=Option.some.inj hy
    obtain ⟨u,ru,hc⟩:=cellAt p hpm
    obtain ⟨o,ho,hd'⟩:=hc
    refine ⟨u,ru,.inr ⟨.inr ?_,p.2.1,by show l.cl.lookup y=_;rw [← ey];exact lk p hpm,o,hk _ _ ho,hd'⟩⟩
    exact S.fre y (by rw [← ey];exact List.mem_map_of_mem hpm)
 ·obtain ⟨p,hp,e1,e2⟩:=XQ (show l.cl.lookup y=some c from h)
  obtain ⟨u,ru,o,ho,hd'⟩:=cellAt p hp
  exact ⟨some u,o,by rw [← e2];exact hk _ _ ho,hd'⟩
 ·obtain ⟨p,hp,e1,e2⟩:=XQ (show l.cl.lookup y=some c from h)
  exact Vf (by rw [← e2];exact List.mem_map_of_mem hp)
 ·unfold VV
  show _=N.length
  have hvl:l.vs.length=(l.map (·.1)).length:=by rw [Yu.vs,List.length_map,List.length_map]
  have hsl:=S.len
  rw [List.length_append,List.length_append,List.length_map,List.length_map,List.length_replicate]
  omega
end
end L2
namespace L2
open PySem PySem.Spec PyProof.Rows
def Bm (mg:Str→Option Value) (base:Heap):Prop:=∃ bm ob,mg "__builtins__"=some (.ref bm)∧bm≠builtinsNs∧bm≠mainGlobals∧base.get? bm=some ob∧ob.cls = .type "module"∧ob.dict=some builtinsNs∧ob.data = .plain
section
variable {X:Cx} {pins:List (Addr×Obj)} {σ:St} {H:Hp} {s:Shared}
theorem Inv.madeF {P c':Addr} {ps more:Array Value} {h':Heap} {tk:Nat} {fd:FuncData} {qual:Str} (I:Inv X pins σ H s) (hP:H P=some (.tbl ps)) (hx:Heap.ExtBut P s.heap h') (hge:s.heap.objs.size≤c') (hlt:c'<h'.objs.size) (hrec:h'.CodeRec (.ref c') qual) (htb:h'.get? P=some (PySem.W.tabObj (ps++more))) :
  Inv X pins σ (upd (upd (upd H P (.tbl (ps++more))) c' (CdO c' qual)) h'.objs.size (FnO h'.objs.size fd)) { s with heap:=h'.push { cls := .type "function",data := .func fd },toks:=tk }:=by
 have hPl:P<s.heap.objs.size:=I.hok.lt hP
 have hcf:s.heap.objs.size≤h'.objs.size:=Nat.le_trans hge (Nat.le_of_lt hlt)
 have hlc:∀ {b:Addr},b<s.heap.objs.size→b≠c'∧b≠h'.objs.size:=fun e=>⟨Nat.ne_of_lt (Nat.lt_of_lt_of_le e hge),Nat.ne_of_lt (Nat.lt_of_lt_of_le e hcf)⟩
 have hHc:∀ {b:Addr} {o:HO},H b=some o→b≠c'∧b≠h'.objs.size:=fun e=>hlc (I.hok.lt e)
 have push:∀ b o,h'.get? b=some o→(h'.push { cls := .type "function",data := .func fd }).get? b=some o:=fun b o e=>Heap.get?_push_of_some _ e
 have hget:∀ {b:Addr},b≠P→b≠c'→b≠h'.objs.size→(upd (upd (upd H P (.tbl (ps++more))) c' (CdO c' qual)) h'.objs.size (FnO h'.objs.size fd)) b=H b:=fun h1 h2 h3=>by rw [Yb h3,Yb h2,Yb h1]
 have atP:(upd (upd (upd H P (.tbl (ps++more))) c' (CdO c' qual)) h'.objs.size (FnO h'.objs.size fd)) P=some (.tbl (ps++more)):=by rw [Yb (hlc hPl).2,Yb (hlc hPl).1,Yc]
 refine I.un ⟨fun b o e n _ _=>push b o (hx b o (fun z=>by rw [z,hP] at n;cases n) e),fun b o e n _ _=>⟨o.slots,push b o (hx b o (fun z=>by rw [z,hP] at n;cases n) e)⟩,fun b o e n _=>?_,fun b o e _=>?_,fun b xs e=>?_,fun b o u e=>?_,fun b qs e=>?_⟩ fun b o e=>?_
 ·have:=Heap.lt_size e
  rw [hget (fun z=>by rw [z,hP] at n;cases n) (hlc this).1 (hlc this).2];exact n
 ·by_cases hb:b=P
  ·subst hb;exact ⟨_,push _ _ htb⟩
  ·exact ⟨o,push b o (hx b o hb e)⟩
 ·rw [hget (Yq e hP (by intro z;cases z)) (hHc e).1 (hHc e).2];exact e
 ·rw [hget (Yq e hP (by intro z;cases z)) (hHc e).1 (hHc e).2];exact e
 ·by_cases hb:b=P
  ·subst hb
   rw [hP] at e;cases e
   exact ⟨more,atP⟩
  ·exact ⟨#[],by rw [hget hb (hHc e).1 (hHc e).2,e];simp⟩
 ·by_cases h3:b=h'.objs.size
  ·subst h3
   rw [Yc] at e;cases e
   exact YbO (Heap.get?_push_size _ rfl)
  ·by_cases h2:b=c'
   ·subst h2
    rw [Yb h3,Yc] at e;cases e
    exact Yen (hrec.push _)
   ·by_cases h1:b=P
    ·subst h1
     rw [atP] at e;cases e
     exact push _ _ htb
    ·rw [hget h1 h2 h3] at e
     refine (I.hok b o e).stay (fun c u hc q=>push c u (hx c u ?_ q)) (fun c q=>?_) fun c xs q=>?_
     ·rcases hc with rfl | hc
      ·exact h1
      ·exact Yq hc hP (by intro z;cases z)
     ·rw [hget (Yq q hP (by intro z;cases z)) (hHc q).1 (hHc q).2];exact q
     ·rw [hget (Yq q hP (by intro z;cases z)) (hHc q).1 (hHc q).2];exact q
end
def Made (P:Addr) (pos:Pos) (q:Str) (mk:Addr→FuncData→Prop) (H:Hp) (Q:VK):Prop:=∃ ps,H P=some (.tbl ps)∧TriplesOk ps.toList ∧
 ((codeAmong pos ps.toList=none∧∀ f c fd,H f=none→H c=none→f≠c→mk c fd→Q (.ref f) (upd (upd (upd H P (.tbl (ps++#[rawInt pos.line,rawInt pos.col,.ref c]))) c (CdO c q)) f (FnO f fd))) ∨
  ∃ c,codeAmong pos ps.toList=some (.ref c)∧∀ f fd,H f=none→mk c fd→Q (.ref f) (upd H f (FnO f fd)))
section
variable {X:Cx} {c P:Addr} {name qual:Str} {params:Arguments} {body:List Stmt} {eb:Expr} {scope:Scope} {clos:List (Str×Addr)} {pos:Pos} {ln:Nat}
abbrev FnMk (name qual:Str) (params:Arguments) (body:List Stmt) (scope:Scope) (clos:List (Str×Addr)) (c:Addr) (fd:FuncData):Prop:=∃ doc pm ctv,fd=PySem.W.fnX name qual params body scope clos .none .none doc pm none (.ref c) ctv
theorem YbP {pins:List (Addr×Obj)} {σ:St} {H:Hp} {s:Shared} {ps:Array Value} (I:Inv X pins σ H s) (bm:Bm X.mg X.base) (hP:H P=some (.tbl ps)):mainGlobals≠P∧s.heap.BuiltinsAt X.mg P:=by
 refine ⟨fun z=>?_,?_⟩
 ·obtain ⟨o,es,ep,e,_⟩:=I.mod.glob
  have:=(I.bs _ _ e).2
  rw [z,hP] at this;cases this
 ·obtain ⟨b,ob,h1,h2,h3,h4,h5⟩:=bm
  refine ⟨b,ob,h1,h2,h3,fun z=>?_,(I.bs _ _ h4).1,h5⟩
  have:=(I.bs _ _ h4).2
  rw [z,hP] at this;cases this
theorem mk_fn {pins:List (Addr×Obj)} {σ:St} {H:Hp} {s:Shared} {Q:VK} (bm:Bm X.mg X.base) (C:PySem.W.CodeHd X.base c P) (hcode:X.env.code = .ref c) (hcl:closureFor scope X.env=pure clos) (I:Inv X pins σ H s) (h:Made P pos qual (FnMk name qual params body scope clos) H Q) :
  wpAny (model X.prog X.w) X.A (makeFunction name qual params (.stmts body) scope X.env [] [] [] pos ln) (EP X pins σ Q) X.xe s:=by
 obtain ⟨ps,hP,ht,h⟩:=h
 obtain ⟨hgP,hb⟩:=YbP I bm hP
 have hPo:s.heap.get? P=some (PySem.W.tabObj ps):=I.hok P _ hP
 rcases h with ⟨hnf,h⟩ | ⟨c',hf,h⟩
 ·refine PySem.W.makeFunction_K (mg:=X.mg) hcl I.ok.glob (I.mod.glob.keeps I.bk) hcode (C.keeps I.bk) hPo ht hnf hgP hb fun c' ctv doc h' tk hx hge hlt hrec htb=>?_
  refine ⟨.ref h'.objs.size,_,I.madeF hP hx hge hlt hrec htb,rfl,h _ _ _ (I.hok.fresh (Nat.le_trans hge (Nat.le_of_lt hlt))) (I.hok.fresh hge) (Nat.ne_of_gt hlt) ⟨_,_,_,rfl⟩⟩
 ·refine PySem.W.makeFunction_hit (mg:=X.mg) hcl I.ok.glob (I.mod.glob.keeps I.bk) hcode (C.keeps I.bk) hPo ht hf hb fun ctv doc h' tk hk hsz=>?_
  exact ⟨.ref h'.objs.size,_,I.laid (fun b o e=>Heap.get?_push_of_some _ (hk b o e)) hsz (YbO (Heap.get?_push_size _ rfl)),rfl,h _ _ (I.hok.fresh hsz) ⟨_,_,_,rfl⟩⟩
def tDef (i:Nat) (P:Addr) (pos:Pos) (q:Str) (mk:Addr→FuncData→Prop):TS:=fun D σ H=>Made P pos q mk H fun v H'=>D.nx (σ.set i (some v)) H'
theorem Yep (i:Nat) (bm:Bm X.mg X.base) (C:PySem.W.CodeHd X.base c P) (hcode:X.env.code = .ref c) (hcl:closureFor scope X.env=pure clos) (hN:X.N.Nodup) (hi:X.N[i]?=some name) (hx:Loc X.env.scope name) (hq:qualnameIn X.env name name=qual)
  (hd0:params.defaults=[]) (hk0:params.kw_defaults=[]) (ha:annTrees params none X.env=[]) (hf:X.fn name=true∨X.env.scope.names.lookup name=some .local) :
  PS X (.FunctionDef name params body [] none [] scope none name pos) (tDef i P pos qual (FnMk name qual params body scope clos)):=by
 intro pins s σ H D I h
 refine PySem.W.nestDef_K hd0 hk0 ha ?_
 rw [hq]
 refine thn (mk_fn bm C hcode hcl I h) fun v s1 ⟨x,H1,I1,r,q⟩=>?_
 exact XD I1 hN hi hx r (fun s2 I2=>⟨_,H1,I2,q⟩) hf
end
def X0 (X:Cx) (σ:St) (l:Yu):Prop:=l.as.Nodup∧∀ p∈l,∃ i:Nat,X.N[i]?=some p.1∧σ[i]?=some (some p.2.2)∧X.env.kindOf p.1=some .cell∧X.env.cells.lookup p.1=some p.2.1
section
variable {X:Cx} {st:Stmt} {YQ:List Stmt} {t:TS} {u:(St→V→Hp→Prop)→St→Hp→Prop} {e:Expr} {te:TE} {pos:Pos}
end
end L2
namespace L2
open PySem PySem.Spec PyProof.Rows
def Yeq (g:Gx) (k i:Nat) (t:TA):TE:=fun σ H Q=>∃ f fd ps sp,σ[i]?=some (some (.ref f))∧FnOk g.P g.w g.K g.mg g.base CX0 k f fd ps sp∧(∀ us:List Value,us.length=ps.length→bindArgs fd ⟨us,[]⟩=pure (ps.zip us))∧H f=some (FnO f fd)∧t σ H fun vs H1=>H1 f=some (FnO f fd)∧sp vs H1 Q E0
section
variable {X:Cx} {g:Gx} {k j i:Nat} {x:Str} {p pos:Pos} {e:Expr} {es:List Expr} {t:TA}
theorem Yab {pins:List (Addr×Obj)} {σ:St} {H:Hp} {s:Shared} {f:Addr} {fd:FuncData} (I:Inv X pins σ H s) (h:H f=some (FnO f fd)):PySem.W.FnAt f s.heap:=⟨_,_,_,_,(I.hok _ _ h).1⟩
theorem Ycy (i:Nat) (hr:Room k X.A) (ha:PA X (e::es) t) (hj:j≤k) (hX:X.gx=g) (hN:X.N[i]?=some x) (hv:Vis X.env.scope x) (hdb:(x==("__debug__":Str))=false)
  (hcd:(x==("__classdict__":Str))=false) (he:starEach (e::es) X.env=(false,eval e X.env)::starEach es X.env) (hpl:(backTo pos (starEach es X.env)).any (·.1)=false):PE X (.Call (.Name x p) (e::es) [] pos) (Yeq g j i t):=by
 subst hX
 intro pins s σ H Q I h
 obtain ⟨f,fd,ps,sp,hσ,F,b,hf,ht⟩:=h
 refine wpAny_Call_Name_kw (thn (Ybh hN hv hdb hcd pins s σ H (fun v H1=>v = .ref f∧H1 f=some (FnO f fd)∧t σ H1 fun vs H1=>H1 f=some (FnO f fd)∧sp vs H1 Q E0) I ⟨.ref f,hσ,rfl,hf,ht⟩) fun u s1 ⟨v,H1,I1,r,e,hf1,ht⟩=>?_)
 subst e
 obtain rfl:u=Value.ref f:=r
 refine PySem.W.callWith_F (Yab I1 hf1) (thn (ha pos pins s1 σ H1 _ I1 ht) fun us s2 ⟨vs,H2,I2,r2,hf2,q⟩=>⟨Yab I2 hf2,?_⟩) he hpl
 exact VO F (hr.mono hj) (.all b) .nil Vn I2 r2 (by rw [List.append_nil];exact q)
end
abbrev Tbs:=List (Str×Addr×Addr)
theorem YbQ {P:Program} {w:World} {K:PySem.W.Frag} {mg mb:Str→Option Value} {CX:CXT} {k:Nat} {fa a:Addr} {fd:FuncData} {x:Str} {sp:Sp} {s₁:Shared} {vs:List Value} {ns:List Int} (tabs:Tbs)
  (KX:K.In s₁.heap) (hns:s₁.heap.Ns mainGlobals mg) (hb:s₁.heap.Ns builtinsNs mb) (hbb:∀ x:Str,x≠"__name__"→mb x=bootBuiltins x) (hlim:s₁.heap.NoLimit) (hg:s₁.gens=#[])
  (ha:s₁.heap.get? a=some { cls := .type "list",data := .seq vs.toArray }) (hi:IntsAre vs ns) (hl:ns.length≤sizeLine) (hr:Room k callerA)
  (hT:∀ q∈tabs,PySem.W.CodeHd s₁.heap q.2.1 q.2.2∧s₁.heap.get? q.2.2=some (PySem.W.tabObj #[])) (hK:∀ q∈tabs,K.lookup q.2.2=none)
  (bmn:∃ bm ob,mg "__builtins__"=some (.ref bm)∧bm≠builtinsNs∧s₁.heap.get? bm=some ob∧ob.cls = .type "module"∧ob.dict=some builtinsNs∧ob.data = .plain)
  (F:∀ base:Heap,K.In base→base.Ns mainGlobals mg→Bm mg base→(∀ q∈tabs,PySem.W.CodeHd base q.2.1 q.2.2)→FnOk P w K mg base CX k fa fd [x] sp) (hbind:∀ (s:Shared) (u:Value),BindsTo s fd ⟨[u],[]⟩ [(x,u)])
  (hsp:∀ H:Hp,(∀ q∈tabs,H q.2.2=some (.tbl #[]))→SqL K H a (ns.map V.int)→sp [.ref a] H (fun v _=>v = .bl true) fun _ _ _=>False)
  (hCX:∀ H e s',CX [] H s₁ (fun _ _ _=>False) e s'→False) :
  codeAny (model P w) callerA (.call (.ref fa) ⟨[.ref a],[]⟩) (fun r s'=>r = .ok (.ret (.bool true))∧OldK s₁.heap s'.heap∧s'.os=s₁.os∧AllBare s'.gens) s₁:=by
 have rv:=Uw hi
 have lenV:=hi.length
 have tobj:∀ b∈tabs.map (·.2.2),s₁.heap.get? b=some (PySem.W.tabObj #[]):=fun b hb=>by
  obtain ⟨q,hq,rfl⟩:=List.mem_map.mp hb
  exact (hT q hq).2
 have aT:a∉tabs.map (·.2.2):=fun hb=>by
  have:=tobj a hb
  rw [ha] at this
  cases this
 have core:∀ H:Hp,(∀ b,H b=none∨(∃ o xs,H b=some (.frz o (.lst xs)))∨(b∈tabs.map (·.2.2)∧H b=some (.tbl #[])))→SqL K H a (ns.map V.int)→HOk P w H s₁.heap→(∀ b,H b≠none→b=a∨b∈tabs.map (·.2.2))→(H a≠none→K.lookup a=none)→(∀ q∈tabs,H q.2.2=some (.tbl #[])) →
   codeAny (model P w) callerA (.call (.ref fa) ⟨[.ref a],[]⟩) (fun r s'=>r = .ok (.ret (.bool true))∧OldK s₁.heap s'.heap∧s'.os=s₁.os∧AllBare s'.gens) s₁:=by
  intro H hO hS hok hA hKa hTb
  have base_of:∀ {b:Addr} {o:Obj},s₁.heap.get? b=some o→H b=none→(Wp s₁.heap H).get? b=some o:=fun e n=>Ycc e n
  have noC:∀ {b:Addr} {o:Obj},s₁.heap.get? b=some o→o.cls ≠ .type "list"→o≠PySem.W.tabObj #[]→H b=none:=fun {b o} e d1 d2=>by
   cases q:H b with
   | none=>rfl
   | some u =>
    rcases hA b (by rw [q];simp) with e' | e'
    ·subst e'
     rw [ha] at e;cases e
     exact absurd rfl d1
    ·rw [tobj b e'] at e
     exact absurd (Option.some.inj e).symm d2
  have noA:∀ {b:Addr} {o:Obj} {es:Array DictEntry} {ep:Nat},s₁.heap.get? b=some o→o.data = .dict es ep→H b=none:=fun {b o es ep} e d=>by
   cases q:H b with
   | none=>rfl
   | some u =>
    rcases hA b (by rw [q];simp) with e' | e'
    ·subst e'
     rw [ha] at e;cases e
     have d':Data.seq vs.toArray _=Data.dict es ep:=d
     cases d'
    ·rw [tobj b e'] at e
     cases e
     have d':Data.fields #[]=Data.dict es ep:=d
     cases d'
  have nsK:∀ {b:Addr} {m:Str→Option Value},s₁.heap.Ns b m→(Wp s₁.heap H).Ns b m:=fun {b m} ⟨o,es,ep,e,d,r⟩=>⟨o,es,ep,base_of e (noA e d),d,r⟩
  have hKb:K.In (Wp s₁.heap H):=fun b o e=>base_of (KX b o e) (by
   cases q:H b with
   | none=>rfl
   | some u =>
    rcases hA b (by rw [q];simp) with e' | e'
    ·subst e'
     rw [hKa (by rw [q];simp)] at e;cases e
    ·obtain ⟨z,hz,rfl⟩:=List.mem_map.mp e'
     rw [hK z hz] at e;cases e)
  have hM:Mod K mg (Wp s₁.heap H):=⟨hKb,nsK hns,⟨mb,nsK hb,hbb⟩,let ⟨mc,h1,h2⟩:=hlim;⟨mc,nsK h1,h2⟩⟩
  have e0:Env0 P w K mg (Wp s₁.heap H) callerA [] s₁ H:=⟨rfl,hM,fun b o e=>Ydh e,Nat.le_of_eq (Ybf _ _),trivial,fun b hb=>absurd (show b∈([]:List Addr) from hb) (by simp),hok,.of_eq hg⟩
  have hBm:Bm mg (Wp s₁.heap H):=by
   obtain ⟨bm,ob,b1,b2,b3,b4,b5,b6⟩:=bmn
   refine ⟨bm,ob,b1,b2,fun z=>?_,base_of b3 (noC b3 (by rw [b4];decide) fun z=>by rw [z] at b4;cases b4),b4,b5,b6⟩
   obtain ⟨o,es,ep,e,d,_⟩:=hns
   rw [z,e] at b3;cases b3
   rw [d] at b6;cases b6
  have hCd:∀ q∈tabs,PySem.W.CodeHd (Wp s₁.heap H) q.2.1 q.2.2:=fun q hq=>by
   obtain ⟨o,vs',file,tf,flags,tg,inF,text,tt,e1,e2,r⟩:=(hT q hq).1
   exact ⟨o,vs',file,tf,flags,tg,inF,text,tt,base_of e1 (noC e1 (by rw [e2];decide) fun z=>by rw [z] at e2;cases e2),e2,r⟩
  refine codeAny_mono ((F _ hKb (nsK hns) hBm hCd).run callerA [] s₁ H ⟨[.ref a],[]⟩ [.ref a] [.ref a] _ _ hr e0 (hbind s₁ (.ref a)) (.cons rfl .nil) (hsp H hTb hS)) fun r s' h=>?_
  cases r with
  | error e=>exact (hCX H e s' h).elim
  | ok fl =>
   cases fl with
   | next=>exact False.elim h
   | brk=>exact False.elim h
   | cont=>exact False.elim h
   | ret u =>
    obtain ⟨v,H',os,bare,un,hok',r',q⟩:=h
    have q':v = .bl true:=q
    subst q'
    obtain rfl:u=Value.bool true:=r'
    have each:∀ b o,s₁.heap.get? b=some o→s'.heap.get? b=some o∨((∃ z∈tabs,z.2.2=b)∧o=PySem.W.tabObj #[]∧∃ ps,s'.heap.get? b=some (PySem.W.tabObj ps)):=fun b o e=>by
     rcases hO b with q | ⟨ob,xs,z⟩ | ⟨z1,z2⟩
     ·exact .inl (un.keep b o e q (by intro z;exact absurd (show b∈([]:List Addr) from z) (by simp)) (by simp))
     ·have z2:=un.frzs b ob _ z
      obtain ⟨e1,_⟩:=hok b _ z
      obtain ⟨e2,_⟩:=hok' b _ z2
      rw [e] at e1;cases e1
      exact .inl e2
     ·obtain ⟨q,hq,e3⟩:=List.mem_map.mp z1
      obtain ⟨more,e4⟩:=un.tbls b _ z2
      have e5:s'.heap.get? b=some (PySem.W.tabObj (#[]++more)):=hok' b _ e4
      rw [tobj b z1] at e
      exact .inr ⟨⟨q,hq,e3⟩,(Option.some.inj e).symm,_,e5⟩
    refine ⟨rfl,⟨fun b o e=>?_,fun b o e=>?_⟩,os,bare⟩
    ·rcases each b o e with h | ⟨⟨z,hz,rfl⟩,rfl,ps,h⟩
     ·exact .inl h
     ·exact .inr (.inl ⟨((hT z hz).1.tab (hT z hz).2).isCodeTable,rfl,#[],ps,rfl,by rw [Array.empty_append];exact h⟩)
    ·rcases each b o e with h | ⟨_,_,ps,h⟩
     ·exact ⟨o,h⟩
     ·exact ⟨_,h⟩
 have tbIn:∀ q∈tabs,q.2.2∈tabs.map (·.2.2):=fun q hq=>List.mem_map_of_mem hq
 have tbOk:∀ {H:Hp} {b:Addr},b∈tabs.map (·.2.2)→Yz P w H s₁.heap b (.tbl #[]):=fun hb=>tobj _ hb
 cases hk:K.lookup a with
 | some o =>
  have e:=KX a o hk
  rw [ha] at e
  cases e
  refine core (fun b=>if b∈tabs.map (·.2.2) then some (.tbl #[]) else none) (fun b=>?_) (.inr ⟨_,vs.toArray,_,hk,rfl,rfl,rfl,by rw [List.size_toArray,lenV];exact hl,by simpa using rv⟩) (fun b u z=>?_) (fun b z=>?_) (fun z=>absurd (if_neg aT) z) fun q hq=>if_pos (tbIn q hq)
  ·by_cases hb:b∈tabs.map (·.2.2)
   ·exact .inr (.inr ⟨hb,if_pos hb⟩)
   ·exact .inl (if_neg hb)
  ·by_cases hb:b∈tabs.map (·.2.2)
   ·have z':=(if_pos hb).symm.trans z
    cases z'
    exact tbOk hb
   ·have z':=(if_neg hb).symm.trans z
    cases z'
  ·by_cases hb:b∈tabs.map (·.2.2)
   ·exact .inr hb
   ·exact absurd (if_neg hb) z
 | none =>
  refine core (fun b=>if b∈tabs.map (·.2.2) then some (.tbl #[]) else if b=a then some (.frz { cls := .type "list",data := .seq vs.toArray } (.lst (ns.map V.int))) else none) (fun b=>?_) (.inl (.inr ⟨{ cls := .type "list",data := .seq vs.toArray },(if_neg aT).trans (if_pos rfl)⟩)) (fun b u z=>?_) (fun b z=>?_) (fun _=>hk) fun q hq=>if_pos (tbIn q hq)
  ·by_cases hb:b∈tabs.map (·.2.2)
   ·exact .inr (.inr ⟨hb,if_pos hb⟩)
   ·by_cases hb2:b=a
    ·exact .inr (.inl ⟨_,_,(if_neg hb).trans (if_pos hb2)⟩)
    ·exact .inl ((if_neg hb).trans (if_neg hb2))
  ·by_cases hb:b∈tabs.map (·.2.2)
   ·have z':=(if_pos hb).symm.trans z
    cases z'
    exact tbOk hb
   ·have z1:=(if_neg hb).symm.trans z
    by_cases hb2:b=a
    ·have z':=(if_pos hb2).symm.trans z1
     cases z'
     subst hb2
     exact ⟨ha,by rw [List.length_map];exact hl,vs,_,rv,ha⟩
    ·have z':=(if_neg hb2).symm.trans z1
     cases z'
  ·by_cases hb:b∈tabs.map (·.2.2)
   ·exact .inr hb
   ·by_cases hb2:b=a
    ·exact .inl hb2
    ·exact absurd ((if_neg hb).trans (if_neg hb2)) z
def Vo (K:PySem.W.Frag) (tabs:Tbs):Sp:=fun vs H Q _=>∃ (a:Addr) (ns:List Int),vs=[.ref a]∧SqL K H a (ns.map V.int)∧ns.length≤63∧(∀ q∈tabs,H q.2.2=some (.tbl #[]))∧∀ H',Q (.bl true) H'
theorem Ycz {l:PySem.W.OpenLaw} {q:Program} {loose:List Str} {XP:(Str→Option Value)→Heap→Prop} {YP:World→Heap→Prop} {d:DefRec} {K:Params→PySem.W.Frag} (tabs:Tbs) (k:Nat) (x:Str) (st:Stmt) (N:List Str) (hn:l.most=some 63) (hdf:d.params.defaults=[]) (hk:Room (k+1) callerA) (S:FnScope N [x] (Yi st))
  (hY:∀ (w:World) (h:Heap),YP w h→(K w.params).In h)
  (hrec:∀ p∈tabs,∃ d',(recsOf q).find? (fun e=>e.name==p.1)=some d')
  (htab:∀ (w:World),∀ p∈tabs,PySem.W.tabIn (K w.params) p.1=some p.2)
  (hno:∀ (w:World),∀ p∈tabs,(K w.params).lookup p.2.2=none)
  (F:∀ (w:World) (mg:Str→Option Value) (h:Heap),(K w.params).In h→h.Ns mainGlobals mg→YbD (K w.params) mg st x d.name∧∀ base,Bm mg base→(∀ p∈tabs,PySem.W.CodeHd base p.2.1 p.2.2)→Vb (Gx.mk l.prog w (K w.params) mg base) k N d.name st (Vo (K w.params) tabs)) :
  PySem.W.WalkO q loose XP YP l.row.toRowW d [] (fun f vs=>PySem.call f vs):=by
 refine Att.attach_call hn hdf fun w s₀ s₁ mg mb fa o pm cd doc a vs ns G Y ho hd hcd hmg hobj hints hlen hg=>?_
 have KX:=hY w _ Y
 obtain ⟨⟨f,fd,Fu,hb,hm⟩,B⟩:=F w mg _ KX G.T.g
 have e:=hmg.symm.trans hm
 cases e
 refine YbQ (CX:=CX0) (sp:=Vo (K w.params) tabs) tabs KX G.T.g G.T.b G.T.builtins G.T.nolimit hg hobj hints (Nat.le_trans hlen (by decide)) hk (fun p hp=>?_) (hno w) G.T.bmain
  (fun base _ _ hB hC=>Fu.ok S (fun vs H Q E h=>by obtain ⟨a,ns,rfl,_⟩:=h;rfl) fun cdv A outer s H vs Q E hr h=>B base hB hC fa cdv A outer s H vs Q E hr h) hb (fun H hT hS=>⟨a,ns,rfl,hS,hlen,hT,fun _=>rfl⟩) fun H e s' z=>z
 obtain ⟨d',hd'⟩:=hrec p hp
 exact PySem.W.tab_of G.T KX hd' (htab w p hp)
def inDef (s:Stmt) (j:Nat):Stmt:=(Yy s).getD j (.Pass ⟨0,0,0,0⟩)
def Gx.RawT (g:Gx) (x qual:Str) (st:Stmt) (ps:List Str) (c:Addr):Prop:=∃ f fd,Fun g.K x qual st f fd∧YW g.K fd ps []∧g.mg x=some (.ref f)∧fd.code = .ref c
theorem YdI {K:PySem.W.Frag} {h:Heap} {mg:Str→Option Value} {f:Addr} {x:Str} {st:Stmt} {c:Addr} {oc kV dc pm cd ct:Value} {od an:Option Addr} {sl:Array (Option Value)} (X:K.In h) (G:h.Ns mainGlobals mg) (ps:List Str)
  (a:PySem.W.nsIn K mainGlobals x=some (some (.ref f))) (l:K.lookup f=some ⟨oc,od,.func (PySem.W.fnOf x x (YN st) (Yy st) (Yi st) .none kV dc pm an cd ct),sl⟩) (cc:PySem.W.codeIn K cd x=true) (k:PySem.W.keepIn K (.ref f)=true) (e:cd = .ref c)
  (b:∀ (kV doc pm:Value) (an:Option Addr) (cdv ct:Value) (us:List Value),us.length=ps.length→bindArgs (PySem.W.fnOf x x (YN st) (Yy st) (Yi st) .none kV doc pm an cdv ct) ⟨us,[]⟩=pure (ps.zip us)) :
  ∀ P w base,(Gx.mk P w K mg base).RawT x x st ps c:=fun P w base =>
 have F:=Wr (st:=st) l cc k
 ⟨f,_,F,F.binds b,PySem.W.mg_of X G a,e⟩
end L2
namespace HT
open PySem PySem.Spec PyProof.Rows
variable {prog:Program} {w:World} {A:Around} {E:Value→Shared→Prop} {s:Shared}
end HT
namespace L2
open PySem PySem.Spec PyProof.Rows
end L2
namespace L2
open PySem PySem.Spec PyProof.Rows
section
variable {tb:TS} {D:Ends} {σ:St} {H:Hp}
end
section
variable {src:List (Option Nat)} {te:TE} {tt:TT} {σ:St} {H:Hp} {Q:VK}
end
end L2
namespace L2
open PySem PySem.Spec PyProof.Rows
end L2
namespace L2
open PySem PySem.Spec PyProof.Rows
structure FunD (K:PySem.W.Frag) (x qual:Str) (st:Stmt) (f:Addr) (fd:FuncData) (T:Addr):Prop where
 ex:∃ (oc:Value) (od:Option Addr) (kV doc pm:Value) (an:Option Addr) (cdv ct:Value) (osl:Array (Option Value)),
  fd=PySem.W.fnOf x qual (YN st) (Yy st) (Yi st) (.ref T) kV doc pm an cdv ct∧K.lookup f=some ⟨oc,od,.func fd,osl⟩∧PySem.W.codeIn K cdv qual=true
 kp:PySem.W.keepIn K (.ref f)=true
section
variable {g:Gx} {x qual:Str} {st:Stmt} {N ps:List Str} {dvs:List V} {sp:Sp} {j k:Nat}
variable {X:Cx} {p pos:Pos} {e:Expr} {es:List Expr} {t:TA}
end
section
variable {X:Cx}
def tLR (ta:TA):TE:=fun σ H Q=>ta σ H fun vs H1=>∃ n:Nat,vs=[.int n]∧n≤10000∧∀ l,H1 l=none→Q (.ref l) (upd H1 l (.lst ((List.range n).map fun (i:Nat)=>V.int (i:Int))))
theorem Yac:∀ (n k:Nat) (us:List Value),us.length=n→(∀ (j:Nat) u,us[j]?=some u→∃ t,u = .int ((k+j:Nat):Int) t)→Ym ((List.range' k n).map fun (i:Nat)=>V.int (i:Int)) us
 | 0,k,us,hl,_=>by
  have:us=[]:=List.length_eq_zero_iff.mp hl
  subst this
  exact .nil
 | n+1,k,u::us,hl,h=>by
  rw [List.range'_succ,List.map_cons]
  refine .cons ?_ (Yac n (k+1) us (by simpa using hl) fun j v hv=>?_)
  ·obtain ⟨t,e⟩:=h 0 u rfl
   exact ⟨t,by simpa using e⟩
  ·obtain ⟨t,e⟩:=h (j+1) v (by simpa using hv)
   exact ⟨t,by rw [e];congr 2;omega⟩
theorem Ya0 {n:Nat} {acc:Array Value} (h:ItemsOf (fun i v=>∃ t,v = .int (0+(i:Int)*1) t) acc n):Ym ((List.range n).map fun (i:Nat)=>V.int (i:Int)) acc.toList:=by
 rw [List.range_eq_range']
 refine Yac n 0 acc.toList (by rw [Array.length_toList];exact h.1) fun j u hu=>?_
 obtain ⟨t,e⟩:=h.2 j u (by rw [← Array.getElem?_toList];exact hu)
 exact ⟨t,by rw [e];congr 1;omega⟩
theorem UK {a:Expr} {ta:TA} {p q pos pos':Pos} (hgl:Gl X "list") (hml:X.mg "list"=none) (hg:Gl X "range") (hm:X.mg "range"=none) (ha:PA X [a] ta) (hc:X.calm=true)
  (hs:starEach [a] X.env=[(false,eval a X.env)]) :
  PE X (.Call (.Name "list" p) [.Call (.Name "range" q) [a] [] pos'] [] pos) (tLR ta):=by
 intro pins s σ H Q I h
 refine wpAny_Call_Name_kw (XN I hgl hml boot_list ?_)
 refine PyProof.Rows.callWith_type1 ?_
 show wpAny _ _ (spliced ((false,eval (.Call (.Name "range" q) [a] [] pos') X.env)::[])) _ _ s
 refine Calls.spliced_cons ?_
 refine wpAny_Call_Name_kw (XN I hg hm boot_range (PyProof.Rows.callWith_type1 (thn (ha pos' pins s σ H _ I h) fun us s1 ⟨vs,H1,I1,r1,q1⟩=>?_) hs rfl))
 obtain ⟨n,e,hn,q⟩:=q1
 subst e
 obtain ⟨u,rfl,t,rfl⟩:=Wb r1
 refine call_range_1 ?_
 refine Calls.spliced_nil ?_
 have I2:Inv X pins σ H1 { s1 with heap:=s1.heap.push { cls := .type "range",data := .fields #[.int 0 s1.toks,.int (n:Int) t,.int 1 (s1.toks+1)] },toks:=s1.toks+1+1 }:=I1.kept (t':=s1.toks+1+1) (fun b o e=>Heap.get?_push_of_some _ e)
 have hsz:Builtin.Range.rangeSize 0 (n:Int) 1=n:=by rw [rangeSize_one];split<;>omega
 have hz:((List.range n).map fun (i:Nat)=>V.int (i:Int)).length≤sizeLine:=by rw [List.length_map,List.length_range];exact Nat.le_trans hn (by decide)
 refine call_list_range (I2.ok.hd hc) (IsRange.new _ _ _ _ _ _ _) ?sm hsz (by omega) fun h' tk acc c' kp hS hI=>?_
 case sm =>
  simp [Builtin.Range.small,hsz,Builtin.Range.rangeFitsLong]
  omega
 exact ⟨.ref _,_,I2.laid (t':=tk) kp (Nat.le_refl _) (show Yz X.prog X.w _ h' _ (.lst ((List.range n).map fun (i:Nat)=>V.int (i:Int))) from ⟨hz,acc.toList,c',Ya0 hI,by simpa using hS⟩),rfl,q _ (I2.hok.fresh (Nat.le_refl _))⟩
end
section
variable {src:List (Option Nat)} {te:TE} {σ:St} {H:Hp} {Q:VK}
theorem YbR {K:PySem.W.Frag} {tl:TE} {xs:List V} {b:Addr} (I:Addr→Nat→List V→Hp→Prop) (ha:∀ R:V→Hp→Prop,R (.ref b) H→tl σ H R) (hS:SqL K H b xs) (hlen:xs.length≤100000)
  (i0:∀ D,H D=none→I D 0 [] (upd H D (.lst []))) (dl:∀ D i zs H',H D=none→I D i zs H'→zs.length=i∧H' D=some (.lst zs)∧SqL K H' b xs)
  (step:∀ D (i:Nat) x zs H',H D=none→xs[i]?=some x→I D i zs H'→∀ R:VK,(∀ y H'',H'' D=some (.lst zs)→I D (i+1) (zs++[y]) (upd H'' D (.lst (zs++[y])))→R y H'')→te (some x::YS src σ) H' R)
  (fin:∀ D zs H',H D=none→I D xs.length zs H'→Q (.ref D) H'):tLC (none::src) (Vk K tl) (YM 0) Wt te σ H Q:=by
 refine ha _ ⟨b,rfl,⟨xs,hS⟩,fun D hD=>?_⟩
 have h6:100000<sizeLine:=by decide
 refine VR We (fun i zs σ' H'=>(∃ o,σ'=o::YS src σ)∧i≤xs.length∧I D i zs H') ⟨⟨none,rfl⟩,Nat.zero_le _,i0 D hD⟩ (fun i zs σ' H' q=>⟨(dl _ _ _ _ hD q.2.2).2.2,(dl _ _ _ _ hD q.2.2).2.1⟩) (Wf 0) ?_ ?_
 ·rintro i zs σ' H' x hx ⟨⟨o,rfl⟩,_,hI⟩
  have hi:i<xs.length:=(List.getElem?_eq_some_iff.mp hx).1
  have hl:=(dl _ _ _ _ hD hI).1
  show te (some x::YS src σ) H' _
  exact step D i x zs H' hD hx hI _ fun y H'' hd hI'=>⟨hd,by omega,⟨_,rfl⟩,hi,hI'⟩
 ·rintro zs σ' H' ⟨_,_,hI⟩
  exact fin D zs H' hD hI
end
end L2
namespace L2
open PySem PySem.Spec PyProof.Rows
mutual
inductive RK (h:Heap):Value→PyData→Prop
 | int (i:Int) (t:Tok):RK h (.int i t) (.int i)
 | str (x:Str) (t:Tok) (hx:PyData.strOk x=true):RK h (.str x t) (.str x)
 | tup {a:Addr} {o:Obj} {vs:Array Value} {n:Nat} {ds:List PyData}:h.get? a=some o→o.cls = .type "tuple"→o.data = .seq vs n→RKs h vs.toList ds→RK h (.ref a) (.tuple ds)
inductive RKs (h:Heap):List Value→List PyData→Prop
 | nil:RKs h [] []
 | cons {v:Value} {d:PyData} {vs:List Value} {ds:List PyData}:RK h v d→RKs h vs ds→RKs h (v::vs) (d::ds)
end
mutual
inductive KO:PyData→Prop
 | int (i:Int):KO (.int i)
 | str (x:Str):KO (.str x)
 | tup {ds:List PyData}:KOs ds→KO (.tuple ds)
inductive KOs:List PyData→Prop
 | nil:KOs []
 | cons {d:PyData} {ds:List PyData}:KO d→KOs ds→KOs (d::ds)
end
mutual
theorem RK.ko {h:Heap}:∀ {v:Value} {d:PyData},RK h v d→KO d
 | _,_,.int i t => .int i
 | _,_,.str x t _ => .str x
 | _,_,.tup _ _ _ hs => .tup hs.ko
theorem RKs.ko {h:Heap}:∀ {vs:List Value} {ds:List PyData},RKs h vs ds→KOs ds
 | _,_,.nil => .nil
 | _,_,.cons a b => .cons a.ko b.ko
end
mutual
theorem RK.reads {h:Heap}:∀ {v:Value} {d:PyData},RK h v d→(∃ as,Reads h v d as)∧d.canLay0=true
 | _,_,.int i t=>⟨⟨_,.int i t⟩,rfl⟩
 | _,_,.str x t hx=>⟨⟨_,.str x t⟩,by simpa [PyData.canLay0] using hx⟩
 | _,_,.tup h1 h2 h3 hs=>by
  obtain ⟨⟨as,r⟩,l⟩:=hs.reads
  exact ⟨⟨_,.tuple h1 h2 h3 r⟩,by rw [PyData.canLay0];exact l⟩
theorem RKs.reads {h:Heap}:∀ {vs:List Value} {ds:List PyData},RKs h vs ds→(∃ as,ReadsAll h vs ds as)∧PyData.canLayAll0 ds=true
 | _,_,.nil=>⟨⟨_,.nil⟩,rfl⟩
 | _,_,.cons a b=>by
  obtain ⟨⟨as,r⟩,l⟩:=a.reads
  obtain ⟨⟨bs,r'⟩,l'⟩:=b.reads
  exact ⟨⟨_,.cons r r'⟩,by rw [PyData.canLayAll0,l,l'];rfl⟩
end
theorem RK.of {h:Heap} {d:PyData} {v:Value} {as:List Addr} (k:KO d) (r:Reads h v d as) (l:d.canLay0=true):RK h v d:=by
 induction k using KO.rec (motive_2:=fun ds _=>∀ {vs:List Value} {as:List Addr},ReadsAll h vs ds as→PyData.canLayAll0 ds=true→RKs h vs ds) generalizing v as with
 | int i=>cases r with | int _ t=>exact .int i t
 | str x=>cases r with | str _ t=>exact .str x t (by simpa [PyData.canLay0] using l)
 | tup _ ih=>cases r with | tuple h1 h2 h3 hs=>exact .tup h1 h2 h3 (ih hs (by rw [PyData.canLay0] at l;exact l))
 | nil=>rename_i r l;cases r;exact .nil
 | cons _ _ ih ihs =>
  rename_i r l
  rw [PyData.canLayAll0,Bool.and_eq_true] at l
  cases r with | cons r rs=>exact .cons (ih r l.1) (ihs rs l.2)
theorem RK.inj {h:Heap} {d:PyData} {v:Value} {e:PyData} (a:RK h v d) (b:RK h v e):d=e:=by
 obtain ⟨⟨_,r⟩,l⟩:=a.reads
 obtain ⟨⟨_,r'⟩,_⟩:=b.reads
 exact (r.unique _ _ r').1
mutual
theorem RK.keeps {h h':Heap} {x:Addr} {o:Obj} {es:Array DictEntry} {ep:Nat} (ho:h.get? x=some o) (hd:o.data = .dict es ep) (hs:Heap.SameBut x h h'):∀ {v:Value} {d:PyData},RK h v d→RK h' v d
 | _,_,.int i t => .int i t
 | _,_,.str y t hy => .str y t hy
 | _,_,.tup (a:=a) h1 h2 h3 ks=>by
  have hne:a≠x:=by
   rintro rfl
   rw [ho] at h1
   cases h1
   rw [hd] at h3
   exact nomatch h3
  exact .tup ((hs.2 a hne).trans h1) h2 h3 (RKs.keeps ho hd hs ks)
theorem RKs.keeps {h h':Heap} {x:Addr} {o:Obj} {es:Array DictEntry} {ep:Nat} (ho:h.get? x=some o) (hd:o.data = .dict es ep) (hs:Heap.SameBut x h h'):∀ {vs:List Value} {ds:List PyData},RKs h vs ds→RKs h' vs ds
 | _,_,.nil => .nil
 | _,_,.cons a b => .cons (RK.keeps ho hd hs a) (RKs.keeps ho hd hs b)
end
noncomputable instance decPy:DecidableEq PyData:=fun a b=>Classical.propDecidable (a=b)
mutual
theorem KO.eqv:∀ {d e:PyData},KO d→KO e→d.eqv e=decide (d=e)
 | .int a,.int b,_,_=>by
  by_cases h:a=b
  ·subst h;simp [PyData.eqv]
  ·simp [PyData.eqv,h]
 | .str a,.str b,_,_=>by
  by_cases h:a=b
  ·subst h;simp [PyData.eqv]
  ·simp [PyData.eqv,h]
 | .int a,.str b,_,_=>by simp [PyData.eqv]
 | .str a,.int b,_,_=>by simp [PyData.eqv]
 | .int a,.tuple b,_,_=>by simp [PyData.eqv]
 | .str a,.tuple b,_,_=>by simp [PyData.eqv]
 | .tuple a,.int b,_,_=>by simp [PyData.eqv]
 | .tuple a,.str b,_,_=>by simp [PyData.eqv]
 | .tuple a,.tuple b,.tup x,.tup y=>by
  rw [PyData.eqv,KOs.eqv x y]
  by_cases h:a=b
  ·subst h;simp
  ·simp [h]
theorem KOs.eqv:∀ {ds es:List PyData},KOs ds→KOs es→PyData.eqvAll ds es=decide (ds=es)
 | [],[],_,_=>by simp [PyData.eqvAll]
 | [],_::_,_,_=>by simp [PyData.eqvAll]
 | _::_,[],_,_=>by simp [PyData.eqvAll]
 | d::ds,e::es,.cons x xs,.cons y ys=>by
  rw [PyData.eqvAll,KO.eqv x y,KOs.eqv xs ys]
  by_cases h:d=e
  ·subst h
   by_cases h2:ds=es
   ·subst h2;simp
   ·simp [h2]
  ·simp [h]
end
section
variable {P:Program} {w:World}
mutual
def kh (P:Program) (w:World):PyData→Int
 | .int i=>(Xu P w).hash (.inl i)
 | .str x=>(Xu P w).hash (.inr x)
 | .tuple ds=>reduceHash (Builtin.Tuple.tupleHashOf (khs P w ds))
 | _=>0
def khs (P:Program) (w:World):List PyData→List Int
 | []=>[]
 | d::ds=>kh P w d::khs P w ds
end
mutual
def kdr:PyData→Nat
 | .int _=>1
 | .str _=>1
 | .tuple ds=>X1 ds+1
 | _=>0
def X1:List PyData→Nat
 | []=>0
 | d::ds=>kdr d+X1 ds
end
theorem YdJ (a b:List PyData):khs P w (a++b)=khs P w a++khs P w b:=by
 induction a with
 | nil=>simp [khs]
 | cons x a ih=>simp [khs,ih]
theorem YcA (a b:List PyData):X1 (a++b)=X1 a+X1 b:=by
 induction a with
 | nil=>simp [X1]
 | cons x a ih=>simp [X1,ih,Nat.add_assoc]
theorem YcB (a b:List PyData):PyData.depthAll (a++b)=max (PyData.depthAll a) (PyData.depthAll b):=by
 induction a with
 | nil=>simp [PyData.depthAll]
 | cons x a ih=>simp [PyData.depthAll,ih,Nat.max_assoc]
theorem VW {s:Shared} {a:Addr} {o:Obj} (h1:s.heap.get? a=some o) (h2:o.cls = .type "tuple"):s.TypeIs (.ref a) "tuple":=⟨o,h1,h2⟩
theorem Yad:∀ (n:Nat) {A:Around} {E:Value→Shared→Prop} {s:Shared} {v:Value} {d:PyData} {Q:Int→Shared→Prop},RK s.heap v d→d.depth≤n→A.units+n<cLine→Q (kh P w d) { s with toks:=s.toks+kdr d }→wpAny (model P w) A (pyHash v) Q E s
 | n,A,E,s,_,_,Q,.int i t,_,_,h=>(Xu P w).pyHash (Yc4 (k := .inl i) (show Ys (.int i) (.int i t) from ⟨t,rfl⟩)) (by simpa [kh,kdr] using h)
 | n,A,E,s,_,_,Q,.str x t _,_,_,h=>(Xu P w).pyHash (Yc4 (k := .inr x) (show Ys (.str x) (.str x t) from ⟨t,rfl⟩)) (by simpa [kh,kdr] using h)
 | 0,A,E,s,_,_,Q,.tup _ _ _ _,hd,_,h=>by simp [PyData.depth] at hd
 | n+1,A,E,s,_,_,Q,.tup (a:=a) (ds:=ds) h1 h2 h3 ks,hd,hu,h=>by
  have hT:=VW h1 h2
  unfold pyHash
  first | unfold pyHashByItsType | skip
  first | refine wpAny_bind (wpAny_cRoomFor_or (.inr (by omega)) ?_) | skip
  refine wpAny_bind (wpAny_specialOf hT F.slot_tuple_hash.lookup ?_)
  show wpAny _ _ (if (some (Value.builtin "tuple.__hash__")==some Value.none)=true then _ else _) Q E s
  rw [if_neg (by rw [beq_builtin_none];exact Bool.false_ne_true)]
  refine wpAny_bind (wpAny_specialOf hT F.slot_tuple_hash.lookup ?_)
  refine wpAny_bind (wpAny_callSpecialIfBoundUnlessNone?_slot hT F.slot_tuple_hash (wpAny_call_entry F.slot_tuple_hash hT F.entry_tuple_hash ?_ (F.args_tuple_hash_1 _)))
  show wpAny _ _ (Builtin.Tuple.tupleItemsOf (.ref a) >>= _) _ _ s
  refine wpAny_bind (wpAny_tupleItemsOf h1 h3 ?_)
  refine wpAny_bind ?_
  rw [← Array.forIn_toList]
  have hdd:PyData.depthAll ds≤n:=by simp only [PyData.depth] at hd;omega
  refine wpAny_forIn_list _ (fun YQ (b:Array Int) s'=>∃ done left,ds=done++left∧RKs s.heap YQ left∧b.toList=khs P w done∧s'={ s with toks:=s.toks+X1 done }) _ ?_ ?_ _ _ ⟨[],ds,rfl,ks,by simp [khs],by simp [X1]⟩
  ·rintro x YQ b s' ⟨done,left,e,hl,hb,rfl⟩
   cases hl with
   | @cons _ d _ ds' hk hl' =>
    have hdk:d.depth≤n:=by
     rw [e,YcB] at hdd
     simp only [PyData.depthAll] at hdd
     omega
    have hin:A.in1.units+n<cLine:=by
     have:A.in1.units=A.units+1:=rfl
     omega
    refine wpAny_bind (Yad n (s:={ s with toks:=s.toks+X1 done }) hk hdk hin ?_)
    have fin:∃ done' left',ds=done'++left'∧RKs s.heap YQ left'∧(b.push (kh P w d)).toList=khs P w done'∧({ s with toks:=s.toks+X1 done+kdr d }:Shared)={ s with toks:=s.toks+X1 done' } :=
     ⟨done++[d],ds',by rw [e];simp,hl',by rw [YdJ,Array.toList_push,hb];simp [khs],by rw [YcA];simp [X1,Nat.add_assoc]⟩
    first
     | exact wpAny_pure fin
     | exact wpAny_bind (wpAny_pure (wpAny_pure fin))
  ·rintro b s' ⟨done,left,e,hl,hb,rfl⟩
   cases hl
   rw [List.append_nil] at e
   subst e
   show wpAny _ _ (retInt (Builtin.Tuple.tupleHashOf b.toList)) _ _ _
   rw [hb]
   refine wpAny_ret_mkInt ?_
   simp only [kh,kdr] at h
   unfold reduceHash at h
   show wpAny _ _ (if (decide (-(2:Int)^63≤Builtin.Tuple.tupleHashOf (khs P w ds))&&decide (Builtin.Tuple.tupleHashOf (khs P w ds)<2^63))=true then _ else _) Q E _
   by_cases hr:(decide (-(2:Int)^63≤Builtin.Tuple.tupleHashOf (khs P w ds))&&decide (Builtin.Tuple.tupleHashOf (khs P w ds)<2^63))=true
   ·rw [if_pos hr]
    rw [if_pos hr] at h
    exact wpAny_pure (by simpa [Nat.add_assoc] using h)
   ·rw [if_neg hr]
    rw [if_neg hr] at h
    exact wpAny_bind (wpAny_rule (wpAny_pure (by simpa [Nat.add_assoc] using h)))
theorem Qc:∀ (n:Nat) {A:Around} {E:Value→Shared→Prop} {s:Shared} {v:Value} {d:PyData} {Q:Bool→Shared→Prop},RK s.heap v d→d.depth≤n→Q true s→wpAny (model P w) A (eqIsQuiet n v) Q E s
 | n,A,E,s,_,_,Q,.int i t,_,h=>by rw [eqIsQuiet_byValue _ (by rfl)];exact wpAny_pure h
 | n,A,E,s,_,_,Q,.str x t _,_,h=>by rw [eqIsQuiet_byValue _ (by rfl)];exact wpAny_pure h
 | 0,A,E,s,_,_,Q,.tup _ _ _ _,hd,h=>by simp [PyData.depth] at hd
 | n+1,A,E,s,_,_,Q,.tup (a:=a) (ds:=ds) h1 h2 h3 ks,hd,h=>by
  have hT:=VW h1 h2
  have hdd:PyData.depthAll ds≤n:=by simp only [PyData.depth] at hd;omega
  unfold eqIsQuiet
  refine wpAny_bind (wpAny_specialOf hT F.slot_tuple_eq.lookup ?_)
  refine wpAny_bind (wpAny_isInstance hT isSubtype_tuple_tuple ?_)
  simp only [Bool.not_true,Bool.false_eq_true,if_false]
  refine wpAny_bind (wpAny_seqItems h1 h3 ?_)
  refine wpAny_bind ?_
  rw [Option.getD_some,← Array.forIn_toList]
  refine wpAny_forIn_list _ (fun YQ r s'=>r.1=none∧s'=s∧∃ left,RKs s.heap YQ left∧PyData.depthAll left≤n) _ ?_ ?_ _ _ ⟨rfl,rfl,ds,ks,hdd⟩
  ·rintro v YQ r s' ⟨hr,rfl,left,hl,hdl⟩
   cases hl with
   | @cons _ d _ ds' hk hl' =>
    simp only [PyData.depthAll] at hdl
    refine wpAny_bind (Qc n hk (by omega) ?_)
    simp only [Bool.not_true,Bool.false_eq_true,if_false]
    exact wpAny_pure ⟨rfl,rfl,ds',hl',by omega⟩
  ·rintro ⟨r1,r2⟩ s' ⟨hr,rfl,_⟩
   simp only at hr
   subst hr
   exact wpAny_pure h
noncomputable def deepKind (P:Program) (w:World):HeapKind P w PyData where
 is:=fun h d a=>RK h (.ref a) d∧d.depth≤8
 hash:=kh P w
 draws:=kdr
 room:=fun A=>A.units+8<cLine
 inj:=fun hx hy=>hx.1.inj hy.1
 keeps:=fun x ho hd hs=>⟨x.1.keeps ho hd hs,x.2⟩
 pyHash:=fun hu hk h=>Yad 8 hk.1 hk.2 hu h
 eqBool:=fun {A E s x y a b Q} hu hx hy h=>by
  obtain ⟨⟨as,r1⟩,l1⟩:=hx.1.reads
  obtain ⟨⟨bs,r2⟩,l2⟩:=hy.1.reads
  have hm:min x.depth y.depth≤8:=Nat.le_trans (Nat.min_le_left _ _) hx.2
  exact SeqAt.eqAt_reads x y A s _ _ _ _ r1 r2 l1 l2 (by omega) P w E Q (by rw [KO.eqv hx.1.ko hy.1.ko];exact h)
 quiet:=fun hk h=>Qc 8 hk.1 hk.2 h
end
abbrev Dx:=List (PyData×Addr×Addr)
def XR (x:PyData×Addr×Addr):PyData×Addr×Value:=(x.1,x.2.1,.ref x.2.2)
noncomputable def DDi (P:Program) (w:World) (a:Addr) (xs:Dx):HO := .ext fun h=>(a==sysModules)=false∧∃ o es ep,h.get? a=some o∧o.ExactDict∧o.data = .dict es ep∧es.toList=(xs.map XR).map (entryOfKey (deepKind P w))
theorem YbS {P:Program} {w:World} {H:Hp} {h:Heap} {a:Addr} {xs:Dx} (hd:(a==sysModules)=false) (e:∃ o es ep,h.get? a=some o∧o.ExactDict∧o.data = .dict es ep∧es.toList=(xs.map XR).map (entryOfKey (deepKind P w))):Yz P w H h a (DDi P w a xs):=by
 refine ⟨⟨hd,e⟩,?_,fun h1 h2 p k=>?_⟩
 ·obtain ⟨o,es,ep,h1,_⟩:=e
  exact ⟨o,h1⟩
 ·obtain ⟨q,o,es,ep,g1,g2⟩:=p
  exact ⟨q,o,es,ep,k _ g1,g2⟩
structure DK (K:PySem.W.Frag) (H:Hp) (b:Addr) (d:PyData):Prop where
 den:Den K H (.ref b) d
 ko:KO d
 dp:d.depth≤8
noncomputable def lookD (xs:Dx) (d:PyData):Option Addr:=(xs.find? fun x=>decide (x.1=d)).map (·.2.2)
structure DictD (P:Program) (w:World) (K:PySem.W.Frag) (H:Hp) (a:Addr) (xs:Dx):Prop where
 at_:H a=some (DDi P w a xs)
 nd:(xs.map (·.1)).Nodup
 len:xs.length≤1000
 keys:∀ x∈xs,DK K H x.2.1 x.1
section
variable {X:Cx} {pins:List (Addr×Obj)} {σ:St} {H:Hp} {s:Shared} {a b:Addr} {d:PyData} {xs:Dx} {u r:Value} {A:Around} {E:Value→Shared→Prop}
theorem US (I:Inv X pins σ H s) (h:DK X.K H b d):(deepKind X.prog X.w).is s.heap d b:=by
 obtain ⟨as,r⟩:=h.den.reads I (show Ys (.ref b) (.ref b) from rfl)
 exact ⟨RK.of h.ko r h.den.lay,h.dp⟩
theorem UT (I:Inv X pins σ H s) (h:DictD X.prog X.w X.K H a xs):(a==sysModules)=false∧s.heap.DictOfH (deepKind X.prog X.w) a (xs.map XR):=by
 obtain ⟨⟨hd,o,es,ep,h1,h2,h3,h4⟩,_⟩:=(show Yz X.prog X.w H s.heap a (DDi X.prog X.w a xs) from I.hok a _ h.at_)
 refine ⟨hd,o,es,ep,h1,h2,h3,h4,fun x hx=>?_,?_⟩
 ·obtain ⟨y,hy,rfl⟩:=List.mem_map.mp hx
  exact US I (h.keys y hy)
 ·have:(xs.map XR).map (·.1)=xs.map (·.1):=by rw [List.map_map];rfl
  rw [this];exact h.nd
theorem WL (xs:Dx) (d:PyData):(atKey (xs.map XR) d).map (·.2)=(lookD xs d).map Value.ref:=by
 induction xs with
 | nil=>rfl
 | cons x xs ih =>
  by_cases h:x.1=d
  ·simp [atKey,lookD,List.find?_cons,XR,h]
  ·simp only [atKey,lookD,List.map_cons,List.find?_cons,XR,h] at ih ⊢
   simpa using ih
theorem Ya1 {p:Addr} {Q:Value→Shared→Prop} (hu:A.units+9<cLine) (I:Inv X pins σ H s) (g:DictD X.prog X.w X.K H a xs) (k:DK X.K H b d) (l:lookD xs d=some p) (h:∀ s',Inv X pins σ H s'→Q (.ref p) s') :
  wpAny (model X.prog X.w) A (getItem (.ref a) (.ref b)) Q E s:=by
 obtain ⟨hd,dd⟩:=UT I g
 have e:=WL xs d
 rw [l] at e
 obtain ⟨q,hq,hq2⟩:=Option.map_eq_some_iff.mp e
 refine wpAny_getItem_heap (show A.in1.units+8<cLine from by have:A.in1.units=A.units+1:=rfl;omega) (US I k) dd hq ?_
 rw [hq2]
 exact h _ (I.tok _)
theorem YcC {Q:Value→Shared→Prop} (hu:A.units+9<cLine) (I:Inv X pins σ H s) (g:DictD X.prog X.w X.K H a xs) (k:DK X.K H b d) (h:∀ s',Inv X pins σ H s'→Q (.bool (!(lookD xs d).isSome)) s') :
  wpAny (model X.prog X.w) A (compareOp .NotIn (.ref b) (.ref a)) Q E s:=by
 obtain ⟨hd,dd⟩:=UT I g
 refine wpAny_notIn_heap (show A.in1.units+8<cLine from by have:A.in1.units=A.units+1:=rfl;omega) (US I k) hd dd ?_
 have e:=congrArg Option.isSome (WL xs d)
 rw [Option.isSome_map,Option.isSome_map] at e
 rw [e]
 exact h _ (I.tok _)
theorem Ya2 {p:Addr} {Q:Unit→Shared→Prop} (hu:A.units+9<cLine) (I:Inv X pins σ H s) (g:DictD X.prog X.w X.K H a xs) (k:DK X.K H b d) (l:lookD xs d=none) (hl:xs.length<1000) (h:∀ s',Inv X pins σ (upd H a (DDi X.prog X.w a (xs++[(d,b,p)]))) s'→Q () s') :
  wpAny (model X.prog X.w) A (setItem (.ref a) (.ref b) (.ref p)) Q E s:=by
 obtain ⟨hd,dd⟩:=UT I g
 have hz:(xs.map XR).length≤sizeLine:=by rw [List.length_map];exact Nat.le_trans (Nat.le_of_lt hl) (by decide)
 refine wpAny_setItem_heap (hsz:=hz) (show A.in1.units+8<cLine from by have:A.in1.units=A.units+1:=rfl;omega) (US I k) dd fun h' dd' hs=>h _ ?_
 have e:atKey (xs.map XR) d=none:=by
  have e:=WL xs d
  rw [l] at e
  cases q:atKey (xs.map XR) d with
  | none=>rfl
  | some z=>rw [q] at e;cases e
 rw [storedH_new e] at dd'
 obtain ⟨q,es,ep,hq,h2,h3,h4,_,h5⟩:=dd'
 refine Ydv I (by rw [g.at_];exact True.intro) hs ⟨q,hq⟩ (YbS hd ⟨q,es,ep,hq,h2,h3,?_⟩)
 rw [h4,List.map_append (f:=XR)]
 rfl
end
def Qd (P:Program) (w:World) (K:PySem.W.Frag) (td ty:TE):TE:=fun σ H Q=>td σ H fun x H1=>ty σ H1 fun y H2=>∃ a b xs d p,x = .ref a∧y = .ref b∧DictD P w K H2 a xs∧DK K H2 b d∧lookD xs d=some p∧Q (.ref p) H2
def YbT (P:Program) (w:World) (K:PySem.W.Frag) (td ty tv:TE):TS:=fun D σ H=>tv σ H fun v H1=>td σ H1 fun x H2=>ty σ H2 fun y H3=>∃ a b xs d p,v = .ref p∧x = .ref a∧y = .ref b∧DictD P w K H3 a xs∧DK K H3 b d∧lookD xs d=none∧xs.length<1000∧D.nx σ (upd H3 a (DDi P w a (xs++[(d,b,p)])))
def Yer (P:Program) (w:World):TE:=fun _ H Q=>∀ p,H p=none→Q (.ref p) (upd H p (DDi P w p []))
section
variable {X:Cx} {o i e value:Expr} {pos pos' tpos:Pos} {td ty tv:TE} {k:Nat}
theorem Qe {A:Around} {k:Nat} (hr:Room k A):A.units+9<cLine:=Nat.lt_of_le_of_lt (Nat.add_le_add_left (by decide:9≤64) _) hr.units
theorem YcD (hr:Room k X.A) (ho:PE X o td) (hi:PE X i ty) (hs:NoSl i):PE X (.Subscript o i pos) (Qd X.prog X.w X.K td ty):=by
 intro pins s σ H Q I h
 refine Ydw PySem.F.slot_dict_getitem.lookup hs (thn (ho pins s σ H _ I h) fun u s1 ⟨x,H1,I1,rx,q1⟩=>thn (hi pins s1 σ H1 _ I1 q1) fun iv s2 ⟨y,H2,I2,ry,a,b,xs,d,p,ex,ey,g,kk,l,q2⟩=>?_)
 subst ex ey
 obtain rfl:u=Value.ref a:=rx
 obtain rfl:iv=Value.ref b:=ry
 exact ⟨(UT I2 g).2.typeIs,Ya1 (Qe hr) I2 g kk l fun s3 I3=>⟨.ref p,H2,I3,rfl,q2⟩⟩
theorem YcE (hr:Room k X.A) (ho:PE X o td) (hi:PE X i ty) (hv:PE X value tv) (hs:swapsWith value (some (.Subscript o i pos')) pos.line X.env=pure false) :
  PS X (.Assign [.Subscript o i pos'] value pos) (YbT X.prog X.w X.K td ty tv):=by
 intro pins s σ H D I h
 refine wpAny_Assign_Subscript (thn (hv pins s σ H _ I h) fun r s1 ⟨v,H1,I1,rv,q1⟩=>thn (ho pins s1 σ H1 _ I1 q1) fun u s2 ⟨x,H2,I2,rx,q2⟩=>thn (hi pins s2 σ H2 _ I2 q2) fun iv s3 ⟨y,H3,I3,ry,a,b,xs,d,p,ev,ex,ey,g,kk,l,hl,q3⟩=>?_) hs
 subst ex ey ev
 obtain rfl:u=Value.ref a:=rx
 obtain rfl:iv=Value.ref b:=ry
 obtain rfl:r=Value.ref p:=rv
 exact Ya2 (Qe hr) I3 g kk l hl fun s4 I4=>⟨σ,_,I4,q3⟩
theorem YcF:PE X (.Dict [] [] pos) (Yer X.prog X.w):=fun pins s σ H Q I h =>
 wpAny_Dict_empty ⟨.ref s.heap.objs.size,_,I.laid (a:=s.heap.objs.size) (o:=DDi X.prog X.w s.heap.objs.size []) (t':=s.toks) (fun _ _ q=>Heap.get?_push_of_some _ q) (Nat.le_refl _) (YbS (beq_eq_false_iff_ne.mpr (Ne.symm (Nat.ne_of_lt I.big))) ⟨_,#[],0,Heap.get?_push_size _ rfl,⟨rfl,rfl,rfl⟩,rfl,rfl⟩),rfl,h _ (I.hok.fresh (Nat.le_refl _))⟩
end
def WM (H H':Hp):Prop:=∀ b xs,Rd H b (.tup xs)→Rd H' b (.tup xs)
theorem WM.sq {K:PySem.W.Frag} {H H':Hp} (t:WM H H') {b:Addr} {xs:List V} (h:SqT K H b xs):SqT K H' b xs:=by
 rcases h with h | h
 ·exact .inl (t _ _ h)
 ·exact .inr h
theorem Wn {H H':Hp} (s:Yk H H'):WM H H':=fun b xs h=>by
 rcases h with h | ⟨o,h⟩
 ·exact .inl (s _ _ h)
 ·exact .inr ⟨o,s _ _ h⟩
theorem VA {H H':Hp} {P:Addr} {u:HO} (hk:∀ b o,b≠P→H b=some o→H' b=some o) (hP:H P=some u) (h1:∀ xs,u ≠ .tup xs) (h2:∀ o v,u ≠ .frz o v):WM H H':=fun b xs h=>by
 rcases h with h | ⟨o,h⟩
 ·exact .inl (hk _ _ (Yq h hP (fun z=>h1 _ z.symm)) h)
 ·exact .inr ⟨o,hk _ _ (Yq h hP (fun z=>h2 _ _ z.symm)) h⟩
theorem YcG {K:PySem.W.Frag} {H H':Hp} (t:WM H H') {d:PyData} {v:V} (k:KO d) (r:Den K H v d):Den K H' v d:=by
 induction k using KO.rec (motive_2:=fun ds _=>∀ {vs:List V},Dens K H vs ds→Dens K H' vs ds) generalizing v with
 | int i=>cases r with | int _=>exact .int i
 | str x=>cases r with | str _ h=>exact .str x h
 | tup _ ih=>cases r with | tup h hs=>exact .tup (t.sq h) (ih hs)
 | nil=>rename_i r;cases r;exact .nil
 | cons _ _ ih ihs=>rename_i r;cases r with | cons a b=>exact .cons (ih a) (ihs b)
theorem DK.tupk {K:PySem.W.Frag} {H H':Hp} {b:Addr} {d:PyData} (h:DK K H b d) (t:WM H H'):DK K H' b d:=⟨YcG t h.ko h.den,h.ko,h.dp⟩
theorem DictD.keep {P:Program} {w:World} {K:PySem.W.Frag} {H H':Hp} {a:Addr} {xs:Dx} (h:DictD P w K H a xs) (t:WM H H') (e:H' a=some (DDi P w a xs)):DictD P w K H' a xs:=⟨e,h.nd,h.len,fun x hx=>(h.keys x hx).tupk t⟩
theorem Ya3 {xs:Dx} {d:PyData} (h:lookD xs d=none):d∉xs.map (·.1):=by
 intro hm
 obtain ⟨x,hx,rfl⟩:=List.mem_map.mp hm
 unfold lookD at h
 rw [Option.map_eq_none_iff,List.find?_eq_none] at h
 exact h x hx (by simp)
theorem Wh (xs:Dx) (d e:PyData) (b p:Addr) (h:lookD xs d=none):lookD (xs++[(d,b,p)]) e=if e=d then some p else lookD xs e:=by
 unfold lookD
 rw [List.find?_append]
 by_cases c:e=d
 ·subst c
  have h':xs.find? (fun x=>decide (x.1=e))=none:=by
   unfold lookD at h
   rwa [Option.map_eq_none_iff] at h
  rw [h',if_pos rfl]
  simp
 ·rw [if_neg c]
  have:([(d,b,p)]:Dx).find? (fun x=>decide (x.1=e))=none:=by simp [Ne.symm c]
  rw [this]
  simp
theorem DictD.put {P:Program} {w:World} {K:PySem.W.Frag} {H:Hp} {a b p:Addr} {d:PyData} {xs:Dx} (h:DictD P w K H a xs) (k:DK K H b d) (l:lookD xs d=none) (hl:xs.length<1000):DictD P w K (upd H a (DDi P w a (xs++[(d,b,p)]))) a (xs++[(d,b,p)]):=by
 have t:WM H (upd H a (DDi P w a (xs++[(d,b,p)]))):=VA (fun b o hb e=>by rw [Yb hb];exact e) h.at_ (by intro xs z;cases z) (by intro o v z;cases z)
 refine ⟨Yc,?_,by rw [List.length_append,List.length_singleton];omega,fun x hx=>?_⟩
 ·rw [List.map_append]
  refine List.nodup_append.mpr ⟨h.nd,by simp,fun x hx y hy e=>?_⟩
  subst e
  have:x=d:=by simpa using hy
  subst this
  exact Ya3 l hx
 ·rcases List.mem_append.mp hx with hx | hx
  ·exact (h.keys x hx).tupk t
  ·have:x=(d,b,p):=by simpa using hx
   subst this
   exact k.tupk t
theorem YbU {P:Program} {w:World} {K:PySem.W.Frag} {H:Hp} {a:Addr} (h:H a=some (DDi P w a [])):DictD P w K H a []:=⟨h,by simp,by simp,fun x hx=>by cases hx⟩
section
variable {X:Cx} {k:Nat}
theorem Ya4 (hr:Room k X.A):OpR X (compareOp .NotIn) (fun y x H Q=>∃ a b xs d,x = .ref a∧y = .ref b∧DictD X.prog X.w X.K H a xs∧DK X.K H b d∧Q (.bl (!(lookD xs d).isSome)) H):=by
 intro pins s σ H y x u v Q I ry rx h
 obtain ⟨a,b,xs,d,rfl,rfl,g,kk,q⟩:=h
 cases (show u=Value.ref b from ry)
 cases (show v=Value.ref a from rx)
 exact YcC (Qe hr) I g kk fun s' I'=>⟨.bl (!(lookD xs d).isSome),H,I',rfl,q⟩
end
section
variable {X:Cx} {e:Expr} {f:Str} {pos:Pos} {ta:TE}
theorem YdK {K:PySem.W.Frag} (he:PE X e ta) (hb:attributeBase e f X.env (eval e X.env)=eval e X.env) (h:X.K=K):PE X (.Attribute e f pos) (tFld K ta f):=by subst h;exact Yo he hb
end
end L2
namespace L2
open PySem PySem.Spec PyProof.Rows
end L2
namespace L2
open PySem PySem.Spec PyProof.Rows
end L2
namespace L2
open PySem PySem.Spec PyProof.Rows
section
variable {M:Model} {A:Around} {E:Value→Shared→Prop} {s:Shared}
end
section
variable {X:Cx}
end
section
variable {prog:Program} {w:World} {A:Around} {R:Result→Shared→Prop} {s:Shared}
end
section
variable {X:Cx}
end
end L2
namespace L2
open PySem PySem.Spec PyProof.Rows
section
variable {M:Model} {A:Around} {E:Value→Shared→Prop} {s:Shared} {B:Heap} {env:Env} {outer l:List Env} {e L:Addr} {cls a0:Value} {Q:Unit→Shared→Prop}
end
section
variable {X:Cx} {pins:List (Addr×Obj)} {σ:St} {H H':Hp} {s s1 s':Shared} {B:Heap} {e C:Addr} {cls a0:Value} {M:Model} {A:Around} {Q:Unit→Shared→Prop} {EE:Value→Shared→Prop}
end
section
variable {X:Cx}
end
end L2
namespace L2
open PySem PySem.Spec PyProof.Rows
section
variable {prog:Program} {w:World} {A:Around} {E:Value→Shared→Prop} {s:Shared}
end
section
variable {X:Cx}
end
end L2
namespace L2
open PySem PySem.Spec PyProof.Rows
open Sem (wp)
section
variable {prog:Program} {w:World} {A:Around} {R:Result→Shared→Prop} {I:Addr} {fp wr:List Addr} {n:Nat} {P:Nat→Value→Prop} {St:Nat→Heap→Prop}
end
section
variable {prog:Program} {w:World} {A:Around} {E:Value→Shared→Prop} {s:Shared} {l:Addr} {xs:Array (Int×Tok)}
end
section
variable {X:Cx}
end
section
variable {X:Cx}
end
end L2
namespace L2
open PySem PySem.Spec PyProof.Rows PySem.Builtin.Str
section
variable {X:Cx}
end
end L2
namespace L2
open PySem PySem.Spec PyProof.Rows
section
variable {X:Cx}
end
end L2
namespace PySem.W
open PySem PyProof.Rows
open Builtin Builtin.ObjectAttr
section
variable {prog:Program} {w:World} {A:Around} {E:Value→Shared→Prop} {hh:Heap} {g:Array GenState} {d:Drawn} {t:Nat} {os:OsState} {K:Frag} {x C D:Addr} {ox:Obj} {mA:Str→Option Value} {f:Str} {v:Value}
theorem QQ {tk:Tok} {Q:Fin→Shared→Prop} (In:K.In hh) (hd:hasDictIn K C=true) (hx:hh.get? x=some ox) (hc:ox.cls = .ref C) (hnc:∀ c,ox.data ≠ .cls c) (hdc:ox.dict=some D) (hns:hh.Ns D mA) (hv:mA f=some v) (ha:findIn K (.ref C) f=some none)
  (hq:Q (.done (.ret v)) ⟨hh,g,d,t,os⟩):wpAny (model prog w) A (Builtin.«object.__getattribute__» ⟨[.ref x,.str f tk],[]⟩) Q E ⟨hh,g,d,t,os⟩:=by
 have L3:=looks_findIn (M:=model prog w) In ha
 unfold Builtin.«object.__getattribute__»
 repeat (any_goals (first | assumption | (with_reducible refine wpAny_loadPart_at hx ?_;rw [hc]) | with_reducible refine L3.at ?_ | wp_step))
 obtain ⟨cd,e,hcd⟩:=any_some hd
 have L4:=looks_clsIn (M:=model prog w) In e
 split
 ·rename_i c hcd2
  exact absurd hcd2 (hnc c)
 unfold instanceDict
 repeat (any_goals (first | assumption | (with_reducible refine wpAny_loadPart_at hx ?_;simp only [hc]) | with_reducible refine L4.at ?_ | wp_step))
 rw [hdc]
 repeat (any_goals (first | assumption | (with_reducible refine wpAny_nsGet hns ?_;rw [hv]) | wp_step))
theorem Ya5 {tk:Tok} {R:Result→Shared→Prop} (In:K.In hh) (hd:hasDictIn K C=true) (hx:hh.get? x=some ox) (hc:ox.cls = .ref C) (hnc:∀ c,ox.data ≠ .cls c) (hdc:ox.dict=some D) (hns:hh.Ns D mA) (hv:mA f=some v) (hb:mroIn K C (.type "BaseException")=some true) (ha:findIn K (.ref C) f=some none)
  (hq:R (.ok (.ret v)) ⟨hh,g,d,t,os⟩):codeAny (model prog w) A (.call (.builtin "BaseException.__getattribute__") ⟨[.ref x,.str f tk],[]⟩) R ⟨hh,g,d,t,os⟩ :=
 codeAny_call_builtin (by decide +kernel) F.entry_bexc_ga (Vu In hx hc hb (QQ In hd hx hc hnc hdc hns hv ha hq))
theorem exatt_attr {b:Bool} {Q:Value→Shared→Prop} (In:K.In hh) (hd:hasDictIn K C=true) (hx:hh.get? x=some ox) (hc:ox.cls = .ref C) (hnc:∀ c,ox.data ≠ .cls c) (hdc:ox.dict=some D) (hns:hh.Ns D mA) (hv:mA f=some v) (hh':handedOut v=pure v) (hb:mroIn K C (.type "BaseException")=some true) (ha:findIn K (.ref C) f=some none)
  (hga:findIn K (.ref C) "__getattribute__"=some (some (.builtin "BaseException.__getattribute__"))) (hgt:findIn K (.ref C) "__getattr__"=some none) (hq:Q v ⟨hh,g,d,t+1,os⟩) :
  wpAny (model prog w) A (getAttr (.ref x) f b) Q E ⟨hh,g,d,t,os⟩:=by
 have hbd:=Uy (.ref x)
 have e2:(Value.builtin "BaseException.__getattribute__"==Value.builtin "object.__getattribute__")=false:=by decide +kernel
 have e1:(onTheHeap (Value.ref C)&&Value.builtin "BaseException.__getattribute__"==Value.builtin "object.__getattribute__")=false:=by rw [e2];rfl
 have L1:=looks_findIn (M:=model prog w) In hga
 have L2:=looks_findIn (M:=model prog w) In hgt
 unfold getAttr getAttrBy
 repeat (any_goals (first | assumption | (with_reducible refine wpAny_loadPart_at hx ?_;rw [hc]) | with_reducible refine L1.at ?_ | with_reducible refine L2.at ?_ | wp_step))
 have e0:(b&&onTheHeap (Value.builtin "BaseException.__getattribute__"))=false:=by cases b<;>rfl
 rw [if_neg (by rw [e0];decide)]
 unfold boundAndCalled
 repeat (any_goals (first | assumption | wp_step))
 refine Ya5 In hd hx hc hnc hdc hns hv hb ha ?_
 repeat (any_goals (first | assumption | wp_step))
end
section
variable {prog:Program} {w:World} {A:Around} {E:Value→Shared→Prop} {s:Shared} {K:Frag} {x C C' D:Addr} {ox:Obj} {od:Option Obj} {mA:Str→Option Value} {name:Str} {v:Value} {R:Result→Shared→Prop}
def excLine (K:Frag) (C C':Addr):Bool:=(clsIn K C).any fun cd=>cd.mro==[.ref C,.ref C',.type "ValueError",.type "Exception",.type "BaseException",.type "object"]
theorem VX {tk:Tok} (X:K.In s.heap) (I:InstAt s.heap x ox C od) (hm:excLine K C C'=true) (ha:findIn K (.ref C) name=some none)
  (h:wpAny (model prog w) A.in1 (storeInOwnDict (.ref x) (.ref C) (.str name tk) name v false)
   (fun fin s'=>match fin with | .done f=>R (.ok f) s' | .again c'=>c'.quiet=true∧codeAny (model prog w) A c' R s') (fun e s'=>R (.error e) s') s) :
  codeAny (model prog w) A (.call (.builtin "object.__setattr__") ⟨[.ref x,.str name tk,v],[]⟩) R s:=by
 have SF:=PySem.F.store_object
 obtain ⟨cd,hc,ho⟩:=any_some hm
 have ho:=eq_of_beq ho
 have sub:Looks (model prog w) s.heap (isInstance (.ref x) (.type "object")) true:=I.type.andThen (looks_mroIn X (by unfold mroIn;rw [hc,Option.bind_some,ho];rfl))
 refine codeAny_call_builtin SF.slot.plain SF.entry (@check_slot (model prog w) _ _ s "object.__setattr__" "object" "__setattr__" (.ref x) [.str name tk,v] [] _ SF.kind SF.split sub (SF.args (.ref x) (.str name tk) v) ?_)
 have hmro:Looks (model prog w) s.heap (mroOf (.ref C)) cd.mro:=(looks_clsIn X hc).andThen .now
 rw [osa_eq,refuse_eq]
 refine wpAny_bind (wpAny_bind (I.type.here (wpAny_bind (hmro.here ?_))))
 rw [ho,refuseLoop_ref,refuseLoop_ref,PySem.F.store_ValueError.passes]
 refine wpAny_pure (wpAny_bind (I.type.here (wpAny_bind ((looks_findIn X ha).here (wpAny_bind (wpAny_pure ?_))))))
 exact h
end
section
variable {prog:Program} {w:World} {A:Around} {E:Value→Shared→Prop} {s:Shared} {K:Frag} {x C C' D:Addr} {ox:Obj} {od:Option Obj} {mA:Str→Option Value} {name:Str} {v:Value} {vs:Array Value} {Q:Unit→Shared→Prop}
theorem Qf (hf:ox.data = .fields vs):notCls ox=true:=by unfold notCls;rw [hf]
theorem exset_more {ns:List Str} (X:K.In s.heap) (hx:s.heap.get? x=some ox) (hc:ox.cls = .ref C) (hf:ox.data = .fields vs) (hdc:ox.dict=some D) (hn:s.heap.Ns1 D mA) (hne:D≠x) (hd:hasDictIn K C=true) (hm:excLine K C C'=true) (ha:findIn K (.ref C) name=some none)
  (hs:findIn K (.ref C) "__setattr__"=some (some (.builtin "object.__setattr__"))) (hw:PySem.Within mA ns) (hsz:ns.length≤sizeLine)
  (h:∀ h',h'.Ns1 D (fun y=>if y=name then some v else mA y)→Heap.SameBut D s.heap h'→Q () { s with heap:=h',toks:=s.toks+2 }):wpAny (model prog w) A (setAttr (.ref x) name v) Q E s:=by
 obtain ⟨oD,_,_,hoD0,_⟩:=id hn
 have J:InstAt s.heap x ox C (some oD):=⟨hx,hc,Qf hf,by rw [hdc];exact hoD0⟩
 refine set_plain X J hs (VX (s:={ s with toks:=s.toks+1 }) (C':=C') X J hm ha ?_)
 obtain ⟨cd,hcd,hd'⟩:=any_some hd
 refine wpAny_bind (wpAny_pure (wpAny_bind (wpAny_bind (wpAny_loadPart hx ?_))))
 simp only [hc]
 refine wpAny_bind (Looks.here (s:={ s with toks:=s.toks+1 }) (looks_clsIn X hcd) ?_)
 rw [hd',hdc]
 refine wpAny_pure (a:=some D) (wpAny_bind (wpAny_pure (wpAny_bind ?_)))
 refine wpAny_nsSet1 (s:={ s with toks:=s.toks+1 }) hn fun h' hn2 hs2=>?_
 obtain ⟨oD,esD,epD,hoD,hdD,hcD⟩:=hn2.count (PySem.Within.cons name v hw)
 refine wpAny_bind (wpAny_lookBehind hoD (by rw [hdD];exact pastItsLine_dict (Nat.le_trans hcD (by rw [List.length_cons];omega))) ?_)
 exact wpAny_pure (h _ hn2 hs2)
theorem exset_new (X:K.In s.heap) (hx:s.heap.get? x=some ox) (hc:ox.cls = .ref C) (hf:ox.data = .fields vs) (hdc:ox.dict=none) (hd:hasDictIn K C=true) (hm:excLine K C C'=true) (ha:findIn K (.ref C) name=some none)
  (hs:findIn K (.ref C) "__setattr__"=some (some (.builtin "object.__setattr__")))
  (h:∀ h',h'.Ns1 s.heap.objs.size (fun y=>if y=name then some v else none)→h'.get? x=some { ox with dict:=some s.heap.objs.size }→(∀ b o,b≠x→s.heap.get? b=some o→h'.get? b=some o)→Q () { s with heap:=h',toks:=s.toks+2 }):wpAny (model prog w) A (setAttr (.ref x) name v) Q E s:=by
 have J:InstAt s.heap x ox C none:=⟨hx,hc,Qf hf,by rw [hdc];exact True.intro⟩
 refine set_plain X J hs (VX (s:={ s with toks:=s.toks+1 }) (C':=C') X J hm ha ?_)
 obtain ⟨cd,hcd,hd'⟩:=any_some hd
 refine wpAny_bind (wpAny_pure (wpAny_bind (wpAny_bind (wpAny_loadPart hx ?_))))
 simp only [hc]
 refine wpAny_bind (Looks.here (s:={ s with toks:=s.toks+1 }) (looks_clsIn X hcd) ?_)
 rw [hd',hdc,hf]
 rw [if_neg (by decide)]
 dsimp only
 rw [if_neg (by simp [typeHasDict])]
 have hx₁:(s.heap.push { cls := .type "dict",data := .dict #[] }).get? x=some ox:=Heap.get?_push_of_some _ hx
 have hxs:x≠s.heap.objs.size:=Nat.ne_of_lt (Heap.lt_size hx)
 refine wpAny_bind (wpAny_alloc' (wpAny_bind (wpAny_update' hx₁ (wpAny_pure ?_))))
 generalize hH:(s.heap.push { cls := .type "dict",data := .dict #[] }).update x (fun o=>{ cls:=o.cls,dict:=some s.heap.objs.size,data:=o.data,slots:=o.slots })=H2
 have hgd:H2.get? s.heap.objs.size=some { cls := .type "dict",data := .dict #[] }:=by
  rw [← hH]
  exact (Heap.get?_update_ne _ _ _ _ hxs.symm).trans (Heap.get?_push_at rfl rfl)
 have hx2:H2.get? x=some { cls:=ox.cls,dict:=some s.heap.objs.size,data:=ox.data,slots:=ox.slots }:=by
  rw [← hH]
  refine Heap.get?_update_self _ hx₁ ?_
  have hfr:=(Heap.get?_some_iff.mp hx).2
  obtain ⟨oc,od,odt,osl⟩:=ox
  cases odt<;>first | rfl | exact hfr
 have hko:∀ b o,b≠x→s.heap.get? b=some o→H2.get? b=some o:=fun b o hb e=>by
  rw [← hH]
  exact (Heap.get?_update_ne _ _ _ _ hb).trans (Heap.get?_push_of_some _ e)
 have hnd:H2.Ns s.heap.objs.size (fun _=>none):=⟨_,#[],_,hgd,rfl,fun e he=>absurd he (by simp),fun _=>rfl⟩
 refine wpAny_bind (wpAny_pure (wpAny_bind ?_))
 refine wpAny_nsSet1 (s:={ s with heap:=H2,toks:=s.toks+1 }) (Heap.Ns1.of_empty hnd) fun h' hn2 hs2=>?_
 obtain ⟨oD,esD,epD,hoD,hdD,hcD⟩:=hn2.count (PySem.Within.cons name v PySem.Within.nil)
 refine wpAny_bind (wpAny_lookBehind hoD (by rw [hdD];exact pastItsLine_dict (Nat.le_trans hcD (by rw [List.length_cons,List.length_nil,sizeLine_eq];omega))) ?_)
 exact wpAny_pure (h _ hn2 ((hs2.2 x hxs).trans hx2) fun b o hb e=>(hs2.2 b (Nat.ne_of_lt (Heap.lt_size e))).trans (hko b o hb e))
end
end PySem.W
namespace PySem.W
open PySem PyProof.Rows
theorem Ya6 {K:Frag} {h:Heap} {N:Addr} {mg:Str→Option Value} {n:Str} {v:Value} (X:K.In h) (G:h.Ns N mg) (e:nsIn K N n=some (some v)):mg n=some v:=by
 obtain ⟨o,es,ep,ho,hd,_,hf⟩:=G
 unfold nsIn at e
 split at e
 ·rename_i c d es' n' sl q
  have:=X _ _ q
  rw [ho] at this
  cases this
  cases hd
  split at e
  ·rename_i he
   rw [← hf]
   unfold nsFind findBy
   rw [← Array.find?_toList,he]
   cases e
   rfl
  ·split at e<;>cases e
 ·cases e
def excOwn (K:Frag) (C:Addr) (tl:List Value) (nw:String) (f:Addr):Bool:=match K.lookup C with
 | some ⟨.type "type",_,.cls cd,sl⟩=>(match cd.mro,sl.toList with
  | .ref c::bm,[_,_,_,_,some (.builtin n),_]=>(c==C&&n==nw)&&((!cd.hasDel&&tailIn K tl bm)&&(nsOkIn K cd.ns&&nsIn K cd.ns "__init__"==some (some (.ref f))))
  | _,_=>false)
 | _=>false
theorem excOwn_obj {K:Frag} {h:Heap} {C f:Addr} {tl:List Value} {nw:String} (In:K.In h) (q:excOwn K C tl nw f=true) :
  ∃ (bm:List Value) (ns:Addr) (nm qn:Str) (bs:List Value) (hd:Bool) (sn:List Str) (sub:List Value) (ab:Bool) (col:Option Bool) (dd:Option Addr) (k0 k1 k2 k3 k5:Option Value) (mN:Str→Option Value),
   h.get? C=some (excClassObj nm qn C ns bs bm hd sn sub ab col dd k0 k1 k2 k3 k5 nw)∧h.Ns ns mN∧mN "__init__"=some (.ref f)∧OwnTail h tl bm:=by
 unfold excOwn at q
 split at q
 case h_2=>exact absurd q (by decide)
 case h_1 dd cd sl lk =>
  split at q
  case h_2=>exact absurd q (by decide)
  case h_1 c2 bm k0 k1 k2 k3 n k5 em es =>
   simp only [beq_iff_eq,Bool.and_eq_true,Bool.not_eq_true'] at q
   obtain ⟨⟨q1,q2⟩,⟨q3,q4⟩,q5,q6⟩:=q
   obtain ⟨nm,bs,mro,ns,qn,hd,sn,sub,ab,col,del⟩:=cd
   obtain ⟨lst⟩:=sl
   dsimp only at em q3 q5 q6 es
   subst q1 q2 em q3 es
   have hN:h.Ns ns _ := .of_isNs (isNs_of_in In q5)
   exact ⟨bm,ns,nm,qn,bs,hd,sn,sub,ab,col,dd,k0,k1,k2,k3,k5,_,In _ _ lk,hN,Ya6 In hN q6,tail_of_in In q4⟩
abbrev WF (a0:Value):Array Value:=#[a0,.none,.none,.none,.bool false,.none]
section
variable {prog:Program} {w:World} {A:Around} {E:Value→Shared→Prop} {h:Heap} {g:Array GenState} {d:Drawn} {t:Nat} {os:OsState}
variable {nm q:Str} {C N:Addr} {bs bm bmB:List Value} {hdct:Bool} {sn:List Str} {sub:List Value} {ab:Bool} {col:Option Bool} {dd:Option Addr} {k0 k1 k2 k3 k5:Option Value} {B newId initId:String}
theorem UL (F:ExcBaseFacts B newId initId bmB) (T:OwnTail h bmB bm) {mN:Str→Option Value} {YQ:List Value} {fI:Addr} {oI:Obj} {Q:Fin→Shared→Prop}
  (hC:h.get? C=some (excClassObj nm q C N bs bm hdct sn sub ab col dd k0 k1 k2 k3 k5 newId)) (hn:h.Ns N mN) (hi:mN "__init__"=some (.ref fI))
  (hfI:h.get? fI=some oI) (hfc:oI.cls = .type "function")
  (hq:∀ h' e,Heap.MadeExcOf h h' e (.ref C) YQ→e=h.objs.size+1 →
   wpAny (model prog w) A (call (.ref fI) (.ref e::YQ)) (fun r s'=>r = .none∧Q (.done (.ret (.ref e))) s') E ⟨h',g,d,t,os⟩) (hrest:YQ.length≤sizeLine) :
  wpAny (model prog w) A (Builtin.«type.__call__» ⟨.ref C::YQ,[]⟩) Q E ⟨h,g,d,t,os⟩:=by
 repeat (first | with_reducible refine wpAny_loadPart_at hC ?_ | with_reducible refine wpAny_madeBy_exc hC ?_ | wp_step)
 refine codeAny_call_builtin_code (Code.quiet_builtin _ F.quiet) (wpAny_check_new_subT F T hC ?_)
 refine codeAny_exc_new_subT F T hC ?_ hrest
 show wpAny _ _ _ _ _ _
 have keep:∀ b o,h.get? b=some o→((h.push { cls := .type "tuple",data := .seq YQ.toArray }).push { cls := .ref C,data := .fields #[.ref h.objs.size,.none,.none,.none,.bool false,.none] }).get? b=some o :=
  fun b o e=>Heap.get?_push_of_some _ (Heap.get?_push_of_some _ e)
 have hget:((h.push { cls := .type "tuple",data := .seq YQ.toArray }).push
   { cls := .ref C,data := .fields #[.ref h.objs.size,.none,.none,.none,.bool false,.none] }).get? (h.objs.size+1)=some
   { cls := .ref C,data := .fields #[.ref h.objs.size,.none,.none,.none,.bool false,.none] }:=by heap_get
 have hC₁:=keep _ _ hC
 have hn₁:=hn.keeps keep
 have hcC:(Value.ref C::bm).contains (.ref C)=true:=by simp
 have T₁:=T.keeps keep
 unfold isInstance
 repeat (first | with_reducible refine wpAny_loadPart_at hget ?_ | (with_reducible refine wpAny_isSubtype_exc hC₁ ?_;rw [hcC]) | wp_step)
 show wpAny _ _ (typeLookup (.ref C) _) _ _ _
 refine wpAny_typeLookup_tail hC₁ hn₁ T₁ F.mroIs F.init.lookup ?_
 rw [hi]
 refine wpAny_holding (wpAny_bind ?_)
 unfold bindSpecial
 refine wpAny_bind (wpAny_typeOf (T:="function") ⟨_,keep _ _ hfI,hfc⟩ ?_)
 rw [if_pos (by decide)]
 refine wpAny_pure (wpAny_bind (wpAny_mono (hq _ (h.objs.size+1) ⟨keep,Heap.get?_none_of_le (Nat.le_succ _),h.objs.size,hget,Heap.get?_none_of_le (Nat.le_refl _),?_⟩ rfl) (fun r s' hr=>?_) fun _ _ x=>x))
 ·exact Heap.get?_push_of_some _ (Heap.get?_push_at rfl rfl)
 ·obtain ⟨rfl,hQ⟩:=hr
  wp_walk
  exact hQ
theorem exc_make_call (F:ExcBaseFacts B newId initId bmB) (T:OwnTail h bmB bm) {mN:Str→Option Value} {YQ:List Value} {fI:Addr} {oI:Obj} {Q:Value→Shared→Prop}
  (hC:h.get? C=some (excClassObj nm q C N bs bm hdct sn sub ab col dd k0 k1 k2 k3 k5 newId)) (hn:h.Ns N mN) (hi:mN "__init__"=some (.ref fI))
  (hfI:h.get? fI=some oI) (hfc:oI.cls = .type "function")
  (hq:∀ h' e,Heap.MadeExcOf h h' e (.ref C) YQ→e=h.objs.size+1 →
   wpAny (model prog w) (A.under (.builtin "type.__call__" ⟨.ref C::YQ,[]⟩)) (call (.ref fI) (.ref e::YQ)) (fun r s'=>r = .none∧Q (.ref e) s') E ⟨h',g,d,t,os⟩) (hrest:YQ.length≤sizeLine) :
  wpAny (model prog w) A (call (.ref C) YQ) Q E ⟨h,g,d,t,os⟩:=by
 have f1:=tc_lookup
 have f2:=tc_bind (.ref C)
 have hT:(⟨h,g,d,t,os⟩:Shared).TypeIs (.ref C) "type":=⟨_,hC,rfl⟩
 refine wpAny_call (codeAny_of_tree ?_)
 show wpAny _ _ (callAny (.ref C) _) _ _ _
 repeat (any_goals (first | assumption | with_reducible refine wpAny_loadPart_at hC ?_ | wp_step))
 refine ⟨rfl,?_⟩
 exact codeAny_call_builtin_at (Code.quiet_builtin _ (by decide +kernel)) entry_typeCall (wpAny_check_type_call_sub hC (UL F T hC hn hi hfI hfc (fun h' e hm he=>hq h' e hm he) hrest))
theorem exc_base_init (F:ExcBaseFacts B newId initId bmB) (T:OwnTail h bmB bm) {e:Addr} {dc:Option Addr} {sl:Array (Option Value)} {t0:Addr} {m:Value} {Q:Value→Shared→Prop}
  (hC:h.get? C=some (excClassObj nm q C N bs bm hdct sn sub ab col dd k0 k1 k2 k3 k5 newId)) (he:h.get? e=some ⟨.ref C,dc,.fields (WF (.ref t0)),sl⟩)
  (hq:∀ h' T,h'.get? e=some ⟨.ref C,dc,.fields (WF (.ref T)),sl⟩→(∀ b o,b≠e→h.get? b=some o→h'.get? b=some o)→Q .none ⟨h',g,d,t,os⟩) :
  wpAny (model prog w) A (call (.builtin initId) [.ref e,m]) Q E ⟨h,g,d,t,os⟩:=by
 refine wpAny_call (codeAny_call_builtin F.init.plain F.initEntry (wpAny_check_init_subT F T hC he rfl ?_))
 have he1:(h.push { cls := .type "tuple",data := .seq [m].toArray }).get? e=some ⟨.ref C,dc,.fields (WF (.ref t0)),sl⟩:=Heap.get?_push_of_some _ he
 wp_walk
 refine hq _ h.objs.size ((Heap.get?_update_self _ he1 rfl).trans rfl) fun b o hb eb=>?_
 exact (Heap.get?_update_other _ _ (Ne.symm hb)).trans (Heap.get?_push_of_some _ eb)
end
section
variable {M:Model} {A:Around} {E:Value→Shared→Prop} {env:Env}
variable {nm q:Str} {C N:Addr} {bs bm bmB:List Value} {hdct:Bool} {sn:List Str} {sub:List Value} {ab:Bool} {col:Option Bool} {dd:Option Addr} {k0 k1 k2 k3 k5:Option Value} {B newId initId:String}
theorem WQ {s:Shared} {x:Sem Value} {Q:Flow→Shared→Prop} (hbase:bm.contains (.type "BaseException")=true) (hh:A.handled=none)
  (h:wpAny M A x (fun v s₁=>∃ e dc t0 sl,v = .ref e∧s₁.heap.get? C=some (excClassObj nm q C N bs bm hdct sn sub ab col dd k0 k1 k2 k3 k5 newId)∧s₁.heap.get? e=some ⟨.ref C,dc,.fields (WF (.ref t0)),sl⟩∧E (.ref e) s₁) E s) :
  wpAny M A (raiseStmt env (some x) none) Q E s:=by
 have hcB:(Value.ref C::bm).contains (.type "BaseException")=true:=by rw [List.contains_cons,hbase,Bool.or_true]
 unfold raiseStmt
 refine wpAny_bind (wpAny_mono h (fun v s₁ h₁=>?_) fun _ _ x=>x)
 obtain ⟨e,dc,t0,sl,rfl,hC,he,hE⟩:=h₁
 obtain ⟨hp,g,d,tk,os⟩:=s₁
 repeat (first | with_reducible refine wpAny_loadPart_at he ?_ | with_reducible refine wpAny_loadPart_at hC ?_ | (with_reducible refine wpAny_isSubtype_exc hC ?_;rw [hcB]) | wp_step)
 exact wpAny_raiseNew_none hh hE
end
section
variable {prog:Program} {w:World} {A:Around} {E:Value→Shared→Prop} {s:Shared} {env:Env}
variable {nm q:Str} {C N:Addr} {bs bm bmB:List Value} {hdct:Bool} {sn:List Str} {sub:List Value} {ab:Bool} {col:Option Bool} {dd:Option Addr} {k0 k1 k2 k3 k5:Option Value} {B newId initId:String}
theorem exc_raise_call {x:Str} {np cpos pos:Pos} {args:List Expr} {Q:Flow→Shared→Prop}
  (hbase:bm.contains (.type "BaseException")=true) (hh:A.handled=none) (hplain:(backTo cpos (starEach args env)).any (·.1)=false)
  (h:wpAny (model prog w) A (eval (.Name x np) env) (fun f s₁=>f = .ref C∧wpAny (model prog w) A (evalArgs (.ref C) true (backTo cpos (starEach args env)) [])
   (fun a s₂=>a.kw=[]∧s₂.heap.get? C=some (excClassObj nm q C N bs bm hdct sn sub ab col dd k0 k1 k2 k3 k5 newId) ∧
    wpAny (model prog w) A (call (.ref C) a.pos) (fun v s₃=>∃ e dc t0 sl,v = .ref e∧s₃.heap.get? C=some (excClassObj nm q C N bs bm hdct sn sub ab col dd k0 k1 k2 k3 k5 newId)∧s₃.heap.get? e=some ⟨.ref C,dc,.fields (WF (.ref t0)),sl⟩∧E (.ref e) s₃) E s₂) E s₁) E s) :
  wpAny (model prog w) A (exec (.Raise (some (.Call (.Name x np) args [] cpos)) none pos) env) Q E s:=by
 rw [arm_exec_Raise]
 first
  | refine wpAny_bind (wpAny_standAt (WQ (C:=C) (nm:=nm) (q:=q) (N:=N) (bs:=bs) (bm:=bm) (hdct:=hdct) (sn:=sn) (sub:=sub) (ab:=ab) (col:=col) (dd:=dd) (k0:=k0) (k1:=k1) (k2:=k2) (k3:=k3) (k5:=k5) (newId:=newId) hbase hh (wpAny_bind (wpAny_mono (wpAny_Call_ofName (wpAny_mono h (fun f s₁ h₁=>?_) fun _ _ x=>x)) (fun v s₃ h₃=>wpAny_bind (wpAny_standAt (wpAny_pure h₃))) fun _ _ x=>x))))
  | (refine wpAny_bind (wpAny_standAt (WQ (C:=C) (nm:=nm) (q:=q) (N:=N) (bs:=bs) (bm:=bm) (hdct:=hdct) (sn:=sn) (sub:=sub) (ab:=ab) (col:=col) (dd:=dd) (k0:=k0) (k1:=k1) (k2:=k2) (k3:=k3) (k5:=k5) (newId:=newId) hbase hh ?_));refine wpAny_bind (wpAny_mono (wpAny_Call_ofName (wpAny_mono h (fun f s₁ h₁=>?_) fun _ _ x=>x)) (fun v s₃ h₃=>wpAny_bind (wpAny_standAt (wpAny_pure h₃))) fun _ _ x=>x))
 obtain ⟨rfl,h₁⟩:=h₁
 unfold callWith
 refine wpAny_bind (wpAny_holding (wpAny_mono h₁ (fun a s₂ h₂=>wpAny_bind (wpAny_standAt ?_)) fun _ _ x=>x))
 obtain ⟨apos,akw⟩:=a
 obtain ⟨hkw,hC,h₂⟩:=h₂
 obtain rfl:akw=[]:=hkw
 obtain ⟨hp,g,d,tk,os⟩:=s₂
 simp only [hplain]
 refine wpAny_bind (wpAny_keeperOf_exc hC ?_)
 exact wpAny_bind (wpAny_mono h₂ (fun v s₃ h₃=>wpAny_bind (wpAny_holding (wpAny_point (wpAny_pure h₃)))) fun _ _ x=>x)
end
end PySem.W
namespace L2
open PySem PySem.Spec PyProof.Rows
open PySem.W (WF)
def Xh (a:Addr) (cls:Value) (dc:Option Addr):HO := .ext fun h=>∃ t0 sl,h.get? a=some ⟨cls,dc,.fields (WF (.ref t0)),sl⟩
def del (H:Hp) (a:Addr):Hp:=fun b=>if b=a then none else H b
theorem YcH {H:Hp} {a:Addr}:del H a a=none:=by unfold del;rw [if_pos rfl]
theorem Wx {H:Hp} {a b:Addr} (h:b≠a):del H a b=H b:=by unfold del;rw [if_neg h]
theorem Yes {H:Hp} {a b:Addr} {o:HO} (h:del H a b=some o):b≠a∧H b=some o:=by
 unfold del at h
 split at h
 ·cases h
 ·exact ⟨‹_›,h⟩
section
variable {P:Program} {w:World} {H:Hp} {h:Heap} {a t0:Addr} {cls:Value} {dc:Option Addr} {sl:Array (Option Value)}
theorem Ug (q:h.get? a=some ⟨cls,dc,.fields (WF (.ref t0)),sl⟩):Yz P w H h a (Xh a cls dc):=⟨⟨t0,sl,q⟩,⟨_,q⟩,fun h1 h2 ⟨t,sl,p⟩ k=>⟨t,sl,k _ p⟩⟩
end
section
variable {X:Cx} {pins:List (Addr×Obj)} {σ:St} {H:Hp} {s:Shared} {e:Addr} {cls:Value} {M:Model} {A:Around} {Q:Unit→Shared→Prop} {EE:Value→Shared→Prop} {dc:Option Addr}
theorem Inv.leave_excN (I:Inv X pins σ H s) (hs:X.stack=X.env::X.outer) (hf:X.env.frame=some X.env.locals) (hex:X.ex=[]) (hA:A.frames=some (X.env::X.outer)) (he:H e=some (Xh e cls dc)) (hnew:X.s₀.heap.get? e=none)
  (hQ:∀ h'' B,Fly X.prog X.w X.outer X.H₀ X.s₀.heap e cls (del H e) h'' B→Xk h'' e dc→Q () { s with heap:=h'' }):wpAny M A (leaving X.env (.ref e)) Q EE s:=by
 have nx:∀ b:Addr,b∉X.ex:=by
  rw [hex]
  intro b z
  cases z
 have st:=I.stack
 have sf:=I.stkFree
 rw [hs] at st sf
 obtain ⟨⟨t0,sl,q0⟩,_,_⟩:=I.hok e _ he
 have hne:∀ b o,X.s₀.heap.get? b=some o→b≠e:=fun b o q z=>by rw [z,hnew] at q;cases q
 have hd0:Xk s.heap e dc:=⟨_,q0,rfl⟩
 have hstays:(PySem.W.hideAll s.heap (e::frs (X.env::X.outer))).StaysIn s.heap:=fun b o q=>PySem.W.of_hideAll _ q
 refine wpAny_mono (Wv (Vd _ _) hd0 (wpAny_leaving_firstW (Q:=fun _ s'=>∃ h'',s'={ s with heap:=h'' }∧Fly X.prog X.w X.outer X.H₀ X.s₀.heap e cls (del H e) h'' (PySem.W.hideAll s.heap (e::frs (X.env::X.outer)))) (a0 := .ref t0) (base:=PySem.W.hideAll s.heap (e::frs (X.env::X.outer))) hA (PySem.W.funFrames_hide st fun env he a ha=>List.mem_cons_of_mem _ (List.mem_filterMap.mpr ⟨env,he,ha⟩)) hf q0 hstays (PySem.W.hideAll_none _ (List.mem_cons_self ..)) rfl rfl rfl fun h'' hL=>⟨h'',rfl,?_⟩)) (fun _ s' z=>by
  obtain ⟨⟨h'',rfl,F⟩,d⟩:=z
  exact hQ h'' _ F d) fun _ _ z=>z.1
 obtain ⟨k1,⟨_,_,k2⟩,k3,k4⟩:=hL
 have notIn:∀ b o,X.s₀.heap.get? b=some o→b∉frs X.outer→b∉e::frs (X.env::X.outer):=fun b o q nb z=>by
  rcases List.mem_cons.mp z with z | z
  ·exact hne b o q z
  ·exact I.notStk hf q nb z
 refine ⟨⟨_,k1,PySem.W.hideAll_none _ (List.mem_cons_self ..),k2,k3⟩,fun b u q=>?_,fun b o q n nb=>PySem.W.hideAll_get _ (I.base.keep b o q n nb (nx b)) (notIn b o q nb),fun b o q n hb=>?_,fun b o q nb=>?_,fun b o q n=>?_,fun b xs q=>?_,fun b o u q=>?_,fun b ps q=>?_⟩
 ·obtain ⟨nb,q⟩:=Yes q
  refine (I.hok b u q).stay (fun c v hc r=>PySem.W.hideAll_get _ r fun z=>?_) (fun c r=>?_) fun c xs r=>?_
  ·rcases List.mem_cons.mp z with z | z
   ·subst z
    rcases hc with hc | hc
    ·exact nb hc.symm
    ·rw [he] at hc;cases hc
   ·have n:=sf c z
    rcases hc with rfl | hc
    ·rw [n] at q;cases q
    ·rw [n] at hc;cases hc
  ·rw [Wx fun z=>by rw [z,he] at r;cases r];exact r
  ·rw [Wx fun z=>by rw [z,he] at r;cases r];exact r
 ·obtain ⟨sl,e1⟩:=I.base.slot b o q n hb (nx b)
  obtain ⟨_,o',e',d⟩:=I.ok.funs.mem hb
  rw [q] at e'
  cases e'
  obtain ⟨sl',e2⟩:=k4 b _ e1 d
  exact ⟨sl',e2⟩
 ·obtain ⟨o',e1⟩:=I.base.there b o q (nx b)
  exact ⟨o',PySem.W.hideAll_get _ e1 (notIn b o q nb)⟩
 ·rw [Wx (hne b o q)];exact I.base.free b o q n (nx b)
 ·have z:=I.base.tups b xs q
  rw [Wx fun y=>by rw [y,he] at z;cases z];exact z
 ·have z:=I.base.frzs b o u q
  rw [Wx fun y=>by rw [y,he] at z;cases z];exact z
 ·obtain ⟨m,z⟩:=I.base.tbls b ps q
  exact ⟨m,by rw [Wx fun y=>by rw [y,he] at z;cases z];exact z⟩
end
def Yae (X:Cx) (E:XK):Prop:=∀ (pins:List (Addr×Obj)) (σ:St) (H:Hp) (s:Shared) (e:Addr) (cls:Value) (dc:Option Addr),Inv X pins σ H s→H e=some (Xh e cls dc)→(∀ o,X.s₀.heap.get? e=some o→e∈X.ex)→E cls dc (del H e)→X.xe (.ref e) s
section
variable {g:Gx} {N:List Str} {qual:Str} {st:Stmt} {f:Addr} {cdv:Value} {A:Around} {outer:List Env} {s:Shared} {H:Hp} {E:XK}
theorem Yet:Yae (g.cxX N qual st f cdv A outer s H E) E:=by
 intro pins σ H1 s1 e cls dc I he hn q
 exact I.leave_excN rfl rfl rfl I.ok.frames he (by
  cases hq:s.heap.get? e with
  | none=>exact hq
  | some o=>exact absurd (hn o hq) (by simp [WJ])) fun h'' B F hd=>⟨e,cls,del H1 e,B,dc,rfl,I.os,I.bare,F,hd,q⟩
end
def Xg (a:Addr) (fs:List (Str×V)):HO := .ext fun h=>∃ mA,h.Ns1 a mA∧(∀ f,XM (fs.lookup f) (mA f))∧PySem.Within mA (fs.map (·.1))
structure MkX (K:PySem.W.Frag) (C f:Addr):Prop where
 own:PySem.W.excOwn K C VU "ValueError.__new__" f=true
 fn:PySem.W.isFn K (.ref f)=true
section
variable {X:Cx} {pins:List (Addr×Obj)} {σ:St} {H:Hp} {s:Shared} {C f:Addr} {k:Nat} {fd:FuncData} {ps:List Str} {sp:Sp} {ds:List Value} {dvs:List V} {E:XK} {CX:CXT}
theorem YcI {Q:VK} {us:List Value} {vs:List V} (M:MkX X.K C f) (F:FnOk X.prog X.w X.K X.mg X.base CX k f fd ps sp) (hr:Room (k+1) X.A) (hb:YW X.K fd ps ds) (hd:Ym dvs ds)
  (hx:XB CX X E) (I:Inv X pins σ H s) (r:Ym vs us) (hz:us.length≤sizeLine)
  (h:∀ x,H x=none→s.heap.get? x=none→sp (.ref x::(vs++dvs)) (upd H x (Xh x (.ref C) none)) (fun v H2=>v = .non∧Q (.ref x) H2) E) :
  wpAny (model X.prog X.w) X.A (call (.ref C) us) (EP X pins σ Q) X.xe s:=by
 obtain ⟨bm,ns,nm,qn,bs,hdd,sn,sub,ab,col,dd,k0,k1,k2,k3,k5,mN,hO,hN,hi,T⟩:=PySem.W.excOwn_obj I.kIn M.own
 obtain ⟨oI,ho,hoc⟩:=Option.map_eq_some_iff.mp (beq_iff_eq.mp M.fn)
 obtain ⟨hh,gg,dr,tk,os⟩:=s
 refine PySem.W.exc_make_call PySem.F.excBase_ValueError T hO hN hi (I.kIn _ _ ho) hoc (fun h' x hm ex=>?_) hz
 obtain ⟨t0,he,_,_⟩:=hm.there
 have hq:=h x (I.hok.fresh (by rw [ex];exact Nat.le_succ _)) hm.new
 have I2:Inv X pins σ (upd H x (Xh x (.ref C) none)) ⟨h',gg,dr,tk,os⟩:=I.laid (t':=tk) (a:=x) (o:=Xh x (.ref C) none) (fun b u q=>hm.keeps b u q) (by rw [ex];exact Nat.le_succ _) (Ug he)
 have r2:Ym (V.ref x::(vs++dvs)) (Value.ref x::(us++ds)) := .cons rfl (r.append hd)
 have hl:(Value.ref x::us++ds).length=ps.length:=by
  have e:=r2.length
  rw [F.len _ _ _ _ hq] at e
  exact e.symm
 refine wpAny_call (codeAny_mono (F.run _ X.stack _ _ ⟨Value.ref x::us,[]⟩ (Value.ref x::(us++ds)) _ _ E (hr.make C us []) (I2.env0.make C us []) (hb _ (Value.ref x::us) I2.kIn hl) r2 hq) fun r s' hq'=>?_)
 cases r with
 | error e=>exact hx pins σ _ _ e s' I2 hq'
 | ok fl =>
  cases fl with
  | ret u =>
   obtain ⟨v,H',I3,rv,ev,q3⟩:=I2.after hq'
   subst ev
   exact ⟨rv,⟨V.ref x,H',I3,rfl,q3⟩⟩
  | next=>exact False.elim hq'
  | brk=>exact False.elim hq'
  | cont=>exact False.elim hq'
end
structure ExFl (K:PySem.W.Frag) (C C':Addr):Prop where
 hd:PySem.W.hasDictIn K C=true
 ln:PySem.W.excLine K C C'=true
 sa:PySem.W.findIn K (.ref C) "__setattr__"=some (some (.builtin "object.__setattr__"))
section
variable {P:Program} {w:World} {H:Hp} {h:Heap} {a:Addr} {fs:List (Str×V)} {mA:Str→Option Value}
theorem Yaf (n:h.Ns1 a mA) (r:∀ f,XM (fs.lookup f) (mA f)) (wi:PySem.Within mA (fs.map (·.1))):Yz P w H h a (Xg a fs):=by
 obtain ⟨od,es,ep,e,c⟩:=id n
 exact ⟨⟨mA,n,r,wi⟩,⟨od,e⟩,fun h1 h2 ⟨mB,⟨od,es,ep,e,c⟩,r,wi⟩ k=>⟨mB,⟨od,es,ep,k _ e,c⟩,r,wi⟩⟩
end
section
variable {X:Cx} {pins:List (Addr×Obj)} {σ:St} {H:Hp} {s:Shared} {C C' a d:Addr} {f:Str} {y:V} {u:Value} {Q:Unit→Shared→Prop} {A:Around} {E:Value→Shared→Prop} {fs:List (Str×V)}
theorem YcJ (I:Inv X pins σ H s) (c:ExFl X.K C C') (na:PySem.W.findIn X.K (.ref C) f=some none) (e:H a=some (Xh a (.ref C) none)) (ry:Ys y u)
  (h:∀ d s',H d=none→d≠a→Inv X pins σ (upd (upd H d (Xg d [(f,y)])) a (Xh a (.ref C) (some d))) s'→Q () s'):wpAny (model X.prog X.w) A (setAttr (.ref a) f u) Q E s:=by
 obtain ⟨⟨t0,sl,q0⟩,_,_⟩:=I.hok a _ e
 refine PySem.W.exset_new I.kIn q0 rfl rfl rfl c.hd c.ln na c.sa fun h' n1 ha hk=>?_
 have hfr:H s.heap.objs.size=none:=I.hok.fresh (Nat.le_refl _)
 have hne:s.heap.objs.size≠a:=fun z=>by rw [z,e] at hfr;cases hfr
 have ned:∀ b o,s.heap.get? b=some o→b≠s.heap.objs.size:=fun b o q=>Nat.ne_of_lt (Heap.lt_size q)
 have nea:∀ b,H b=none→b≠a:=fun b q z=>by rw [z,e] at q;cases q
 have oth:∀ b o,H b=some o→b≠a→(upd (upd H s.heap.objs.size (Xg s.heap.objs.size [(f,y)])) a (Xh a (.ref C) (some s.heap.objs.size))) b=some o:=fun b o q n=>by
  rw [Yb n,Yb (Ye q hfr)];exact q
 refine h _ _ hfr hne (I.un (t':=s.toks+2) ⟨fun b o q n _ _=>hk b o (nea b n) q,fun b o q n _ _=>⟨o.slots,hk b o (nea b n) q⟩,fun b o q n _=>?_,fun b o q _=>?_,fun b xs q=>?_,fun b o u q=>?_,fun b ps q=>?_⟩ fun b o q=>?_)
 ·rw [Yb (nea b n),Yb (ned b o q)];exact n
 ·by_cases z:b=a
  ·subst z;exact ⟨_,ha⟩
  ·exact ⟨o,hk b o z q⟩
 ·exact oth b _ q fun z=>by rw [z,e] at q;cases q
 ·exact oth b _ q fun z=>by rw [z,e] at q;cases q
 ·exact ⟨#[],by rw [Array.append_empty];exact oth b _ q fun z=>by rw [z,e] at q;cases q⟩
 ·by_cases z:b=a
  ·subst z
   rw [Yc] at q
   cases q
   exact Ug ha
  ·rw [Yb z] at q
   by_cases z2:b=s.heap.objs.size
   ·subst z2
    rw [Yc] at q
    cases q
    refine Yaf n1 (fun g=>?_) fun g hg=>?_
    ·by_cases eg:g=f
     ·subst eg
      rw [if_pos rfl]
      show XM (List.lookup g [(g,y)]) _
      simp only [List.lookup,beq_self_eq_true]
      exact ry
     ·rw [if_neg eg]
      have:(g==f)=false:=by simp [eg]
      simp only [List.lookup,this]
      exact True.intro
    ·by_cases eg:g=f
     ·subst eg;simp
     ·rw [if_neg eg] at hg;exact absurd rfl hg
   ·rw [Yb z2] at q
    refine (I.hok b o q).stay (fun c v hc r=>hk c v (fun zc=>?_) r) (fun c r=>?_) fun c xs r=>?_
    ·subst zc
     rcases hc with hc | hc
     ·exact z hc.symm
     ·rw [e] at hc;cases hc
    ·exact oth c _ r fun zc=>by rw [zc,e] at r;cases r
    ·exact oth c _ r fun zc=>by rw [zc,e] at r;cases r
theorem YbV (I:Inv X pins σ H s) (c:ExFl X.K C C') (na:PySem.W.findIn X.K (.ref C) f=some none) (e:H a=some (Xh a (.ref C) (some d))) (ed:H d=some (Xg d fs)) (hl:fs.length<1000) (hne:d≠a) (ry:Ys y u)
  (h:∀ s',Inv X pins σ (upd H d (Xg d (YE f y fs))) s'→Q () s'):wpAny (model X.prog X.w) A (setAttr (.ref a) f u) Q E s:=by
 obtain ⟨⟨t0,sl,q0⟩,_,_⟩:=I.hok a _ e
 obtain ⟨⟨mA,n1,r,wi⟩,_,_⟩:=I.hok d _ ed
 have hz:(fs.map (·.1)).length≤sizeLine:=by rw [List.length_map,sizeLine_eq];omega
 refine PySem.W.exset_more I.kIn q0 rfl rfl rfl n1 hne c.hd c.ln na c.sa wi hz fun h' n2 sb=>?_
 obtain ⟨od,es,ep,eo,co⟩:=id n2
 refine h _ (I.write (t':=s.toks+2) (x:=d) (e:=d) (by rw [ed];exact True.intro) (.inl rfl) (fun b q hb z=>(sb.2 b hb).trans z) ⟨od,eo⟩ (Yaf n2 (fun g=>?_) fun g hg=>?_))
 ·rw [WI]
  by_cases q:g=f
  ·rw [if_pos q,if_pos q];exact ry
  ·rw [if_neg q,if_neg q];exact r g
 ·by_cases q:g=f
  ·rw [q];exact (X7 f y fs).1
  ·refine (X7 f y fs).2 g (wi g fun z=>hg ?_)
   show (if g=f then some u else mA g)=none
   rw [if_neg q];exact z
end
structure BInit (g:Gx) (x:Str) (B:Addr):Prop where
 bound:g.mg x=some (.ref B)
 ga:PySem.W.specialIn g.K (.ref B) "__getattribute__"=some (some (.builtin "type.__getattribute__"))
 rd:PySem.W.readsIn g.K B (.type "type")=true
 at_:PySem.W.findCls g.K (.ref B) (.type "type") "__init__"=some (.val (.builtin "ValueError.__init__"))
def tBI (C:Addr) (t:TA):TE:=fun σ H Q=>t σ H fun vs H1=>∃ a m dc,vs=[.ref a,m]∧H1 a=some (Xh a (.ref C) dc)∧Q .non H1
def sFx (C:Addr) (ta tv:TE) (f:Str):TS:=fun D σ H=>tv σ H fun y H1=>ta σ H1 fun x H2=>∃ a,x = .ref a∧((H2 a=some (Xh a (.ref C) none)∧∀ d,H2 d=none→d≠a→D.nx σ (upd (upd H2 d (Xg d [(f,y)])) a (Xh a (.ref C) (some d)))) ∨
 ∃ d fs,H2 a=some (Xh a (.ref C) (some d))∧H2 d=some (Xg d fs)∧fs.length<1000∧d≠a∧D.nx σ (upd H2 d (Xg d (YE f y fs))))
def tFx (C:Addr) (ta:TE) (f:Str):TE:=fun σ H Q=>ta σ H fun x H1=>∃ a d fs v,x = .ref a∧H1 a=some (Wa a (.ref C) (some d))∧H1 d=some (Xg d fs)∧fs.lookup f=some v∧Q v H1
def spI (C:Addr) (fs:List Str):Sp:=fun vs H Q _=>∃ e us,vs = .ref e::us∧us.length=fs.length∧H e=some (Xh e (.ref C) none)∧∀ d,H d=none→d≠e→Q .non (upd (upd H d (Xg d (fs.zip us))) e (Xh e (.ref C) (some d)))
def Gx.RawX (g:Gx) (x:Str) (C:Addr) (qual:Str) (st:Stmt) (ps:List Str):Prop:=∃ f fd,Fun g.K "__init__" qual st f fd∧YW g.K fd ps []∧MkX g.K C f∧g.mg x=some (.ref C)
def Gx.MaX (g:Gx) (x:Str) (C:Addr) (ps fs:List Str):Prop:=∃ f fd,FnOk g.P g.w g.K g.mg g.base CX0 1 f fd ps (spI C fs)∧YW g.K fd ps []∧MkX g.K C f∧g.mg x=some (.ref C)
theorem Gx.RawX.maX {g:Gx} {x qual:Str} {C:Addr} {st:Stmt} {N ps fs:List Str} (R:g.RawX x C qual st ps) (S:FnScope N ps (Yi st)) (len:∀ vs H Q E,spI C fs vs H Q E→vs.length=ps.length) (b:Vb g 0 N qual st (spI C fs)):g.MaX x C ps fs:=by
 obtain ⟨f,fd,F,bd,hm,hg⟩:=R
 exact ⟨f,fd,F.ok S len fun cdv A outer s H vs Q E hr h=>b f cdv A outer s H vs Q E hr h,bd,hm,hg⟩
theorem YdL {K:PySem.W.Frag} {h:Heap} {mg:Str→Option Value} {f C:Addr} {x qual:Str} {st:Stmt} {oc kV dc pm cd ct:Value} {od an:Option Addr} {sl:Array (Option Value)} (X:K.In h) (G:h.Ns mainGlobals mg) (ps:List Str) (aC:PySem.W.nsIn K mainGlobals x=some (some (.ref C)))
  (a:PySem.W.findIn K (.ref C) "__init__"=some (some (.ref f))) (o:PySem.W.excOwn K C VU "ValueError.__new__" f=true) (i:PySem.W.isFn K (.ref f)=true) (l:K.lookup f=some ⟨oc,od,.func (PySem.W.fnOf "__init__" qual (YN st) (Yy st) (Yi st) .none kV dc pm an cd ct),sl⟩) (c:PySem.W.codeIn K cd qual=true) (k:PySem.W.keepIn K (.ref f)=true)
  (b:∀ (kV doc pm:Value) (an:Option Addr) (cdv ct:Value) (us:List Value),us.length=ps.length→bindArgs (PySem.W.fnOf "__init__" qual (YN st) (Yy st) (Yi st) .none kV doc pm an cdv ct) ⟨us,[]⟩=pure (ps.zip us)) :
  ∀ P w base,(Gx.mk P w K mg base).RawX x C qual st ps:=fun P w base =>
 have F:=Wr (st:=st) l c k
 ⟨f,_,F,F.binds b,⟨o,i⟩,PySem.W.mg_of X G aC⟩
theorem Gx.RawX.own {g:Gx} {x qual:Str} {C:Addr} {st:Stmt} {ps:List Str} (R:g.RawX x C qual st ps):∃ f,PySem.W.excOwn g.K C VU "ValueError.__new__" f=true:=by
 obtain ⟨f,_,_,_,M,_⟩:=R
 exact ⟨f,M.own⟩
section
variable {g:Gx} {X:Cx} {k j:Nat} {x m f:Str} {ps:List Str} {sp:Sp} {e o value:Expr} {es:List Expr} {t:TA} {ta tv:TE} {p pos apos pos' np cpos:Pos} {C C' B:Addr} {E:XK} {fs:List Str}
theorem YcK {pl:Sem Bool} (b:BInit g x B) (M:∃ fI,PySem.W.excOwn g.K C VU "ValueError.__new__" fI=true) (ha:PA X (e::es) t) (hX:X.gx=g:=by rfl) (hg:Gl X x:=by rfl) (hdb:(x==("__debug__":Str))=false:=by decide)
  (hst:starEach (e::es) X.env=(false,eval e X.env)::starEach es X.env:=by rfl) (hpl:(backTo pos (starEach es X.env)).any (·.1)=false:=by rfl)
  (ht:eval (.Call (.Attribute (.Name x p) "__init__" apos) (e::es) [] pos) X.env=(do
   let ov ← eval (.Name x p) X.env
   standAt apos.atName
   let (f,first) ← holding [ov] (getMethod ov "__init__" pl)
   callWith pos f first (backTo pos (starEach (e::es) X.env)) (backToKw pos (keywordEach [] X.env))):=by rfl):PE X (.Call (.Attribute (.Name x p) "__init__" apos) (e::es) [] pos) (tBI C t):=by
 subst hX
 obtain ⟨fI,M⟩:=M
 intro pins s σ H Q I h
 refine PySem.W.methodCall_KW (pl:=pl) (thn (Ww (g:=X.gx) (pos:=p) b.bound rfl hg hdb pins s σ H (fun v H1=>v = .ref B∧H1=H) I ⟨rfl,rfl⟩) fun u s1 ⟨v,H1,I1,rv,e1,e2⟩=>?_) ht
 subst e1 e2
 obtain rfl:u=Value.ref B:=rv
 refine PySem.W.method_cls I1.kIn b.ga (PySem.W.cls_value I1.kIn b.rd b.at_ rfl ?_)
 have I2:=I1.tok (s1.toks+1)
 refine PyProof.Rows.callWith_builtin1 (thn (ha pos pins _ σ H1 _ I2 h) fun us s2 ⟨vs,H2,I3,r,a,mm,dc,ev,he,q⟩=>?_) hst hpl
 subst ev
 obtain ⟨u1,u2,rfl,r1,r2⟩:=VJ r
 obtain rfl:u1=Value.ref a:=r1
 obtain ⟨bm,ns,nm,qn,bs,hdd,sn,sub,ab,col,dd,k0,k1,k2,k3,k5,mN,hO,hN,hi,T⟩:=PySem.W.excOwn_obj I3.kIn M
 obtain ⟨⟨t0,sl,q0⟩,_,_⟩:=I3.hok a _ he
 obtain ⟨hh,gg,dr,tk,os⟩:=s2
 refine PySem.W.exc_base_init PySem.F.excBase_ValueError T hO q0 fun h' T' e1 hk=>⟨.non,H2,?_,rfl,q⟩
 have I4:=I3.write (t':=tk) (h':=h') (x:=a) (e:=a) (o:=Xh a (.ref C) dc) (by rw [he];exact True.intro) (.inl rfl) (fun b u hb z=>hk b u hb z) ⟨_,e1⟩ (Ug e1)
 rw [Yed he] at I4
 exact I4
theorem Yag (c:ExFl g.K C C') (na:PySem.W.findIn g.K (.ref C) f=some none) (ha:PE X o ta) (hv:PE X value tv) (hX:X.gx=g:=by rfl) (hs:swapsWith value (some (.Attribute o f pos')) pos.line X.env=pure false:=by rfl):PS X (.Assign [.Attribute o f pos'] value pos) (sFx C ta tv f):=by
 subst hX
 intro pins s σ H D I h
 refine plainObj_wpAny_Assign_Attribute (thn (hv pins s σ H _ I h) fun u s1 ⟨y,H1,I1,ry,q⟩=>thn (ha pins s1 σ H1 _ I1 q) fun ov s2 ⟨x,H2,I2,rx,a,ex,q2⟩=>?_) hs
 subst ex
 obtain rfl:ov=Value.ref a:=rx
 rcases q2 with ⟨e0,q2⟩ | ⟨d,fs,e0,e1,l,ne,q2⟩
 ·exact YcJ I2 c na e0 ry fun d s3 n1 n2 I3=>⟨σ,_,I3,q2 d n1 n2⟩
 ·exact YbV I2 c na e0 e1 l ne ry fun s3 I3=>⟨σ,_,I3,q2⟩
theorem UU (T:ExcT g.K C) (na:PySem.W.findIn g.K (.ref C) f=some none) (he:PE X e ta) (hX:X.gx=g) (hb:attributeBase e f X.env (eval e X.env)=eval e X.env):PE X (.Attribute e f pos) (tFx C ta f):=by
 subst hX
 intro pins s σ H Q I h
 refine Q2 hb (thn (he pins s σ H _ I h) fun u s1 ⟨x,H1,I1,rx,a,d,fs,v,ex,ea,ed,l,q⟩=>?_)
 subst ex
 obtain rfl:u=Value.ref a:=rx
 obtain ⟨⟨o,vs,h1,h2,h3,h4⟩,_⟩:=(show Yz X.prog X.w H1 s1.heap a (Wa a (.ref C) (some d)) from I1.hok a _ ea)
 obtain ⟨⟨mA,n1,r,wi⟩,_⟩:=(show Yz X.prog X.w H1 s1.heap d (Xg d fs) from I1.hok d _ ed)
 obtain ⟨u,hu,ru⟩:=XM.some_of (v:=v) (o:=mA f) (by rw [← l];exact r f)
 obtain ⟨hh,gg,dr,tk,os⟩:=s1
 exact PySem.W.exatt_attr I1.kIn T.hd h1 h2 (fun c z=>by rw [h3] at z;cases z) h4 n1.ns hu (PySem.W.handedOut_of (Ur ru)) T.hb na T.hga T.hgt ⟨v,H1,I1.tok _,ru,q⟩
theorem Xa {K:PySem.W.Frag} (T:ExcT K C) (h:X.K=K:=by rfl):Xv X (.builtin "isinstance") (fun xs H Q=>∃ a c cv b dc,xs=[.ref a,c]∧Va c=some cv∧H a=some (Wa a (.ref C) dc)∧PySem.W.kitOne K (.ref C) cv=some b∧Q (.bl b) H):=by
 subst h
 intro pins s σ H xs us Q I r h
 obtain ⟨a,c,cv,b,dc,rfl,ec,ha,e,q⟩:=h
 obtain ⟨u,w',rfl,ru,rw'⟩:=VJ r
 have ew:w'=cv:=by
  cases c with
  | ty n=>cases (show w'=Value.type n from rw');simpa [Va] using ec
  | ref a=>cases (show w'=Value.ref a from rw');simpa [Va] using ec
  | _=>simp [Va] at ec
 subst ew
 cases (show u=Value.ref a from ru)
 obtain ⟨⟨o,vs,h1,h2,_⟩,_⟩:=(show Yz X.prog X.w H s.heap a (Wa a (.ref C) dc) from I.hok a _ ha)
 exact PySem.W.kia_one (PySem.W.kitx_exc T.hd T.hm T.hb T.ha T.hga T.hgt) I.kIn ⟨o,h1,h2⟩ e (fun z=>nomatch z) fun tk=>⟨.bl b,H,I.tok tk,rfl,q⟩
def Yah (C:Addr) (fs:List Str) (E:XK) (t:TA):TS:=fun _ σ H=>t σ H fun vs H1=>vs.length=fs.length∧vs.length≤1000∧∀ d,H1 d=none→E (.ref C) (some d) (upd H1 d (Xg d (fs.zip vs)))
theorem YbW (F:g.MaX x C ps fs) (hr:Room k X.A) (hR:Yae X E) (ha:PA X (e::es) t) (hj:2≤k) (hc:X.calm=true) (hX:X.gx=g) (hg:Gl X x) (hdb:(x==("__debug__":Str))=false)
  (he:starEach (e::es) X.env=(false,eval e X.env)::starEach es X.env) (hpl:(backTo cpos (starEach es X.env)).any (·.1)=false) :
  PS X (.Raise (some (.Call (.Name x np) (e::es) [] cpos)) none pos) (Yah C fs E t):=by
 subst hX
 obtain ⟨f,fd,F,bd,M,hm⟩:=F
 intro pins s σ H D I h
 obtain ⟨bm,ns,nm,qn,bs,hd,sn,sub,ab,col,dd,k0,k1,k2,k3,k5,mN,hO,hN,hi,T⟩:=PySem.W.excOwn_obj I.mod.kin M.own
 refine PySem.W.exc_raise_call (C:=C) (nm:=nm) (q:=qn) (N:=ns) (bs:=bs) (bm:=bm) (hdct:=hd) (sn:=sn) (sub:=sub) (ab:=ab) (col:=col) (dd:=dd) (k0:=k0) (k1:=k1) (k2:=k2) (k3:=k3) (k5:=k5) (newId:="ValueError.__new__")
  (T.hasType PySem.F.excBase_ValueError.hasBase) (I.ok.hd hc) ?_ (Wl I hg hm ⟨rfl,?_⟩ hdb)
 ·rw [he]
  show (false||(backTo cpos (starEach es X.env)).any (·.1))=false
  rw [hpl];rfl
 ·have a1:=ha cpos pins s σ H _ I h
  rw [he] at a1 ⊢
  refine Calls.evalArgs_plain (wpAny_mono a1 (fun us s2 hz=>?_) fun _ _ y=>y)
  obtain ⟨vs,H2,I2,r,q0,q1,q2⟩:=hz
  refine ⟨rfl,I2.bk _ _ hO,wpAny_mono (YcI (Q:=fun v H3=>∃ e dc,v = .ref e∧(∀ o,X.s₀.heap.get? e=some o→e∈X.ex)∧H3 e=some (Xh e (.ref C) dc)∧E (.ref C) dc (del H3 e)) (dvs:=[]) M F (hr.mono hj) bd .nil Vn I2 r (by rw [← r.length,sizeLine_eq];omega) fun e n1 n2=>?_) (fun v s3 z=>?_) fun _ _ y=>y⟩
  ·have hs0:∀ o,X.s₀.heap.get? e=some o→e∈X.ex:=fun o hq=>Classical.byContradiction fun z=>by
    obtain ⟨o',z⟩:=I2.base.there e o hq z
    rw [n2] at z
    cases z
   refine ⟨e,vs,by rw [List.append_nil],q0,Yc,fun d m1 m2=>⟨rfl,e,some d,rfl,hs0,Yc,?_⟩⟩
   rw [Yb m2] at m1
   have:=q2 d m1
   refine Eq.mp (congrArg (E (.ref C) (some d)) (funext fun b=>?_)) this
   by_cases hb:b=e
   ·subst hb
    rw [YcH,Yb (Ne.symm m2)]
    exact n1
   ·rw [Wx hb,Yb hb]
    by_cases hbd:b=d
    ·subst hbd;rw [Yc,Yc]
    ·rw [Yb hbd,Yb hbd,Yb hb]
  ·obtain ⟨v',H3,I3,rv,e,dc,ev,hs0,he3,q3⟩:=z
   subst ev
   obtain rfl:v=Value.ref e:=rv
   obtain ⟨⟨t0,sl,q5⟩,_,_⟩:=I3.hok e _ he3
   exact ⟨e,dc,t0,sl,rfl,I3.bk _ _ hO,q5,hR pins σ H3 s3 e _ dc I3 he3 hs0 q3⟩
end
theorem YdM {C:Addr} {fs ps:List Str} {vs:List V} {H:Hp} {Q:VK} {E:XK} (h:spI C fs vs H Q E) (hp:ps.length=fs.length+1:=by rfl):vs.length=ps.length:=by
 obtain ⟨e,us,rfl,l,_⟩:=h
 rw [hp,List.length_cons,l]
theorem spI_2 {C:Addr} {f f2 n0 n1 n2 m:Str} {vs:List V} {H:Hp} {Q:VK} {E:XK} (h:spI C [f,f2] vs H Q E) (hne:(f==f2)=false:=by decide) :
  Y8 (Yat (tBI C (VM (W4 0) (VM (tC (.str m)) YaE)))) (Y8 (sFx C (W4 0) (W4 1) f) (sFx C (W4 0) (W4 2) f2)) { nx:=fun _ H'=>Q .non H',rt:=Q } (Xw [n0,n1,n2] vs) H:=by
 obtain ⟨e,us,rfl,l,he,q⟩:=h
 obtain ⟨u,u2,rfl⟩:∃ u u2,us=[u,u2]:=by
  match us,l with
  | [u,u2],_=>exact ⟨u,u2,rfl⟩
 refine ⟨_,rfl,e,_,_,rfl,he,?_⟩
 refine ⟨_,rfl,_,rfl,e,rfl,.inl ⟨he,fun d m1 m2=>?_⟩⟩
 refine ⟨_,rfl,_,rfl,e,rfl,.inr ⟨d,[(f,u)],Yc,by rw [Yb m2];exact Yc,by simp,m2,?_⟩⟩
 have z:=q d m1 m2
 have e1:upd (upd (upd H d (Xg d [(f,u)])) e (Xh e (.ref C) (some d))) d (Xg d (YE f2 u2 [(f,u)]))=upd (upd H d (Xg d ([f,f2].zip [u,u2]))) e (Xh e (.ref C) (some d)):=by
  have e2:YE f2 u2 [(f,u)]=[f,f2].zip [u,u2]:=by
   simp only [YE]
   rw [if_neg (beq_eq_false_iff_ne.mp hne)]
   rfl
  rw [e2]
  funext b
  by_cases hb:b=d
  ·subst hb;rw [Yc,Yb m2,Yc]
  ·rw [Yb hb]
   by_cases hc:b=e
   ·subst hc;rw [Yc,Yc]
   ·rw [Yb hc,Yb hc,Yb hb,Yb hb]
 show Q .non _
 rw [e1]
 exact z
end L2
namespace L2
open PySem PySem.Spec PyProof.Rows
section
variable {X:Cx} {k:Nat}
end
theorem YcL {K:PySem.W.Frag} {h:Heap} {mg:Str→Option Value} {x:Str} {B:Addr} (X:K.In h) (G:h.Ns mainGlobals mg) (a:PySem.W.nsIn K mainGlobals x=some (some (.ref B))) (ga:PySem.W.specialIn K (.ref B) "__getattribute__"=some (some (.builtin "type.__getattribute__"))) (rd:PySem.W.readsIn K B (.type "type")=true) (at_:PySem.W.findCls K (.ref B) (.type "type") "__init__"=some (.val (.builtin "ValueError.__init__"))) :
  ∀ P w base,BInit (Gx.mk P w K mg base) x B:=fun _ _ _=>⟨PySem.W.mg_of X G a,ga,rd,at_⟩
end L2
namespace L2
open PySem PySem.Spec PyProof.Rows
structure Lent (H Hz:Hp) (h:Heap) (cs:List Addr):Prop where
 one:∀ b∈cs,∃ o u,Hz b=some (.frz o u)∧h.get? b=some o∧H b=none
 oth:∀ b,b∉cs→Hz b=H b
section
variable {P:Program} {w:World} {H Hz H':Hp} {h h' B:Heap} {cs fs:List Addr}
theorem Lent.out (L:Lent H Hz h cs) {b:Addr} {o:HO} (e:H b=some o):b∉cs:=fun z=>by
 obtain ⟨_,_,_,_,n⟩:=L.one b z
 rw [n] at e
 cases e
theorem Lent.get (L:Lent H Hz h cs) {b:Addr} {o:HO} (e:H b=some o):Hz b=some o:=by rw [L.oth b (L.out e)];exact e
theorem VB (x:HOk P w H' h') (z:∀ b∈cs,∃ o u,H' b=some (.frz o u)):HOk P w (off H' cs) h':=fun b o e=>by
 obtain ⟨e1,e2⟩:=Yeo e
 refine (x b o e1).stay (fun _ _ _ q=>q) (fun c q=>?_) fun c xs q=>?_
 ·rw [YT fun hc=>by obtain ⟨_,_,y⟩:=z c hc;rw [y] at q;cases q]
  exact q
 ·rw [YT fun hc=>by obtain ⟨_,_,y⟩:=z c hc;rw [y] at q;cases q]
  exact q
theorem Lent.un (L:Lent H Hz h cs) (u:Un fs [] Hz H' h h') (hok:HOk P w H' h') (nf:∀ b∈cs,b∉fs):Un fs [] H (off H' cs) h h':=by
 have z:∀ {b:Addr} {o:HO},H b=some o→b∉cs:=fun e=>L.out e
 refine ⟨fun b o e n hf hx=>?_,fun b o e n hf hx=>?_,fun b o e n hx=>?_,u.there,fun b xs e=>?_,fun b o x e=>?_,fun b ps e=>?_⟩
 ·by_cases hb:b∈cs
  ·obtain ⟨o1,u1,y1,y2,_⟩:=L.one b hb
   rw [e] at y2
   cases y2
   exact (hok b _ (u.frzs b _ _ y1)).1
  ·exact u.keep b o e ((L.oth b hb).trans n) hf hx
 ·exact u.slot b o e ((L.oth b fun hb=>nf b hb hf).trans n) hf hx
 ·by_cases hb:b∈cs
  ·exact Vf hb
  ·rw [YT hb]
   exact u.free b o e ((L.oth b hb).trans n) hx
 ·rw [YT (z e)]
  exact u.tups b xs (L.get e)
 ·rw [YT (z e)]
  exact u.frzs b o x (L.get e)
 ·rw [YT (z e)]
  exact u.tbls b ps (L.get e)
theorem Lent.behind (L:Lent H Hz h cs) (u:Un fs [] Hz H' h h'):∀ b∈cs,∃ o v,H' b=some (.frz o v):=fun b hb=>by
 obtain ⟨o1,u1,y1,_⟩:=L.one b hb
 exact ⟨o1,u1,u.frzs b _ _ y1⟩
theorem Lent.fly {l:List Env} {e:Addr} {cls:Value} (L:Lent H Hz h cs) (F:Fly P w l Hz h e cls H' h' B) (nf:∀ b∈cs,b∉frs l):Fly P w l H h e cls (off H' cs) h' B:=by
 have z:∀ {b:Addr} {o:HO},H b=some o→b∉cs:=fun e=>L.out e
 have bh:∀ b∈cs,∃ o v,H' b=some (.frz o v):=fun b hb=>by
  obtain ⟨o1,u1,y1,_⟩:=L.one b hb
  exact ⟨o1,u1,F.frzs b _ _ y1⟩
 refine ⟨F.fl,VB F.hok bh,fun b o q n hf=>?_,fun b o q n hf=>F.slot b o q ((L.oth b fun hb=>nf b hb hf).trans n) hf,F.al,fun b o q n=>?_,fun b xs q=>?_,fun b o x q=>?_,fun b ps q=>?_⟩
 ·by_cases hb:b∈cs
  ·obtain ⟨o1,u1,y1,y2,_⟩:=L.one b hb
   rw [q] at y2
   cases y2
   exact (F.hok b _ (F.frzs b _ _ y1)).1
  ·exact F.keep b o q ((L.oth b hb).trans n) hf
 ·by_cases hb:b∈cs
  ·exact Vf hb
  ·rw [YT hb]
   exact F.free b o q ((L.oth b hb).trans n)
 ·rw [YT (z q)]
  exact F.tups b xs (L.get q)
 ·rw [YT (z q)]
  exact F.frzs b o x (L.get q)
 ·rw [YT (z q)]
  exact F.tbls b ps (L.get q)
end
def UV (H Hz:Hp) (l:Yu):Prop:=(∀ p∈l,∃ o,Hz p.2.1=some (.frz o (WE p.2.1 p.2.2))∧H p.2.1=none)∧∀ b,b∉l.as→Hz b=H b
def X2 (H:Hp) (h:Heap):Yu→Hp
 | []=>H
 | p::l=>match h.get? p.2.1 with
  | some o=>upd (X2 H h l) p.2.1 (.frz o (WE p.2.1 p.2.2))
  | none=>X2 H h l
section
variable {X:Cx} {pins:List (Addr×Obj)} {σ:St} {H:Hp} {s:Shared}
theorem Wy {h:Heap} {b:Addr}:∀ {l:Yu},b∉l.as→X2 H h l b=H b
 | [],_=>rfl
 | p::l,hb=>by
  have h1:b≠p.2.1:=fun z=>hb (by rw [z];exact .head _)
  have h2:b∉Yu.as l:=fun z=>hb (.tail _ z)
  cases e:h.get? p.2.1 with
  | some o =>
   have hz:X2 H h (p::l)=upd (X2 H h l) p.2.1 (.frz o (WE p.2.1 p.2.2)):=by
    show (match h.get? p.2.1 with | some o=>_ | none=>_)=_
    rw [e]
   rw [hz,Yb h1]
   exact Wy h2
  | none =>
   have hz:X2 H h (p::l)=X2 H h l:=by
    show (match h.get? p.2.1 with | some o=>_ | none=>_)=_
    rw [e]
   rw [hz]
   exact Wy h2
theorem Yai (I:Inv X pins σ H s) {l:Yu} (hc:X0 X σ l) {p:Str×Addr×V} (hp:p∈l):H p.2.1=none∧∃ o u,s.heap.get? p.2.1=some o∧Ys p.2.2 u∧s.heap.IsCell p.2.1 (some u):=by
 obtain ⟨i,h1,h2,h3,h4⟩:=hc.2 p hp
 obtain ⟨m,hn,hl⟩:=I.loc
 obtain ⟨u,r,lk⟩:=hl i p.1 p.2.2 h1 h2 (.inr (.inl h3))
 rcases lk with ⟨k,_⟩ | ⟨_,c,hc,hcell⟩
 ·rw [h3] at k;cases k
 ·rw [h4] at hc
  cases hc
  obtain ⟨o,e1,e2⟩:=id hcell
  exact ⟨I.freeC p.1 p.2.1 h4,o,u,e1,r,hcell⟩
theorem Yaj (I:Inv X pins σ H s):∀ {l:Yu},X0 X σ l→UV H (X2 H s.heap l) l∧Lent H (X2 H s.heap l) s.heap l.as∧HOk X.prog X.w (X2 H s.heap l) s.heap
 | [],_=>⟨⟨(fun p hp=>nomatch hp),fun _ _=>rfl⟩,⟨(fun b hb=>nomatch hb),fun _ _=>rfl⟩,I.hok⟩
 | p::l,h=>by
  have nd':=List.nodup_cons.mp h.1
  obtain ⟨⟨a1,a2⟩,⟨b1,b2⟩,ok⟩:=Yaj I (l:=l) ⟨nd'.2,fun q hq=>h.2 q (.tail _ hq)⟩
  obtain ⟨n,o,u,e,r,hcell⟩:=Yai I h (.head _)
  have hz:X2 H s.heap (p::l)=upd (X2 H s.heap l) p.2.1 (.frz o (WE p.2.1 p.2.2)):=by
   show (match s.heap.get? p.2.1 with | some o=>_ | none=>_)=_
   rw [e]
  have hne:∀ q∈l,q.2.1≠p.2.1:=fun q hq z=>nd'.1 (by
   have:q.2.1∈Yu.as l:=List.mem_map_of_mem (f:=fun p:Str×Addr×V=>p.2.1) hq
   rw [z] at this
   exact this)
  rw [hz]
  refine ⟨⟨fun q hq=>?_,fun b hb=>?_⟩,⟨fun b hb=>?_,fun b hb=>?_⟩,ok.track ((Wy nd'.1).trans n) ⟨e,Ycx r hcell⟩⟩
  ·rcases List.mem_cons.mp hq with rfl | hq
   ·exact ⟨o,Yc,n⟩
   ·obtain ⟨o',y1,y2⟩:=a1 q hq
    exact ⟨o',by rw [Yb (hne q hq)];exact y1,y2⟩
  ·rw [Yb fun z=>hb (by rw [z];exact .head _)]
   exact a2 b fun z=>hb (.tail _ z)
  ·by_cases z:b=p.2.1
   ·subst z
    exact ⟨o,_,Yc,e,n⟩
   ·rw [Yb z]
    have:b∈Yu.as l:=by
     rcases List.mem_cons.mp (show b∈p.2.1::Yu.as l from hb) with y | y
     ·exact absurd y z
     ·exact y
    exact b1 b this
  ·rw [Yb fun z=>hb (by rw [z];exact .head _)]
   exact b2 b fun z=>hb (.tail _ z)
theorem Qg (I:Inv X pins σ H s) {l:Yu} (hc:X0 X σ l) (hfn:∀ x,X.fn x=true) {b:Addr} (hb:b∈l.as):X.s₀.heap.objs.size≤b∧b≠X.env.locals:=by
 obtain ⟨p,hp,rfl⟩:=Wm hb
 obtain ⟨i,h1,h2,h3,h4⟩:=hc.2 p hp
 exact ⟨I.ok.cab _ _ (hfn _) h4,I.cne _ _ h4⟩
theorem YdN (I:Inv X pins σ H s) (hs:X.stack=X.env::X.outer) (hf:X.env.frame=some X.env.locals) {l:Yu} (hc:X0 X σ l) (hfn:∀ x,X.fn x=true):∀ b∈l.as,b∉frs X.stack:=fun b hb z=>by
 obtain ⟨n1,n2⟩:=Qg I hc hfn hb
 rw [hs] at z
 unfold frs at z
 rw [List.filterMap_cons,hf] at z
 rcases List.mem_cons.mp z with z | z
 ·exact n2 z
 ·obtain ⟨_,o,e,_⟩:=I.ok.funs.mem z
  exact absurd (Nat.lt_of_lt_of_le (Heap.lt_size e) n1) (Nat.lt_irrefl _)
end
section
variable {X:Cx} {CX:CXT} {k:Nat} {f:Addr} {fd:FuncData} {ps:List Str} {sp:Sp} {E:XK} {pins:List (Addr×Obj)} {σ:St} {H:Hp} {s:Shared} {Q:VK} {us:List Value} {vs:List V} {l:Yu}
end
def Yu.Z (l:Yu) (H:Hp):Prop:=∀ p∈l,∃ o,H p.2.1=some (.frz o (WE p.2.1 p.2.2))
def ClZ (H:Hp) (f c:Addr) (fd:FuncData) (qual:Str) (l:Yu):Prop:=H f=some (FnO f fd)∧H c=some (CdO c qual)∧l.Z H
section
variable {P:Program} {w:World} {K:PySem.W.Frag} {mg:Str→Option Value} {base:Heap} {N ps:List Str} {qual:Str} {scope:Scope} {f c:Addr} {A:Around} {outer:List Env} {s:Shared} {H:Hp} {l:Yu} {cd:Value}
theorem YbX {Q:VK} {v:V} {u:Value} {σ':St} {H':Hp} {s':Shared} (e0:Env0 P w K mg base A outer s H) (hin:l.Z H) (J:Inv (YaY P w K mg base N qual scope f cd l.cl A outer s (off H l.as)) [] σ' H' s') (hlk:∀ p∈l,l.cl.lookup p.1=some p.2.1) (rv:Ys v u) (q:(∀ c∈l.as,H' c=none)→Q v (on H' H l.as)) :
  CE outer P w H s Q u s':=by
 have un:=J.base
 have zc:∀ {b:Addr},b∈l.as→∃ o u,H b=some (.frz o u):=fun hm=>by
  obtain ⟨p,hp,rfl⟩:=Wm hm
  obtain ⟨o,z⟩:=hin p hp
  exact ⟨o,_,z⟩
 have nin:∀ {b:Addr},H b=none→b∉l.as:=fun hb hm=>by
  obtain ⟨o,u,z⟩:=zc hm
  rw [z] at hb;cases hb
 have out:∀ {b:Addr} {o:HO},H b=some o→(∀ x u,o ≠ .frz x u)→b∉l.as:=fun hb no hm=>by
  obtain ⟨o,u,z⟩:=zc hm
  rw [z] at hb
  exact no _ _ (Option.some.inj hb).symm
 have freeC:∀ c∈l.as,H' c=none:=fun c hc=>by
  obtain ⟨p,hp,rfl⟩:=Wm hc
  exact J.freeC p.1 p.2.1 (hlk p hp)
 refine ⟨v,on H' H l.as,J.os,J.bare,⟨fun b o e n hb hx=>un.keep b o e (XZ n) hb hx,fun b o e n hb hx=>un.slot b o e (XZ n) hb hx,fun b o e n hx=>?_,fun b o e hx=>un.there b o e hx,fun b xs e=>?_,fun b o u e=>?_,fun b ps e=>?_⟩,fun b o e=>?_,rv,q freeC⟩
 ·rw [X8 (nin n)]
  exact un.free b o e (XZ n) hx
 ·have h1:=out e fun _ _ z=>by cases z
  rw [X8 h1]
  exact un.tups b xs ((YT h1).trans e)
 ·by_cases hb:b∈l.as
  ·rw [YaX hb];exact e
  ·rw [X8 hb]
   exact un.frzs b o u ((YT hb).trans e)
 ·have h1:=out e fun _ _ z=>by cases z
  rw [X8 h1]
  exact un.tbls b ps ((YT h1).trans e)
 ·by_cases hb:b∈l.as
  ·rw [YaX hb] at e
   obtain ⟨p,hp,rfl⟩:=Wm hb
   obtain ⟨ob,z⟩:=hin p hp
   rw [z] at e
   cases e
   obtain ⟨ho,y1,y2,y3⟩:=e0.hok _ _ z
   have hk:=un.keep _ _ ho (Vf hb) (fun hf=>by have:=e0.frf _ hf;rw [z] at this;cases this) (by intro z;exact absurd (show p.2.1∈([]:List Addr) from z) (by simp))
   exact ⟨hk,y3 _ _ y1 fun o q=>by rw [ho] at q;cases q;exact hk,⟨ob,hk⟩,y3⟩
  ·rw [X8 hb] at e
   refine (J.hok b o e).stay (fun _ _ _ q=>q) (fun c q=>?_) fun c xs q=>?_
   ·rw [X8 fun hc=>?_]
    ·exact q
    ·rw [freeC c hc] at q;cases q
   ·rw [X8 fun hc=>?_]
    ·exact q
    ·rw [freeC c hc] at q;cases q
end
theorem Gx.RawT.fnX {g:Gx} {k:Nat} {x qual:Str} {st:Stmt} {N ps:List Str} {c:Addr} {sp:Sp} (R:g.RawT x qual st ps c) (S:FnScope N ps (Yi st)) (len:∀ vs H Q E,sp vs H Q E→vs.length=ps.length)
  (b:∀ (f:Addr) (A:Around) (outer:List Env) (s:Shared) (H:Hp) (vs:List V) (Q:VK) (E:XK),Room k (g.cxX N qual st f (.ref c) A outer s H E).A→sp vs H Q E →
   ∃ t,PSs (g.cxX N qual st f (.ref c) A outer s H E) (Yy st) t∧t { nx:=fun _ H'=>Q .non H',rt:=Q } (Xw N vs) H):g.FnX (k+1) x ps sp:=by
 obtain ⟨f,fd,F,bd,hm,hc⟩:=R
 refine ⟨f,fd,?_,bd,F.kp,hm⟩
 obtain ⟨oc,od,kV,doc,pm,an,cdv,ct,osl,rfl,lk,hcd⟩:=F.ex
 have hc':cdv = .ref c:=hc
 subst hc'
 exact UO lk hcd S len fun A outer s H vs Q E hr h=>b f A outer s H vs Q E hr h
end L2
namespace L2
open PySem
section
variable {src:List (Option Nat)} {te:TE} {σ:St} {H:Hp} {Q:VK}
end
end L2
namespace PySem
section
variable {prog:Program} {w:World} {A:Around} {E:Value→Shared→Prop} {s:Shared} {l:Addr} {xs:Array (Int×Tok)}
end
end PySem
namespace HT
open PySem PySem.Spec PyProof.Rows
variable {prog:Program} {w:World} {A:Around} {E:Value→Shared→Prop} {s:Shared}
end HT
namespace L2
open PySem PySem.Spec PyProof.Rows
section
variable {X:Cx} {e st:Expr} {te ts:TE} {pos p2:Pos} {K:PySem.W.Frag}
end
end L2
namespace L2
open PySem
noncomputable def sm (a b:PyData):Bool:=@decide (a=b) (Classical.propDecidable _)
abbrev Say:=Except Str PyData
def Uh:List PyData→Option Int
 | []=>some 0
 | .int i::r=>(Uh r).map (i+·)
 | _::_=>none
def take (mk:Str) (s:Say) (f:PyData→Option α):Except Str α:=match s with
 | .error m => .error m
 | .ok d=>match f d with
  | some a => .ok a
  | none => .error mk
structure IB (n:Nat) (i:Int):Prop where
 h:i.natAbs<2^(200*2^n)
mutual
def hb:PyData→Prop
 | .list xs=>xs.length≤64∧hbs xs
 | .tuple xs=>xs.length≤64∧hbs xs
 | .str x=>x.length≤64
 | .int i=>IB 0 i
 | .none=>True
 | .bool _=>True
 | .dict _=>False
def hbs:List PyData→Prop
 | []=>True
 | d::ds=>hb d∧hbs ds
end
theorem VY:∀ {xs:List PyData} {s:Int},hbs xs→Uh xs=some s→s.natAbs≤xs.length*2^200
 | [],s,_,e=>by cases e;simp
 | .int i::xs,s,h,e=>by
  simp only [Uh,Option.map_eq_some_iff] at e
  obtain ⟨z,e1,rfl⟩:=e
  have h1:=VY h.2 e1
  have h2:=(show IB 0 i from h.1).h
  have h3:=Int.natAbs_add_le i z
  rw [Nat.pow_zero,Nat.mul_one] at h2
  rw [List.length_cons,Nat.add_mul,Nat.one_mul]
  omega
 | .none::_,_,_,e=>by cases e
 | .bool _::_,_,_,e=>by cases e
 | .str _::_,_,_,e=>by cases e
 | .list _::_,_,_,e=>by cases e
 | .tuple _::_,_,_,e=>by cases e
 | .dict _::_,_,_,e=>by cases e
end L2
namespace L2
open PySem PySem.Spec PyProof.Rows
section
variable {X:Cx} {k:Nat}
end
mutual
def cnt:PyData→Nat
 | .list xs=>YH xs+1
 | .tuple xs=>YH xs
 | .dict _=>0
 | .none=>0
 | .bool _=>0
 | .int _=>0
 | .str _=>0
def YH:List PyData→Nat
 | []=>0
 | d::ds=>cnt d+YH ds
end
def sb:Nat→Nat
 | 0=>60
 | n+1=>4*sb n+11
end L2
namespace L2
open PySem PySem.Spec PyProof.Rows
section
variable {M:Model} {A:Around} {E:Value→Shared→Prop} {s:Shared} {Q:Value→Shared→Prop}
end
section
variable {X:Cx}
end
section
variable {g:Gx} {X:Cx} {k j:Nat} {f c:Str} {ps:List Str} {sp:Sp} {e:Expr} {es:List Expr} {t:TA} {ts:TS} {b₀:Stmt} {suite:List Stmt} {cv:Value} {kk:Nat} {fp cp hpos apos cpos bpos mpos pos:Pos}
end
end L2
set_option maxHeartbeats 4000000
namespace PySem.W
open PySem PySem.Calls PyProof.Rows
section sort
variable {f:Nat→Nat→Bool} {n:Nat}
structure KOrd (f:Nat→Nat→Bool) (n:Nat):Prop where
 asy:∀ i j,i<n→j<n→f i j=true→f j i=false
 tr:∀ i j k,i<n→j<n→k<n→f j i=false→f k j=false→f k i=false
variable (O:KOrd f n) (h0:0<n)
include O h0
end sort
end PySem.W
set_option maxHeartbeats 4000000
namespace L2
open PySem PySem.Spec PyProof.Rows PySem.W
section
variable {prog:Program} {w:World} {A:Around} {E:Value→Shared→Prop} {s:Shared} {f:Nat→Nat→Bool} {κ:SortKind} {vs:List Value}
end
section
variable {X:Cx}
end
end L2
set_option maxHeartbeats 4000000
namespace L2
open PySem PySem.Spec PyProof.Rows
section
variable {X:Cx}
end
section
variable {src:List (Option Nat)} {te:TE} {σ:St} {Q:VK}
end
end L2
set_option maxHeartbeats 4000000
namespace L2
open PySem PySem.Spec PyProof.Rows
section
open PySem.SeqAt
open PySem.AutoSeq1 (wpAny_loadPart')
open PySem.MeetsSeq PySem.MeetsSeq2 PySem.MeetsSeq3
end
end L2
set_option maxHeartbeats 4000000
namespace L2
open PySem PySem.Spec PyProof.Rows
section
open PySem.SeqAt
open PySem.MeetsSeq PySem.MeetsSeq2 PySem.MeetsSeq3
variable {X:Cx}
end
end L2
set_option maxHeartbeats 4000000
namespace L2
open PySem PySem.Spec PyProof.Rows PySem.W
section
variable {prog:Program} {w:World} {A:Around} {E:Value→Shared→Prop} {s:Shared} {F:Nat→Nat→Bool} {κ:SortKind} {vs ks:List Value} {f:Value} {J:Shared→Prop} {a kS:Addr}
end
end L2
set_option maxHeartbeats 4000000
namespace L2
open PySem PySem.Spec PyProof.Rows PySem.W
open PySem.SeqAt
section
variable {prog:Program} {w:World} {A:Around} {s:Shared}
end
end L2
set_option maxHeartbeats 4000000
namespace L2
open PySem PySem.Spec PyProof.Rows PySem.W
section
variable {X:Cx} {g:Gx}
end
end L2
namespace L2
open PySem
end L2
namespace L2
open PySem PySem.Spec PyProof.Rows
def Gx.RawDX (g:Gx) (x qual:Str) (st:Stmt) (ps:List Str) (dvs:List V):Prop:=∃ f fd T ds,FunD g.K x qual st f fd T∧Ym dvs ds∧YW g.K fd ps ds∧YW g.K fd ps []∧g.mg x=some (.ref f)
def Gx.FnDX (g:Gx) (k:Nat) (x:Str) (ps:List Str) (dvs:List V) (sp:Sp):Prop:=∃ f fd ds,FnOk g.P g.w g.K g.mg g.base (CXF g.P g.w) k f fd ps sp∧Ym dvs ds∧YW g.K fd ps ds∧YW g.K fd ps []∧PySem.W.keepIn g.K (.ref f)=true∧g.mg x=some (.ref f)
section
variable {g:Gx} {x qual:Str} {st:Stmt} {N ps:List Str} {dvs:List V} {sp:Sp} {j k:Nat}
theorem Gx.RawDX.fnDX (R:g.RawDX x qual st ps dvs) (S:FnScope N ps (Yi st)) (len:∀ vs H Q E,sp vs H Q E→vs.length=ps.length) (b:Yda g k N qual st sp):g.FnDX (k+1) x ps dvs sp:=by
 obtain ⟨f,fd,T,ds,F,hv,bd,b0,hm⟩:=R
 refine ⟨f,fd,ds,?_,hv,bd,b0,F.kp,hm⟩
 obtain ⟨oc,od,kV,doc,pm,an,cdv,ct,osl,rfl,lk,hcd⟩:=F.ex
 exact UO lk hcd S len fun A outer s H vs Q E hr hsp=>b f cdv A outer s H vs Q E hr hsp
theorem Gx.FnDX.mono (F:g.FnDX j x ps dvs sp) (h:j≤k):g.FnDX k x ps dvs sp:=by
 obtain ⟨f,fd,ds,F,r⟩:=F
 exact ⟨f,fd,ds,F.mono h,r⟩
theorem Gx.FnDX.full (F:g.FnDX k x ps dvs sp):g.FnX k x ps sp:=by
 obtain ⟨f,fd,ds,F,_,_,b,kp,hm⟩:=F
 exact ⟨f,fd,F,b,kp,hm⟩
end
theorem YcM {K:PySem.W.Frag} {h:Heap} {mg:Str→Option Value} {f T:Addr} {x:Str} {st:Stmt} {oc kV dc pm cd ct:Value} {od an:Option Addr} {sl:Array (Option Value)} {o:Obj} {items:Array Value} {n:Nat} (X:K.In h) (G:h.Ns mainGlobals mg) (ps:List Str) (dvs:List V) (nb:Nat)
  (a:PySem.W.nsIn K mainGlobals x=some (some (.ref f))) (l:K.lookup f=some ⟨oc,od,.func (PySem.W.fnOf x x (YN st) (Yy st) (Yi st) (.ref T) kV dc pm an cd ct),sl⟩) (c:PySem.W.codeIn K cd x=true) (k:PySem.W.keepIn K (.ref f)=true)
  (t:K.lookup T=some o) (s:o.data = .seq items n) (v:Ym dvs items.toList) (e:nb+items.toList.length=ps.length)
  (b:∀ (us:List Value),us.length=nb→∃ kk,bindArgs (PySem.W.fnOf x x (YN st) (Yy st) (Yi st) (.ref T) kV dc pm an cd ct) ⟨us,[]⟩=seqItems? (.ref T) >>= kk∧kk (some items)=pure (ps.zip (us++items.toList)))
  (b0:∀ (us:List Value),us.length=ps.length→∃ kk,bindArgs (PySem.W.fnOf x x (YN st) (Yy st) (Yi st) (.ref T) kV dc pm an cd ct) ⟨us,[]⟩=seqItems? (.ref T) >>= kk∧kk (some items)=pure (ps.zip us)) :
  ∀ P w base,(Gx.mk P w K mg base).RawDX x x st ps dvs:=fun P w base =>
 ⟨f,_,T,items.toList,⟨⟨oc,od,kV,dc,pm,an,cd,ct,sl,rfl,l,c⟩,k⟩,v,fun s' us hK hl=>by
  have hn:us.length=nb:=by rw [List.length_append] at hl;omega
  obtain ⟨kk,h1,h2⟩:=b us hn
  exact PySem.W.binds_K hK rfl t s h1 h2,fun s' us hK hl=>by
  rw [List.append_nil] at hl ⊢
  obtain ⟨kk,h1,h2⟩:=b0 us hl
  exact PySem.W.binds_K hK rfl t s h1 h2,PySem.W.mg_of X G a⟩
abbrev TBd:=(St→Hp→Prop)→XK→St→Hp→Prop
def PB (X:Cx) (b:List Stmt) (t:TBd):Prop:=∀ (pins:List (Addr×Obj)) (s:Shared) (σ:St) (H:Hp) (nx:St→Hp→Prop) (E:XK) (xh:Value→Shared→Prop) (Qn:Flow→Shared→Prop),Inv X pins σ H s →
 (∀ H1 s1 e s',Inv X pins σ H1 s1→CXF X.prog X.w X.stack H1 s1 E e s'→xh e s')→(∀ σ' H' s',Inv X pins σ' H' s'→nx σ' H'→Qn .next s')→t nx E σ H→wpAny (model X.prog X.w) X.A (execs b X.env) Qn xh s
def tBif (c:TT) (t u:TBd):TBd:=fun nx E σ H=>c σ H fun b H1=>if b=true then t nx E σ H1 else u nx E σ H1
def Ydb (K:PySem.W.Frag) (cv:Value) (t:TBd) (j:Nat) (ts:TS):TS:=fun D σ H=>t D.nx (fun cls dc H2=>PySem.W.exmOne K cls cv=some true∧∀ a,H2 a=none→ts (D.gone j) (σ.set j (some (.ref a))) (upd H2 a (Wa a cls dc))) σ H
section
variable {g:Gx} {X:Cx} {k jj i j:Nat} {x f c n:Str} {ps:List Str} {dvs:List V} {sp:Sp} {e:Expr} {es:List Expr} {t:TA} {ts:TS} {b₀:Stmt} {suite body:List Stmt} {cv:Value} {fp px cp hpos apos cpos pos:Pos}
theorem pb_if {ce:Expr} {a b:List Stmt} {tc:TT} {ta tb:TBd} (hc:PT X.nox ce tc) (ha:PB X a ta) (hb:PB X b tb):PB X [.If ce a b pos] (tBif tc ta tb):=by
 intro pins s σ H nx E xh Qn I hx hn h
 refine wpAny_execs_cons ?_
 refine wpAny_If (wpAny_mono (hc pins s σ H _ (I.wish _) h) (fun d s1 ⟨H1,I1,q1⟩=>?_) fun _ _ z=>z.elim)
 have I1:=I1.unwish
 cases d with
 | true=>exact ha pins s1 σ H1 nx E xh _ I1 hx (fun σ' H' s' I' q'=>wpAny_execs_nil (hn σ' H' s' I' q')) q1
 | false=>exact hb pins s1 σ H1 nx E xh _ I1 hx (fun σ' H' s' I' q'=>wpAny_execs_nil (hn σ' H' s' I' q')) q1
theorem YdO {tb:TBd} (hb:PB X body tb) (hN:X.N.Nodup) (hj:X.N[j]?=some n) (hk:X.env.scope.names.lookup n=some .local) (hcm:g.mg c=some cv) (hsu:∀ a,PSs (X.caught a) (b₀::suite) ts)
  (hX:X.gx=g) (hs:X.stack=X.env::X.outer) (hf:X.env.frame=some X.env.locals) (hc:Gl X c) (hdb:(c==("__debug__":Str))=false) :
  PS X (.Try body [.ExceptHandler (some (.Name c cp)) (some n) (b₀::suite) hpos] [] [] pos) (Ydb X.K cv tb j ts):=by
 subst hX
 intro pins s σ H D I h
 refine wpAny_Try_except ?_
 exact hb pins s σ H D.nx _ _ _ I (fun H1 s1 e s' I1 hq=>I1.catchAs hs hf hN hj hk hq hsu hc hcm hdb) (fun σ' H' s' I' q=>wpAny_execs_nil ⟨σ',H',I',q⟩) h
end
theorem YcN {P:Program} {w:World} {K:PySem.W.Frag} {mg:Str→Option Value} {base:Heap} {k:Nat} {f c:Addr} {name qual:Str} {params:Arguments} {body:List Stmt} {scope:Scope} {doc pm ctv:Value} {N ps:List Str} {l:Yu} {sp:List V→Hp→VK→Prop}
  (S:ClScope N ps (l.map (·.1)) scope) (hnd:l.as.Nodup) (len:∀ vs H Q,sp vs H Q→vs.length=ps.length)
  (hbody:∀ (A:Around) (outer:List Env) (s:Shared) (H:Hp) (vs:List V) (Q:VK),Room k (A.deeper (PySem.W.envX qual scope s.heap.objs.size f (.ref c) l.cl))→sp vs H Q →
   ∃ t,PSs (YaY P w K mg base N qual scope f (.ref c) l.cl A outer s H) body t∧t { nx:=fun _ H'=>Q .non H',rt:=Q } (VV N vs l.vs) H) :
  FnOk P w K mg base CX0 (k+1) f (PySem.W.fnX name qual params body scope l.cl .none .none doc pm none (.ref c) ctv) ps
   (fun vs H Q _=>ClZ H f c (PySem.W.fnX name qual params body scope l.cl .none .none doc pm none (.ref c) ctv) qual l∧sp vs (off H l.as) fun v H'=>(∀ c∈l.as,H' c=none)→Q v (on H' H l.as)):=by
 refine ⟨fun vs H Q E h=>len _ _ _ h.2,fun A outer s H args us vs Q E hr e0 hb r hsp=>?_⟩
 obtain ⟨⟨hf,hc,hin⟩,hsp⟩:=hsp
 have hl:=len _ _ _ hsp
 have lim:s.heap.NoLimit:=e0.mod.nolimit.keeps fun b o e=>(e0.bs b o e).1
 have hfo:=(e0.hok _ _ hf).1
 have hco:s.heap.CodeRec (.ref c) qual:=(e0.hok _ _ hc).1
 refine codeAny_call_function hr.depth hfo rfl S.co S.gen rfl hco (hb _ _ _ _ ?_)
 refine wpAny_newFunctionEnv S.nocell (fun y hy=>S.par y.1 (List.of_mem_zip hy).1) (fun h₁ hns hsb=>?_) S.kind
 have hk₁:∀ b o,s.heap.get? b=some o→h₁.get? b=some o:=fun b o e=>hsb.extBut b o (Nat.ne_of_lt (Heap.lt_size e)) (Heap.get?_push_of_some _ e)
 refine ⟨lim.keeps hk₁,codeAny_func ?_⟩
 obtain ⟨t,ht,hq⟩:=hbody A outer s (off H l.as) vs _ (hr.deeper _) hsp
 have zc:∀ b∈l.as,∃ o u,H b=some (.frz o u):=fun b hm=>by
  obtain ⟨p,hp,rfl⟩:=Wm hm
  obtain ⟨o,z⟩:=hin p hp
  exact ⟨o,_,z⟩
 have I:=YaZ (cd := .ref c) (qual:=qual) (f:=f) (tk:=s.toks+(ps.zip us).length) S hnd hr.hd e0 hl r (fun p hp=>by
  obtain ⟨o,z⟩:=hin p hp
  exact (e0.hok _ _ z).2.1) (VB e0.hok zc) hns hk₁
 have lk:=Qb (l:=l) (by rw [← S.suf];exact S.nd.sublist (List.drop_sublist _ _))
 refine wpAny_mono (ht [] _ _ _ _ I hq) (fun fl s' hs=>?_) fun e s' hs=>hs.elim
 cases fl with
 | ret u =>
  obtain ⟨v,σ',H',J,rv,q⟩:=hs
  exact YbX e0 hin J lk rv q
 | next =>
  obtain ⟨σ',H',J,q⟩:=hs
  exact YbX (v:=V.non) (u:=Value.none) e0 hin J lk rfl q
 | brk =>
  obtain ⟨_,_,_,q⟩:=hs
  exact False.elim q
 | cont =>
  obtain ⟨_,_,_,q⟩:=hs
  exact False.elim q
end L2
namespace L2
open PySem PySem.Spec PyProof.Rows
open PySem.Builtin PySem.Builtin.Str
section
variable {prog:Program} {w:World} {A:Around} {E:Value→Shared→Prop} {s:Shared} {x y z:Str} {t u v k:Tok} {Q:Value→Shared→Prop}
end
section
variable {X:Cx}
end
section
variable {X:Cx} {K:PySem.W.Frag}
end
end L2
set_option maxHeartbeats 4000000
namespace L2
open PySem PySem.Spec PyProof.Rows PySem.W
section
variable {prog:Program} {w:World} {A:Around} {E:Value→Shared→Prop} {s:Shared}
end
section
variable {prog:Program} {w:World} {A:Around} {R:Result→Shared→Prop} {I:Addr} {fp wr:List Addr} {G:Array GenState→Array GenState→Prop} {n:Nat} {P:Nat→Value→Prop} {St:Nat→Shared→Prop} {bt:Bool}
end
section
variable {prog:Program} {w:World} {A:Around} {E:Value→Shared→Prop} {s:Shared}
end
section
variable {prog:Program} {w:World} {A:Around} {E:Value→Shared→Prop} {s:Shared} {I a:Addr} {fst:Value} {i ep:Nat} {o:Obj} {es:Array (Int×Value)} {t:SetTable}
end
section
variable {prog:Program} {w:World} {A:Around} {E:Value→Shared→Prop} {s:Shared}
end
section
variable {prog:Program} {w:World} {A:Around} {E:Value→Shared→Prop} {s:Shared}
end
section
variable {X:Cx}
end
end L2
set_option maxHeartbeats 4000000
namespace L2
open PySem PySem.Spec PyProof.Rows PySem.W
section
variable {prog:Program} {w:World} {A:Around} {E:Value→Shared→Prop} {s:Shared}
end
section
variable {X:Cx} {pos:Pos}
end
end L2
namespace L2
open PySem PySem.Spec PyProof.Rows PySem.W
section
variable {X:Cx}
end
end L2
namespace L2
open PySem PySem.Spec PyProof.Rows PySem.W
section
variable {X:Cx}
end
section
variable {X:Cx} {st:Stmt} {YQ:List Stmt} {t:TS} {u:(St→V→Hp→Prop)→St→Hp→Prop}
end
end L2
namespace L2
open PySem PySem.Spec PyProof.Rows
def Qh (X:Cx) (sp:Sp) (dvs:List V) (t:TA) (i:Nat):TBd:=fun nx E σ H=>t σ H fun vs H1=>∃ l,X0 X σ l∧((∀ c∈l.as,H1 c=none)→∀ Hz,UV H1 Hz l→sp (vs++dvs) Hz (fun v H'=>nx (σ.set i (some v)) (off H' l.as)) fun c d H'=>E c d (off H' l.as))
section
variable {g:Gx} {X:Cx} {k jj i j:Nat} {x f c n:Str} {ps:List Str} {dvs:List V} {sp:Sp} {e:Expr} {es:List Expr} {t:TA} {fp px cp apos cpos pos:Pos}
theorem Uz {fa:Addr} {fd:FuncData} {ds:List Value} {Q:VK} {E:XK} {pins:List (Addr×Obj)} {σ:St} {H:Hp} {s:Shared} {xh:Value→Shared→Prop} (F:FnOk X.prog X.w X.K X.mg X.base (CXF X.prog X.w) jj fa fd ps sp) (hv:Ym dvs ds) (b:YW X.K fd ps ds) (kp:PySem.W.keepIn X.K (.ref fa)=true) (hm:X.mg f=some (.ref fa)) (hr:Room k X.A) (ha:PA X.nox (e::es) t) (hjk:jj≤k) (hg:Gl X f) (hdf:(f==("__debug__":Str))=false)
  (hs:X.stack=X.env::X.outer) (hf:X.env.frame=some X.env.locals) (hfn:∀ x,X.fn x=true)
  (he:starEach (e::es) X.env=(false,eval e X.env)::starEach es X.env) (hpl:(backTo cpos (starEach es X.env)).any (·.1)=false) (I:Inv X pins σ H s) (hx:∀ H1 s1 e s',Inv X pins σ H1 s1→CXF X.prog X.w X.stack H1 s1 E e s'→xh e s')
  (h:t σ H fun vs H1=>∃ l,X0 X σ l∧((∀ c∈l.as,H1 c=none)→∀ Hz,UV H1 Hz l→sp (vs++dvs) Hz (fun v H'=>Q v (off H' l.as)) fun c d H'=>E c d (off H' l.as))) :
  wpAny (model X.prog X.w) X.A (eval (.Call (.Name f fp) (e::es) [] cpos) X.env) (EP X pins σ Q) xh s:=by
 refine wpAny_Call_Name_kw (Wl I hg hm ?_ hdf)
 refine PySem.W.callWith_K (h₀:=X.base) I.ok.mod.kin kp (wpAny_mono (ha cpos pins s σ H _ (I.wish _) h) (fun us s1 hz=>?_) fun _ _ z=>z.elim) he hpl
 obtain ⟨vs,H1,I1,r,l,hc,q⟩:=hz
 have I1:=I1.unwish
 refine ⟨I1.kIn,?_⟩
 have q:=q fun c hcc=>by
  obtain ⟨p,hp,rfl⟩:=Wm hcc
  exact (Yai I1 hc hp).1
 obtain ⟨L1,L2,ok⟩:=Yaj I1 hc
 have nf:=YdN I1 hs hf hc hfn
 have hsp:=q _ L1
 have r2:Ym (vs++dvs) (us++ds):=r.append hv
 have hl:(us++ds).length=ps.length:=by rw [← r2.length];exact F.len _ _ _ _ hsp
 have e0:Env0 X.prog X.w X.K X.mg X.base X.A X.stack s1 (X2 H1 s1.heap l):=by
  have e:=I1.env0
  refine ⟨e.frames,e.mod,fun b o q=>⟨(e.bs b o q).1,?_⟩,e.bsz,e.funs,fun b q=>?_,ok,e.bare⟩
  ·rw [Wy fun z=>?_]
   ·exact (e.bs b o q).2
   ·have n1:=(Qg I1 hc hfn z).1
    have:=I1.ok.bsz
    exact absurd (Nat.lt_of_lt_of_le (Heap.lt_size q) (Nat.le_trans this n1)) (Nat.lt_irrefl _)
  ·rw [Wy fun z=>nf b z q]
   exact e.frf b q
 refine wpAny_call (codeAny_mono (F.run X.A X.stack s1 _ ⟨us,[]⟩ (us++ds) (vs++dvs) _ _ (hr.mono hjk) e0 (b s1 us I1.kIn hl) r2 hsp) fun r s' hq=>?_)
 cases r with
 | error e =>
  obtain ⟨a,cls,H',B,dc,rfl,os,bare,F,hd,q⟩:=hq
  exact hx H1 s1 _ s' I1 ⟨a,cls,off H' l.as,B,dc,rfl,os,bare,L2.fly F nf,hd,q⟩
 | ok fl =>
  cases fl with
  | ret u =>
   obtain ⟨v,H',os,bare,un,hok,rv,q⟩:=hq
   exact I1.after ⟨v,off H' l.as,os,bare,L2.un un hok nf,VB hok (L2.behind un),rv,q⟩
  | next=>exact False.elim hq
  | brk=>exact False.elim hq
  | cont=>exact False.elim hq
theorem YdP (F:g.FnX jj f ps sp) (hr:Room k X.A) (hN:X.N.Nodup) (hi:X.N[i]?=some x) (hx:Loc X.env.scope x) (ha:PA X.nox (e::es) t) (hjk:jj≤k:=by omega) (hX:X.gx=g:=by rfl) (hg:Gl X f:=by rfl) (hdf:(f==("__debug__":Str))=false:=by decide) (hs:X.stack=X.env::X.outer:=by rfl) (hf:X.env.frame=some X.env.locals:=by rfl) (hfn:∀ x,X.fn x=true:=by intro _;rfl)
  (he:starEach (e::es) X.env=(false,eval e X.env)::starEach es X.env:=by rfl) (hpl:(backTo cpos (starEach es X.env)).any (·.1)=false:=by rfl) (hsw:swapsWith (.Call (.Name f fp) (e::es) [] cpos) (some (.Name x px)) apos.line X.env=pure false:=by rfl) :
  PB X [.Assign [.Name x px] (.Call (.Name f fp) (e::es) [] cpos) apos] (Qh X sp [] t i):=by
 subst hX
 obtain ⟨fa,fd,F,b,kp,hm⟩:=F
 intro pins s σ H nx E xh Qn I hxx hn h
 refine wpAny_execs_cons ?_
 refine wpAny_Assign_Name (thn (Uz (Q:=fun v H2=>nx (σ.set i (some v)) H2) F .nil b kp hm hr ha hjk hg hdf hs hf hfn he hpl I hxx h) fun v s1 hz=>?_) hsw
 obtain ⟨y,H1,I1,r1,q1⟩:=hz
 exact XD I1 hN hi hx r1 (fun s2 I2=>wpAny_execs_nil (hn _ H1 s2 I2 q1)) (.inl (hfn _))
theorem YcO (F:g.FnDX jj f ps dvs sp) (hr:Room k X.A) (hN:X.N.Nodup) (hi:X.N[i]?=some x) (hx:Loc X.env.scope x) (ha:PA X.nox (e::es) t) (hjk:jj≤k:=by omega) (hX:X.gx=g:=by rfl) (hg:Gl X f:=by rfl) (hdf:(f==("__debug__":Str))=false:=by decide) (hs:X.stack=X.env::X.outer:=by rfl) (hf:X.env.frame=some X.env.locals:=by rfl) (hfn:∀ x,X.fn x=true:=by intro _;rfl)
  (he:starEach (e::es) X.env=(false,eval e X.env)::starEach es X.env:=by rfl) (hpl:(backTo cpos (starEach es X.env)).any (·.1)=false:=by rfl) (hsw:swapsWith (.Call (.Name f fp) (e::es) [] cpos) (some (.Name x px)) apos.line X.env=pure false:=by rfl) :
  PB X [.Assign [.Name x px] (.Call (.Name f fp) (e::es) [] cpos) apos] (Qh X sp dvs t i):=by
 subst hX
 obtain ⟨fa,fd,ds,F,hv,b,_,kp,hm⟩:=F
 intro pins s σ H nx E xh Qn I hxx hn h
 refine wpAny_execs_cons ?_
 refine wpAny_Assign_Name (thn (Uz (Q:=fun v H2=>nx (σ.set i (some v)) H2) F hv b kp hm hr ha hjk hg hdf hs hf hfn he hpl I hxx h) fun v s1 hz=>?_) hsw
 obtain ⟨y,H1,I1,r1,q1⟩:=hz
 exact XD I1 hN hi hx r1 (fun s2 I2=>wpAny_execs_nil (hn _ H1 s2 I2 q1)) (.inl (hfn _))
end
end L2
set_option maxHeartbeats 8000000
namespace KW
open PySem L2
def top (i:Nat):Stmt:=PySem.Challenge.pw_countgen_k61_too_many.main.body.getD i (.Pass ⟨0,0,0,0⟩)
abbrev Z2H:Stmt:=top 11
theorem Z42:FnScope ["shape","kind"] ["shape"] (Yi Z2H):=⟨rfl,rfl,rfl,by decide +kernel,rfl,by decide +kernel,by decide +kernel⟩
abbrev Z3x:Stmt:=top 22
theorem Ya7:FnScope ["blocks"] ["blocks"] (Yi Z3x):=⟨rfl,rfl,rfl,by decide +kernel,rfl,by decide +kernel,by decide +kernel⟩
abbrev Z2I:Stmt:=top 23
theorem Z0I:FnScope ["blocks","number","place","left","rest"] ["blocks","number"] (Yi Z2I):=⟨rfl,rfl,rfl,by decide +kernel,rfl,by decide +kernel,by decide +kernel⟩
abbrev Z1a:Stmt:=top 28
theorem Z3R:FnScope ["size"] ["size"] (Yi Z1a):=⟨rfl,rfl,rfl,by decide +kernel,rfl,by decide +kernel,by decide +kernel⟩
abbrev Z1I:Stmt:=top 39
theorem Qi:FnScope ["book","shape"] ["book","shape"] (Yi Z1I):=⟨rfl,rfl,rfl,by decide +kernel,rfl,by decide +kernel,by decide +kernel⟩
abbrev VC:Stmt:=top 41
theorem YbY:FnScope ["thing"] ["thing"] (Yi VC):=⟨rfl,rfl,rfl,by decide +kernel,rfl,by decide +kernel,by decide +kernel⟩
abbrev Z12:Stmt:=top 43
theorem Z3y:FnScope ["count","most"] ["count","most"] (Yi Z12):=⟨rfl,rfl,rfl,by decide +kernel,rfl,by decide +kernel,by decide +kernel⟩
abbrev Z2J:Stmt:=top 44
theorem QR:FnScope ["maker","size"] ["maker","size"] (Yi Z2J):=⟨rfl,rfl,rfl,by decide +kernel,rfl,by decide +kernel,by decide +kernel⟩
abbrev Ui:Stmt:=top 45
theorem YcP:FnScope ["judge","value"] ["judge","value"] (Yi Ui):=⟨rfl,rfl,rfl,by decide +kernel,rfl,by decide +kernel,by decide +kernel⟩
abbrev Z2K:Stmt:=top 47
theorem Z1J:FnScope ["judge","values","tries","value"] ["judge","values"] (Yi Z2K):=⟨rfl,rfl,rfl,by decide +kernel,rfl,by decide +kernel,by decide +kernel⟩
abbrev Uj:Stmt:=top 48
theorem Z1x:FnScope ["book","shape","judge","size","most","maker","sizes","values","each"] ["book","shape","judge","size","most"] (Yi Uj):=⟨rfl,rfl,rfl,by decide +kernel,rfl,by decide +kernel,by decide +kernel⟩
abbrev Z1K:Stmt:=top 50
theorem Qj:FnScope ["_law_found"] ["_law_found"] (Yi Z1K):=⟨rfl,rfl,rfl,by decide +kernel,rfl,by decide +kernel,by decide +kernel⟩
abbrev Z1s:Stmt:=top 51
theorem Z4i:FnScope ["_law_script","_law_k"] ["_law_script","_law_k"] (Yi Z1s):=⟨rfl,rfl,rfl,by decide +kernel,rfl,by decide +kernel,by decide +kernel⟩
abbrev Z1L:Stmt:=top 52
theorem Z3z:FnScope ["_law_cell","_law_many","_law_some"] ["_law_cell","_law_many"] (Yi Z1L):=⟨rfl,rfl,rfl,by decide +kernel,rfl,by decide +kernel,by decide +kernel⟩
abbrev Z1M:Stmt:=top 53
theorem Qk:FnScope ["_law_kind","_law_cell"] ["_law_kind","_law_cell"] (Yi Z1M):=⟨rfl,rfl,rfl,by decide +kernel,rfl,by decide +kernel,by decide +kernel⟩
abbrev Z1N:Stmt:=top 54
theorem Z1j:FnScope ["_law_number","_law_times","_law_found","_law_k"] ["_law_number","_law_times"] (Yi Z1N):=⟨rfl,rfl,rfl,by decide +kernel,rfl,by decide +kernel,by decide +kernel⟩
abbrev Z1O:Stmt:=top 55
theorem Z1k:FnScope ["_law_kind","_law_cell","_law_size","_law_count_here","_law_k"] ["_law_kind","_law_cell","_law_size"] (Yi Z1O):=⟨rfl,rfl,rfl,by decide +kernel,rfl,by decide +kernel,by decide +kernel⟩
abbrev Z18:Stmt:=top 56
theorem ZT:FnScope ["_law_book","_law_shape_here","_law_size","_law_most","_law_asked_here","_law_holds","_law_found","_law_error","e","_law_one"] ["_law_book","_law_shape_here","_law_size","_law_most"] (Yi Z18):=⟨rfl,rfl,rfl,by decide +kernel,rfl,by decide +kernel,by decide +kernel⟩
abbrev Z2L:Stmt:=top 57
theorem Z1p:FnScope ["_law_book","_law_shape_here","_law_size","_law_most","_law_total","_law_bound","_law_told"] ["_law_book","_law_shape_here","_law_size","_law_most","_law_total"] (Yi Z2L):=⟨rfl,rfl,rfl,by decide +kernel,rfl,by decide +kernel,by decide +kernel⟩
abbrev UW:Stmt:=top 58
theorem Xt:FnScope ["_law_script","_law_kind","_law_cell","_law_size","_law_book","_law_shape_here","_law_total","_law_k","_law_less","_law_other"] ["_law_script"] (Yi UW):=⟨rfl,rfl,rfl,by decide +kernel,rfl,by decide +kernel,by decide +kernel⟩
abbrev Z13:Stmt:=YC (top 38) 0
theorem Z3A:FnScope ["self","book"] ["self","book"] (Yi Z13):=⟨rfl,rfl,rfl,by decide +kernel,rfl,by decide +kernel,by decide +kernel⟩
abbrev Z14:Stmt:=YC (top 38) 1
theorem Z3B:FnScope ["self","shape"] ["self","shape"] (Yi Z14):=⟨rfl,rfl,rfl,by decide +kernel,rfl,by decide +kernel,by decide +kernel⟩
abbrev Z0W:Stmt:=YC (top 38) 3
theorem Z0J:FnScope ["self","shape","kind","parts"] ["self","shape"] (Yi Z0W):=⟨rfl,rfl,rfl,by decide +kernel,rfl,by decide +kernel,by decide +kernel⟩
abbrev Z0e:Stmt:=YC (top 29) 0
theorem Z1P:FnScope ["self","low","high"] ["self","low","high"] (Yi Z0e):=⟨rfl,rfl,rfl,by decide +kernel,rfl,by decide +kernel,by decide +kernel⟩
abbrev Z0f:Stmt:=YC (top 29) 1
theorem Z19:FnScope ["self","size","greatest"] ["self","size"] (Yi Z0f):=⟨rfl,rfl,rfl,by decide +kernel,rfl,by decide +kernel,by decide +kernel⟩
abbrev Z0g:Stmt:=YC (top 29) 2
theorem Z1Q:FnScope ["self","size","number"] ["self","size","number"] (Yi Z0g):=⟨rfl,rfl,rfl,by decide +kernel,rfl,by decide +kernel,by decide +kernel⟩
abbrev Z0r:Stmt:=YC (top 30) 0
theorem Z2l:FnScope ["self","signs"] ["self","signs"] (Yi Z0r):=⟨rfl,rfl,rfl,by decide +kernel,rfl,by decide +kernel,by decide +kernel⟩
abbrev Z0s:Stmt:=YC (top 30) 1
theorem Z2m:FnScope ["self","size"] ["self","size"] (Yi Z0s):=⟨rfl,rfl,rfl,by decide +kernel,rfl,by decide +kernel,by decide +kernel⟩
abbrev Z0t:Stmt:=YC (top 30) 2
theorem ZV:FnScope ["self","size","number","found","left","each"] ["self","size","number"] (Yi Z0t):=⟨rfl,rfl,rfl,by decide +kernel,rfl,by decide +kernel,by decide +kernel⟩
abbrev Z0u:Stmt:=YC (top 32) 0
theorem Z2n:FnScope ["self","part"] ["self","part"] (Yi Z0u):=⟨rfl,rfl,rfl,by decide +kernel,rfl,by decide +kernel,by decide +kernel⟩
abbrev Z0h:Stmt:=YC (top 32) 1
theorem Z1R:FnScope ["self","left"] ["self","left"] (Yi Z0h):=⟨rfl,rfl,rfl,by decide +kernel,rfl,by decide +kernel,by decide +kernel⟩
abbrev Z0v:Stmt:=YC (top 32) 2
theorem Z2o:FnScope ["self","size"] ["self","size"] (Yi Z0v):=⟨rfl,rfl,rfl,by decide +kernel,rfl,by decide +kernel,by decide +kernel⟩
abbrev Z0w:Stmt:=YC (top 32) 3
theorem ZC:FnScope ["self","size","number","things","left","rest","found"] ["self","size","number"] (Yi Z0w):=⟨rfl,rfl,rfl,by decide +kernel,rfl,by decide +kernel,by decide +kernel⟩
abbrev Z0K:Stmt:=YC (top 24) 0
theorem Z2M:FnScope ["self","parts"] ["self","parts"] (Yi Z0K):=⟨rfl,rfl,rfl,by decide +kernel,rfl,by decide +kernel,by decide +kernel⟩
abbrev Z0X:Stmt:=YC (top 24) 1
theorem Z3j:FnScope ["self","place","left"] ["self","place","left"] (Yi Z0X):=⟨rfl,rfl,rfl,by decide +kernel,rfl,by decide +kernel,by decide +kernel⟩
abbrev Z0L:Stmt:=YC (top 24) 2
theorem Z1l:FnScope ["self","size","place"] ["self","size"] (Yi Z0L):=⟨rfl,rfl,rfl,by decide +kernel,rfl,by decide +kernel,by decide +kernel⟩
abbrev Z0x:Stmt:=YC (top 24) 3
theorem Z1h:FnScope ["self","place","left","part"] ["self","place","left"] (Yi Z0x):=⟨rfl,rfl,rfl,by decide +kernel,rfl,by decide +kernel,by decide +kernel⟩
abbrev Z0M:Stmt:=YC (top 31) 0
theorem Z2N:FnScope ["self","parts"] ["self","parts"] (Yi Z0M):=⟨rfl,rfl,rfl,by decide +kernel,rfl,by decide +kernel,by decide +kernel⟩
abbrev Z0N:Stmt:=YC (top 31) 1
theorem Z2O:FnScope ["self","size"] ["self","size"] (Yi Z0N):=⟨rfl,rfl,rfl,by decide +kernel,rfl,by decide +kernel,by decide +kernel⟩
abbrev Z0O:Stmt:=YC (top 31) 2
theorem Zz:FnScope ["self","size","number","things","left","rest","place","part","found"] ["self","size","number"] (Yi Z0O):=⟨rfl,rfl,rfl,by decide +kernel,rfl,by decide +kernel,by decide +kernel⟩
abbrev Z1b:Stmt:=YC (top 21) 0
theorem Z3S:FnScope ["self","place","choice","rest"] ["self","place","choice","rest"] (Yi Z1b):=⟨rfl,rfl,rfl,by decide +kernel,rfl,by decide +kernel,by decide +kernel⟩
abbrev Z1c:Stmt:=YC (top 27) 0
theorem Z3T:FnScope ["self"] ["self"] (Yi Z1c):=⟨rfl,rfl,rfl,by decide +kernel,rfl,by decide +kernel,by decide +kernel⟩
abbrev Z0i:Stmt:=YC (top 27) 1
theorem Z1S:FnScope ["self","size"] ["self","size"] (Yi Z0i):=⟨rfl,rfl,rfl,by decide +kernel,rfl,by decide +kernel,by decide +kernel⟩
abbrev Z0y:Stmt:=YC (top 27) 1
theorem Z2p:FnScope ["self","size"] ["self","size"] (Yi Z0y):=⟨rfl,rfl,rfl,by decide +kernel,rfl,by decide +kernel,by decide +kernel⟩
abbrev Z0z:Stmt:=YC (top 27) 1
theorem Z2q:FnScope ["self","size"] ["self","size"] (Yi Z0z):=⟨rfl,rfl,rfl,by decide +kernel,rfl,by decide +kernel,by decide +kernel⟩
abbrev Z0P:Stmt:=YC (top 27) 1
theorem Z2P:FnScope ["self","size"] ["self","size"] (Yi Z0P):=⟨rfl,rfl,rfl,by decide +kernel,rfl,by decide +kernel,by decide +kernel⟩
abbrev Z0Y:Stmt:=YC (top 7) 0
theorem Z3k:FnScope ["self","count","most"] ["self","count","most"] (Yi Z0Y):=⟨rfl,rfl,rfl,by decide +kernel,rfl,by decide +kernel,by decide +kernel⟩
theorem Z3l {g:Gx} {C B:Addr} (R:g.RawX "TooMany" C "TooMany.__init__" Z0Y ["self","count","most"]) (b:BInit g "CountError" B) (xf:ExFl g.K C B) (xn_count:PySem.W.findIn g.K (.ref C) "count"=some none) (xn_most:PySem.W.findIn g.K (.ref C) "most"=some none):g.MaX "TooMany" C ["self","count","most"] ["count","most"]:=by
 refine R.maX Z3k (fun vs H Q E h=>YdM h) fun f_ cdv A outer s H vs Q E hr h=>?_
 refine ⟨_,Yf (YV (YcK b R.own (Ya (pv 0) (Ya YF Yd)))) (Yf (Yag xf xn_count (pv 0) (pv 1)) (Yh (Yag xf xn_most (pv 0) (pv 2)))),?_⟩
 exact spI_2 h
abbrev ZX:Stmt:=inDef Z18 1
theorem Z1B:ClScope ["_law_thing","_law_asked_here"] ["_law_thing"] ["_law_asked_here"] (Yi ZX):=⟨rfl,rfl,rfl,by decide +kernel,rfl,rfl,by decide,by decide +kernel,by decide +kernel,by decide +kernel,by decide +kernel⟩
abbrev ZB:Str:="_law_asked.<locals>._law_holds"
theorem Wz:((("_law_asked":Str)++(".<locals>.":Str))++("_law_holds":Str))=ZB:=by decide +kernel
abbrev ZF (cl:List (Str×Addr)) (c:Addr) (doc pm ctv:Value):FuncData:=PySem.W.fnX "_law_holds" ZB (YN ZX) (Yy ZX) (Yi ZX) cl .none .none doc pm none (.ref c) ctv
variable {g:Gx}
local macro_rules | `(tactic| walk_at "rd")=>`(tactic| simp (config:={ failIfUnchanged:=false,maxSteps:=10000000 }) only [L2.Xw,Yef,nox_K,List.map_cons,List.map_nil,List.length_cons,List.length_nil,List.cons_append,List.nil_append,List.replicate_succ,List.replicate_zero,Nat.zero_add,Nat.reduceAdd,Nat.reduceSub,Nat.sub_self,Y8,tIfS,Yc2,tOp,tC,W4,rI0,rI,rU,tUn,tRet,tRetN,Yat,Yc1,Yd4,tCont,tAsg,YM,V5,X4,VM,YaE,tCB,VN,tTry,Yel,Yek,sFld,tFld,YaG,YaF,Ends.gone,Ycv,tB,tAnd,tOr,tNot,YcZ,tOrV,Yc0,tIf,Yd8,Ydq,Yc3,tSl,Ybi,tAug,rIxL,rIxT,rSlL,tLst,tTup,V7,tRev,tLZ,Yc9,Yei,Yec,tDGet,sDPut,YdG,rInD,Yaa,YdF,rBits,rFind,rIn,tBM,tBM0,Q5,U6,rEq,rNe,Ydx,Y0,rCat,rSetL,gSub,ipI,YS,List.getD_cons_zero,List.getD_cons_succ,decide_true,not_true_eq_false,not_false_eq_true,
 exists_eq_left',exists_eq_left,exists_eq',exists_eq,exists_and_left,and_assoc,Option.some.injEq,V.int.injEq,V.bl.injEq,V.ref.injEq,V.str.injEq,List.getElem?_cons_zero,List.getElem?_cons_succ,List.set_cons_zero,List.set_cons_succ,List.cons.injEq,and_true,true_and,List.append_nil,decide_eq_true_eq,Bool.not_eq_true',decide_eq_false_iff_not,Bool.not_not,Bool.not_true,Bool.not_false,Bool.true_eq_false,Bool.false_eq_true,if_true,if_false,ite_true,ite_false])
theorem cm {i j:Int} {m n:Nat} (h1:i.natAbs<2^m) (h2:j.natAbs<2^n) (h:m+n≤100000000:=by decide):UQ i j:=⟨m,n,h1,h2,h⟩
theorem cpow {i j:Int} (h:0≤j∧j≤1000000∧i.natAbs<2^64:=by decide):CPow i j:=h
theorem few {n:Nat} (h:n≤100000):n≤sizeLine:=Nat.le_trans h (by decide)
def Z1y:Sp:=fun vs H Q _=>∃ i:Int,vs=[.int i]∧Q (.bl true) H
def Z2r (K:PySem.W.Frag):Sp:=fun vs H Q _=>∃ (a:Addr) (ns:List Int) (k:Nat),vs=[.ref a,.int k]∧SqL K H a (ns.map V.int)∧ns.length≤63∧Q (.int (ns.getD k 0)) H
theorem YdQ {ns:List Int} {k:Nat} (h:k<ns.length):atI (ns.map V.int) (k:Int)=some (.int (ns.getD k 0)):=Xm (by rw [List.getElem?_map,List.getElem?_eq_getElem h];simp [h])
theorem Ql {Z5 Zb Z7 Za Z8 Z6 Zc Z9 Z2 Z3 Z4 Z1 Z0:Addr} {c_law_asked P_law_asked:Addr} (R:g.Raw "_law_whole" "_law_whole" Z1K ["_law_found"]) (b_bool:g.mg "bool"=none) (b_int:g.mg "int"=none) (Zw:g.mg "isinstance"=none):g.Fn (1) "_law_whole" ["_law_found"] (Z1y):=by
 refine R.fn Qj (fun vs H Q E h=>by obtain ⟨i,rfl,q⟩:=h;rfl) fun f_ cdv A outer s H vs Q E hr h=>?_
 obtain ⟨i,rfl,q⟩:=h
 refine ⟨_,(@Yh _ _ _ (@Yl _ _ _ _ (@UZ _ _ _ _ _ _ _ (@YD _ _ _ _ _ _ _ _ _ _ Zw Xo (@Ya _ _ _ _ _ (pv 0) (@Ya _ _ _ _ _ (@WV _ _ _ _ ("int") b_int (by decide +kernel) (by rfl) (by rfl) (by decide) (by decide)) Yd (by rfl)) (by rfl)) (by decide +kernel) (by rfl) (by rfl) (by decide) (by decide) (by rfl) (by rfl)) (@UY _ _ _ _ _ (@Yd3 _ _ _ _ (@YD _ _ _ _ _ _ _ _ _ _ Zw Xo (@Ya _ _ _ _ _ (pv 0) (@Ya _ _ _ _ _ (@WV _ _ _ _ ("bool") b_bool (by decide +kernel) (by rfl) (by rfl) (by decide) (by decide)) Yd (by rfl)) (by rfl)) (by decide +kernel) (by rfl) (by rfl) (by decide) (by decide) (by rfl) (by rfl))))))),?_⟩
 walk_at "rd"
 exact ⟨_,rfl,_,.int _,true,rfl,iteT ⟨_,rfl,_,.int _,false,rfl,q⟩⟩
theorem Z4j {Z5 Zb Z7 Za Z8 Z6 Zc Z9 Z2 Z3 Z4 Z1 Z0:Addr} {c_law_asked P_law_asked:Addr} (R:g.Raw "_law_cell_at" "_law_cell_at" Z1s ["_law_script","_law_k"]) (b_len:g.mg "len"=none):g.Fn (1) "_law_cell_at" ["_law_script","_law_k"] (Z2r g.K):=by
 refine R.fn Z4i (fun vs H Q E h=>by obtain ⟨a,ns,k,rfl,hS,hl,q⟩:=h;rfl) fun f_ cdv A outer s H vs Q E hr h=>?_
 obtain ⟨a,ns,k,rfl,hS,hl,q⟩:=h
 refine ⟨_,(@Yf _ _ _ _ _ (@YO _ _ _ _ _ _ _ _ (@Yr _ _ _ _ _ _ _ _ op_lt (pv 1) (@YD _ _ _ _ _ _ _ _ _ _ b_len Yx (@Ya _ _ _ _ _ (pv 0) Yd (by rfl)) (by decide +kernel) (by rfl) (by rfl) (by decide) (by decide) (by rfl) (by rfl)) (Yv _)) (@Yh _ _ _ (@Yl _ _ _ _ (@YA _ _ _ _ _ _ _ YX (pv 0) (pv 1) (fun _ _=>rfl)))) Yt) (@Yh _ _ _ (@Yl _ _ _ _ Yj))),?_⟩
 walk_at "rd"
 refine ⟨_,.inl hS,?_⟩
 refine Vy (fun c=>?_) (fun c=>?_)
 ·have c':=c
  rw [List.length_map] at c'
  exact ⟨_,hS,_,YdQ (by omega),q⟩
 ·have c':=c
  rw [List.length_map] at c'
  rw [show ns.getD k 0=0 by simp [show ns.length≤k by omega]] at q
  exact q
def SameBut (p:Addr) (H H':Hp):Prop:=∀ q o,q≠p→H q=some o→H' q=some o
theorem SameBut.refl (p:Addr) (H:Hp):SameBut p H H:=fun _ _ _ h=>h
theorem SameBut.trans {p:Addr} {H H1 H2:Hp} (a:SameBut p H H1) (b:SameBut p H1 H2):SameBut p H H2:=fun q o n h=>b q o n (a q o n h)
theorem SameBut.upd {p:Addr} {H H':Hp} (a:SameBut p H H') (o:HO):SameBut p H (upd H' p o):=fun q u n h=>by rw [Yb n];exact a q u n h
inductive Sh | w (lo:Int) (span:Nat) | t (sg:List Nat)
def wc (span:Int) (k:Nat):Int:=if (if (1*2^k - 1:Int)<span then (1*2^k - 1:Int) else span) - 1*2^k / 2^1+1>0 then (if (1*2^k - 1:Int)<span then (1*2^k - 1:Int) else span) - 1*2^k / 2^1+1 else 0
def cnt:Sh→Nat→Int
 | .w _ span,k=>wc span k
 | .t sg,k=>(sg.length:Int)^k
def Sh.ok:Sh→Prop
 | .w _ _=>True
 | .t sg=>sg.length≤62
def mf (cl:Addr):Sh→List (Str×V)
 | .w lo span=>[("counts",.ref cl),("low",.int lo),("span",.int span)]
 | .t sg=>[("counts",.ref cl),("signs",.str (S sg))]
def mC (CW CT:Addr):Sh→Addr
 | .w _ _=>CW
 | .t _=>CT
def YH (f:Nat→Int) (n:Nat):List V:=(List.range n).map fun k=>V.int (f k)
theorem YI (f:Nat→Int) (n:Nat):(YH f n).length=n:=by simp [YH]
theorem Xf (f:Nat→Int) (n:Nat):YH f (n+1)=YH f n++[.int (f n)]:=by simp [YH,List.range_succ]
theorem Wo (f:Nat→Int) {n i:Nat} (h:i<n):atI (YH f n) (i:Int)=some (.int (f i)):=Xm (by simp [YH,h])
def Wi (CW CT:Addr) (H:Hp) (p:Addr) (sh:Sh) (cl:Addr) (n:Nat):Prop:=∃ dx,H p=some (.ins (mC CW CT sh) dx (mf cl sh))∧H cl=some (.lst (YH (cnt sh) n))
theorem ncl:¬ (("counts":Str)="low"):=by decide +kernel
theorem ncs:¬ (("counts":Str)="span"):=by decide +kernel
theorem nls:¬ (("low":Str)="span"):=by decide +kernel
theorem ncg:¬ (("counts":Str)="signs"):=by decide +kernel
theorem mfw (cl:Addr) (lo:Int) (span:V):YE "span" span (YE "low" (.int lo) (YE "counts" (.ref cl) []))=([("counts",.ref cl),("low",.int lo),("span",span)]:List (Str×V)):=by
 simp only [YE,if_neg ncl,if_neg ncs,if_neg nls]
theorem mft (cl:Addr) (sg:V):YE "signs" sg (YE "counts" (.ref cl) [])=([("counts",.ref cl),("signs",sg)]:List (Str×V)):=by
 simp only [YE,if_neg ncg]
theorem Xi (cl:Addr) (sh:Sh):(mf cl sh).lookup ("counts":Str)=some (.ref cl):=by cases sh<;>rfl
theorem UX (cl:Addr) (sh:Sh) {m:Str} (h1:(m==("counts":Str))=false) (h2:(m==("low":Str))=false) (h3:(m==("span":Str))=false) (h4:(m==("signs":Str))=false):(mf cl sh).lookup m=none:=by
 cases sh
 ·show List.lookup m [(("counts":Str),V.ref cl),(("low":Str),_),(("span":Str),_)]=_
  rw [List.lookup_cons,h1,List.lookup_cons,h2,List.lookup_cons,h3];rfl
 ·show List.lookup m [(("counts":Str),V.ref cl),(("signs":Str),_)]=_
  rw [List.lookup_cons,h1,List.lookup_cons,h4];rfl
theorem Yak (cl:Addr) (sh:Sh):(mf cl sh).lookup ("reckoned":Str)=none:=UX cl sh (by decide +kernel) (by decide +kernel) (by decide +kernel) (by decide +kernel)
theorem WY (cl:Addr) (sh:Sh):(mf cl sh).lookup ("count_at":Str)=none:=UX cl sh (by decide +kernel) (by decide +kernel) (by decide +kernel) (by decide +kernel)
theorem dle (x k:Nat):decide ((x:Int)≤(k:Int))=decide (x≤k):=decide_eq_decide.mpr (by omega)
theorem XS {fs:List (Str×V)} (h:fs.length≤3):fs.length<1000:=by omega
variable {m:Nat}
variable {src:List (Option Nat)} {te:TE} {σ:St} {H:Hp} {Q:VK}
variable {CT CB:Addr} {H H':Hp} {r:Ra} {s1 s2:List Nat} {n0 n1 n2:Nat}
variable {K:PySem.W.Frag} {CW CT CM CR CB p:Addr} {H H':Hp} {m:Nat} {sh:Q6} {B:Bu} {Z:List Addr}
def Z0H (K:PySem.W.Frag) (CW CT CM CR:Addr):Sp:=fun vs H Q _=>∃ (p dx C:Addr),vs=[.ref p]∧(C=CW∨C=CT∨C=CM∨C=CR)∧H p=some (.ins C dx [])∧∀ cl,H cl=none→Q .non (upd (upd H cl (.lst [])) p (.ins C dx [("counts",.ref cl)]))
theorem Z3U {Z5 Zb Z7 Za Z8 Z6 Zc Z9 Z2 Z3 Z4 Z1 Z0:Addr} {c_law_asked P_law_asked:Addr} (R:g.RawC "Maker" "__init__" "Maker.__init__" Z1c ["self"]) (Zi:Cls g.K Z2) (Zd:Yg g.K Z2 "counts") (Zj:Yg g.K Z2 "part") (Zs:Cls g.K Z3) (Zp:Yg g.K Z3 "counts") (Zv:Yg g.K Z3 "parts") (Zt:Yg g.K Z3 "table") (Zg:Cls g.K Z1) (Ze:Yg g.K Z1 "counts") (Zf:Yg g.K Z1 "signs") (Zn:Cls g.K Z0) (Zl:Yg g.K Z0 "counts") (Zq:Yg g.K Z0 "low") (Zo:Yg g.K Z0 "span"):g.Cf (1) "Maker" "__init__" ["self"] (Z0H g.K Z0 Z1 Z2 Z3):=by
 refine R.cf Z3T (fun vs H Q E h=>by obtain ⟨p,dx,C,rfl,hC,hp,q⟩:=h;rfl) fun f_ cdv A outer s H vs Q E hr h=>?_
 obtain ⟨p,dx,C,rfl,hC,hp,q⟩:=h
 refine ⟨_,(@Yh _ _ _ (@Xe _ _ _ _ _ _ _ _ (pv 0) (@Xq _ _ _ _ Yd) rfl)),?_⟩
 walk_at "rd"
 refine ⟨few (by decide),fun cl hcl=>⟨C,dx,[],by rw [Yb (Ye hp hcl)];exact hp,?_,?_,by decide,q cl hcl⟩⟩
 ·rcases hC with rfl | rfl | rfl | rfl<;>assumption
 ·rcases hC with rfl | rfl | rfl | rfl<;>assumption
def Z4b (K:PySem.W.Frag) (CW CT:Addr):Sp:=fun vs H Q _=>∃ (p dx:Addr) (lo:Int) (span:Nat),vs=[.ref p,.int lo,.int (lo+span)]∧H p=some (.ins CW dx [])∧∀ cl H',H cl=none→SameBut p H H'→Wi CW CT H' p (.w lo span) cl 0→Q .non H'
theorem Z1T {k:Nat} {Z5 Zb Z7 Za Z8 Z6 Zc Z9 Z2 Z3 Z4 Z1 Z0:Addr} {c_law_asked P_law_asked:Addr} (R:g.RawI "WholeMaker" Z0 "WholeMaker.__init__" Z0e ["self","low","high"]) (ZU:g.Cf k "Maker" "__init__" ["self"] (Z0H g.K Z0 Z1 Z2 Z3)) (Zn:Cls g.K Z0) (Zl:Yg g.K Z0 "counts") (Zq:Yg g.K Z0 "low") (Zo:Yg g.K Z0 "span"):g.Ma (k+1) "WholeMaker" Z0 ["self","low","high"] (Z4b g.K Z0 Z1):=by
 refine R.ma Z1P (fun vs H Q E h=>by obtain ⟨p,dx,lo,span,rfl,hp,q⟩:=h;rfl) fun f_ cdv A outer s H vs Q E hr h=>?_
 obtain ⟨p,dx,lo,span,rfl,hp,q⟩:=h
 refine ⟨_,(@Yf _ _ _ _ _ (@YV _ _ _ _ (@UR _ _ _ _ _ _ _ _ _ _ _ _ _ _ _ ZU hr (@Ya _ _ _ _ _ (pv 0) Yd (by rfl)) (by omega) (by rfl) (by rfl) (by decide) (by rfl) (by rfl) (by rfl)) (by rfl)) (@Yf _ _ _ _ _ (@Xe _ _ _ _ _ _ _ _ (pv 0) (pv 1) rfl) (@Yh _ _ _ (@Xe _ _ _ _ _ _ _ _ (pv 0) (@Yn _ _ _ _ _ _ _ _ XA (pv 2) (pv 1)) rfl)))),?_⟩
 walk_at "rd"
 refine ⟨p,dx,_,rfl,.inl rfl,hp,fun cl hcl=>?_⟩
 have hne:p≠cl:=Ye hp hcl
 refine ⟨_,dx,_,Yc,Zn,Zq,XS (show 1≤3 by decide),_,dx,_,Yc,Zn,Zo,XS (Nat.le_trans (Xl _ _ _) (show 2≤3 by decide)),?_⟩
 refine q cl _ hcl (fun x o hx h=>?_) ⟨dx,?_,?_⟩
 ·rw [Yb hx,Yb hx,Yb hx,Yb (Ye h hcl)];exact h
 ·rw [Yc,show lo+(span:Int) - lo=span by omega]
  exact congrArg some (congrArg (HO.ins _ _) (mfw cl lo _))
 ·rw [Yb (Ne.symm hne),Yb (Ne.symm hne),Yb (Ne.symm hne),Yc];rfl
def Z4c (K:PySem.W.Frag) (CW CT:Addr):Sp:=fun vs H Q _=>∃ (p dx:Addr) (sg:List Nat),vs=[.ref p,.str (S sg)]∧H p=some (.ins CT dx [])∧∀ cl H',H cl=none→SameBut p H H'→Wi CW CT H' p (.t sg) cl 0→Q .non H'
theorem Z2s {k:Nat} {Z5 Zb Z7 Za Z8 Z6 Zc Z9 Z2 Z3 Z4 Z1 Z0:Addr} {c_law_asked P_law_asked:Addr} (R:g.RawI "TextMaker" Z1 "TextMaker.__init__" Z0r ["self","signs"]) (ZU:g.Cf k "Maker" "__init__" ["self"] (Z0H g.K Z0 Z1 Z2 Z3)) (Zg:Cls g.K Z1) (Ze:Yg g.K Z1 "counts") (Zf:Yg g.K Z1 "signs"):g.Ma (k+1) "TextMaker" Z1 ["self","signs"] (Z4c g.K Z0 Z1):=by
 refine R.ma Z2l (fun vs H Q E h=>by obtain ⟨p,dx,sg,rfl,hp,q⟩:=h;rfl) fun f_ cdv A outer s H vs Q E hr h=>?_
 obtain ⟨p,dx,sg,rfl,hp,q⟩:=h
 refine ⟨_,(@Yf _ _ _ _ _ (@YV _ _ _ _ (@UR _ _ _ _ _ _ _ _ _ _ _ _ _ _ _ ZU hr (@Ya _ _ _ _ _ (pv 0) Yd (by rfl)) (by omega) (by rfl) (by rfl) (by decide) (by rfl) (by rfl) (by rfl)) (by rfl)) (@Yh _ _ _ (@Xe _ _ _ _ _ _ _ _ (pv 0) (pv 1) rfl))),?_⟩
 walk_at "rd"
 refine ⟨p,dx,_,rfl,.inr (.inl rfl),hp,fun cl hcl=>?_⟩
 have hne:p≠cl:=Ye hp hcl
 refine ⟨_,dx,_,Yc,Zg,Zf,XS (show 1≤3 by decide),?_⟩
 refine q cl _ hcl (fun x o hx h=>?_) ⟨dx,?_,?_⟩
 ·rw [Yb hx,Yb hx,Yb (Ye h hcl)];exact h
 ·rw [Yc]
  exact congrArg some (congrArg (HO.ins _ _) (mft cl _))
 ·rw [Yb (Ne.symm hne),Yb (Ne.symm hne),Yc];rfl
def Ya8:Sp:=fun vs H Q _=>∃ (n:Nat),vs=[.int n]∧n≤100∧Q (.int (1*2^n / 2^1)) H
theorem Z3V {Z5 Zb Z7 Za Z8 Z6 Zc Z9 Z2 Z3 Z4 Z1 Z0:Addr} {c_law_asked P_law_asked:Addr} (R:g.Raw "least_distance" "least_distance" Z1a ["size"]):g.Fn (1) "least_distance" ["size"] (Ya8):=by
 refine R.fn Z3R (fun vs H Q E h=>by obtain ⟨n,rfl,hn,q⟩:=h;rfl) fun f_ cdv A outer s H vs Q E hr h=>?_
 obtain ⟨n,rfl,hn,q⟩:=h
 refine ⟨_,(@Yh _ _ _ (@Yl _ _ _ _ (@Yn _ _ _ _ _ _ _ _ Yd7 (@Yn _ _ _ _ _ _ _ _ Ybn Yj (pv 0)) Yj))),?_⟩
 walk_at "rd"
 exact ⟨⟨by omega,by omega,by decide⟩,by decide,q⟩
def Z2t (K:PySem.W.Frag) (CW CT:Addr):Sp:=fun vs H Q _=>∃ (p dx cl:Addr) (lo:Int) (span n:Nat),vs=[.ref p,.int n]∧n≤100∧H p=some (.ins CW dx (mf cl (.w lo span)))∧Q (.int (wc span n)) H
theorem Z1U {k:Nat} {Z5 Zb Z7 Za Z8 Z6 Zc Z9 Z2 Z3 Z4 Z1 Z0:Addr} {c_law_asked P_law_asked:Addr} (R:g.RawM Z0 "reckoned" "WholeMaker.reckoned" Z0f ["self","size"]) (Z1d:g.Fn k "least_distance" ["size"] (Ya8)) (b_max:g.mg "max"=none) (b_min:g.mg "min"=none) (Zn:Cls g.K Z0) (Zl:Yg g.K Z0 "counts") (Zq:Yg g.K Z0 "low") (Zo:Yg g.K Z0 "span"):g.Me (k+1) Z0 "reckoned" ["self","size"] (Z2t g.K Z0 Z1):=by
 refine R.me Z19 (fun vs H Q E h=>by obtain ⟨p,dx,cl,lo,span,n,rfl,hn,hp,q⟩:=h;rfl) fun f_ cdv A outer s H vs Q E hr h=>?_
 obtain ⟨p,dx,cl,lo,span,n,rfl,hn,hp,q⟩:=h
 refine ⟨_,(@Yf _ _ _ _ _ (@Yp _ _ (2) _ _ _ _ Z19.nd rfl (.inl rfl) (@YD _ _ _ _ _ _ _ _ _ _ b_min (W9 rfl) (@Ya _ _ _ _ _ (@Yo _ _ _ _ _ (pv 0) rfl) (@Ya _ _ _ _ _ (@Yn _ _ _ _ _ _ _ _ XA (@Yn _ _ _ _ _ _ _ _ Ybn Yj (pv 1)) Yj) Yd (by rfl)) (by rfl)) (by decide +kernel) (by rfl) (by rfl) (by decide) (by decide) (by rfl) (by rfl)) (by rfl) (by first | exact .inl rfl | exact .inr rfl | assumption)) (@Yh _ _ _ (@Yl _ _ _ _ (@YD _ _ _ _ _ _ _ _ _ _ b_max (Ybq rfl) (@Ya _ _ _ _ _ Yj (@Ya _ _ _ _ _ (@Yn _ _ _ _ _ _ _ _ Y1 (@Yn _ _ _ _ _ _ _ _ XA (pv 2) (@YK _ _ _ _ _ _ _ _ _ _ _ _ Z1d hr (@Ya _ _ _ _ _ (pv 1) Yd (by rfl)) (by omega) (by rfl) (by rfl) (by decide) (by rfl) (by rfl))) Yj) Yd (by rfl)) (by rfl)) (by decide +kernel) (by rfl) (by rfl) (by decide) (by decide) (by rfl) (by rfl))))),?_⟩
 walk_at "rd"
 exact ⟨_,_,_,hp,Zn,Zo,_,rfl,⟨by omega,by omega,by decide⟩,_,rfl,n,rfl,hn,_,rfl,q⟩
def Z43 (K:PySem.W.Frag) (CW CT:Addr):Sp:=fun vs H Q _=>∃ (p dx cl:Addr) (lo:Int) (span n k:Nat),vs=[.ref p,.int k]∧k≤50∧n≤60∧H p=some (.ins CW dx (mf cl (.w lo span)))∧H cl=some (.lst (YH (wc span) n)) ∧
 ∀ H',SameBut cl H H'→H' cl=some (.lst (YH (wc span) (max n (k+1))))→Q (.int (wc span k)) H'
theorem Z1V {k:Nat} {Z5 Zb Z7 Za Z8 Z6 Zc Z9 Z2 Z3 Z4 Z1 Z0:Addr} {c_law_asked P_law_asked:Addr} (R:g.RawM Z0 "count_at" "Maker.count_at" Z0i ["self","size"]) (Z2u:g.Me k Z0 "reckoned" ["self","size"] (Z2t g.K Z0 Z1)) (b_len:g.mg "len"=none) (Zn:Cls g.K Z0) (Zl:Yg g.K Z0 "counts") (Zq:Yg g.K Z0 "low") (Zo:Yg g.K Z0 "span"):g.Me (k+1) Z0 "count_at" ["self","size"] (Z43 g.K Z0 Z1):=by
 refine R.me Z1S (fun vs H Q E h=>by obtain ⟨p,dx,cl,lo,span,n,k,rfl,hk,hn,hp,hc,q⟩:=h;rfl) fun f_ cdv A outer s H vs Q E hr h=>?_
 obtain ⟨p,dx,cl,lo,span,n,k,rfl,hk,hn,hp,hc,q⟩:=h
 refine ⟨_,(@Yf _ _ _ _ _ (@XF _ _ _ _ _ _ PassesOwn.never (@Yr _ _ _ _ _ _ _ _ VI (@YD _ _ _ _ _ _ _ _ _ _ b_len Yx (@Ya _ _ _ _ _ (@Yo _ _ _ _ _ (pv 0) rfl) Yd (by rfl)) (by decide +kernel) (by rfl) (by rfl) (by decide) (by decide) (by rfl) (by rfl)) (pv 1) (Yv _)) (@Yh _ _ _ (@YV _ _ _ _ (@Xx _ _ _ _ _ _ _ _ _ _ _ _ PySem.F.plainAttrs_list PySem.F.slot_list_append PySem.F.type_list_append Y4 (@Yo _ _ _ _ _ (pv 0) rfl) (@Ya _ _ _ _ _ (@YU _ _ _ _ _ _ _ _ _ _ _ _ _ _ _ _ Z2u Zn hr (pv 0) (@Ya _ _ _ _ _ (@YD _ _ _ _ _ _ _ _ _ _ b_len Yx (@Ya _ _ _ _ _ (@Yo _ _ _ _ _ (pv 0) rfl) Yd (by rfl)) (by decide +kernel) (by rfl) (by rfl) (by decide) (by decide) (by rfl) (by rfl)) Yd (by rfl)) (by omega) (by rfl) (by rfl) (by rfl) (by rfl)) Yd (by rfl)) (by rfl) (by rfl) (by rfl) (by rfl) (by rfl)) (by rfl)))) (@Yh _ _ _ (@Yl _ _ _ _ (@YA _ _ _ _ _ _ _ YX (@Yo _ _ _ _ _ (pv 0) rfl) (pv 1) (fun _ _=>rfl))))),?_⟩
 walk_at "rd"
 have hne:p≠cl:=Yq hp hc (by simp)
 refine Xr (α:=Nat) (fun x σ H'=>σ=[some (.ref p),some (.int k)]∧SameBut cl H H'∧H' cl=some (.lst (YH (wc span) x))∧n≤x∧x≤max n (k+1)) (fun x=>decide (x≤k)) (fun x=>k+1 - x) n ⟨rfl,.refl _ _,hc,Nat.le_refl _,Nat.le_max_left _ _⟩ ?_ ?_ ?_
 ·rintro x σ H' ⟨rfl,sb,hx,h1,h2⟩ R r
  walk_at "rd"
  refine ⟨_,_,_,sb _ _ hne hp,Zn,Zl,_,Xi _ _,_,rfl,_,.inl (SqL.of hx),?_⟩
  rw [YI,dle]
  exact r H' ⟨rfl,sb,hx,h1,h2⟩
 ·rintro x σ H' ⟨rfl,sb,hx,h1,h2⟩ hd
  have hd:x≤k:=of_decide_eq_true hd
  walk_at "rd"
  have hp':=sb _ _ hne hp
  refine ⟨_,_,_,hp',Zn,Zl,_,Xi _ _,.inl ⟨rfl,_,SqL.of hx⟩,_,_,hp',Yak _ _,_,_,_,hp',Zn,Zl,_,Xi _ _,_,rfl,_,.inl (SqL.of hx),?_⟩
  rw [YI]
  exact ⟨p,dx,cl,lo,span,x,rfl,by omega,hp',_,rfl,_,hx,by rw [YI];exact few (by omega),sb.upd _,x+1,by rw [Yc,Xf],by omega,by omega,by omega⟩
 ·rintro x σ H' ⟨rfl,sb,hx,h1,h2⟩ hd
  have hd:¬ x≤k:=of_decide_eq_false hd
  walk_at "rd"
  have e:x=max n (k+1):=by omega
  subst e
  exact ⟨_,_,_,sb _ _ hne hp,Zn,Zl,_,Xi _ _,_,rfl,_,SqL.of hx,_,Wo _ (by omega),q H' sb hx⟩
def Z2Q (K:PySem.W.Frag) (CW CT:Addr) (m:Nat):Sp:=fun vs H Q _=>∃ (p dx cl:Addr) (sg:List Nat) (n k:Nat),vs=[.ref p,.int k]∧1≤m∧(k=0∨2≤m)∧k≤n∧n≤60∧sg.length≤62∧H p=some (.ins CT dx (mf cl (.t sg)))∧H cl=some (.lst (YH (cnt (.t sg)) n)) ∧
 ∀ H',SameBut cl H H'→H' cl=some (.lst (YH (cnt (.t sg)) n))→Q (.int (cnt (.t sg) k)) H'
def Z0d (K:PySem.W.Frag) (CW CT:Addr) (m:Nat):Sp:=fun vs H Q _=>∃ (p dx cl:Addr) (sg:List Nat) (n k:Nat),vs=[.ref p,.int k]∧1≤m∧(k<n∨3≤m)∧k≤60∧n≤60∧sg.length≤62∧H p=some (.ins CT dx (mf cl (.t sg)))∧H cl=some (.lst (YH (cnt (.t sg)) n)) ∧
 ∀ H',SameBut cl H H'→H' cl=some (.lst (YH (cnt (.t sg)) (max n (k+1))))→Q (.int (cnt (.t sg) k)) H'
theorem YcQ {K:PySem.W.Frag} {CW CT:Addr} {vs:List V} {H:Hp} {Q:VK} {E:XK} (h:Z2Q K CW CT 0 vs H Q E):False:=by
 obtain ⟨p,dx,cl,sg,n,k,_,h,_⟩:=h
 omega
theorem YbZ {K:PySem.W.Frag} {CW CT:Addr} {vs:List V} {H:Hp} {Q:VK} {E:XK} (h:Z0d K CW CT 0 vs H Q E):False:=by
 obtain ⟨p,dx,cl,sg,n,k,_,h,_⟩:=h
 omega
theorem VZ {a:Nat} (h:a≤62) (j:Nat):((a:Int)^j).natAbs<2^(6*j+1):=by
 have e:((a:Int)^j).natAbs=a^j:=by rw [Int.natAbs_pow,Int.natAbs_natCast]
 rw [e]
 have h1:a^j≤(2^6)^j:=Nat.pow_le_pow_left (by omega) j
 rw [← Nat.pow_mul] at h1
 have h2:2^(6*j)<2^(6*j+1):=Nat.pow_lt_pow_right (by decide) (by omega)
 omega
variable {m:Nat}
theorem Z0j {k:Nat} {Z5 Zb Z7 Za Z8 Z6 Zc Z9 Z2 Z3 Z4 Z1 Z0:Addr} {c_law_asked P_law_asked:Addr} (R:g.RawM Z1 "reckoned" "TextMaker.reckoned" Z0s ["self","size"]) (ZG:g.Me k Z1 "count_at" ["self","size"] (Z0d g.K Z0 Z1 m)) (b_len:g.mg "len"=none) (Zg:Cls g.K Z1) (Ze:Yg g.K Z1 "counts") (Zf:Yg g.K Z1 "signs"):g.Me (k+1) Z1 "reckoned" ["self","size"] (Z2Q g.K Z0 Z1 (m+1)):=by
 refine R.me Z2m (fun vs H Q E h=>by obtain ⟨p,dx,cl,sg,n,k,rfl,hm,hk,hkn,hn,hl,hp,hc,q⟩:=h;rfl) fun f_ cdv A outer s H vs Q E hr h=>?_
 obtain ⟨p,dx,cl,sg,n,k,rfl,hm,hk,hkn,hn,hl,hp,hc,q⟩:=h
 refine ⟨_,(@Yh _ _ _ (@Yl _ _ _ _ (@Vw _ _ _ _ _ _ _ _ (@Yr _ _ _ _ _ _ _ _ Xd (pv 1) Yj (Yv _)) Yj (@Yn _ _ _ _ _ _ _ _ XX (@YD _ _ _ _ _ _ _ _ _ _ b_len Wq (@Ya _ _ _ _ _ (@Yo _ _ _ _ _ (pv 0) rfl) Yd (by rfl)) (by decide +kernel) (by rfl) (by rfl) (by decide) (by decide) (by rfl) (by rfl)) (@YU _ _ _ _ _ _ _ _ _ _ _ _ _ _ _ _ ZG Zg hr (pv 0) (@Ya _ _ _ _ _ (@Yn _ _ _ _ _ _ _ _ XA (pv 1) Yj) Yd (by rfl)) (by omega) (by rfl) (by rfl) (by rfl) (by rfl)))))),?_⟩
 walk_at "rd"
 refine Vy (fun c=>?_) (fun c=>?_)
 ·have e:k=0:=by omega
  subst e
  have:=q H (.refl _ _) hc
  exact this
 ·obtain ⟨j,rfl⟩:∃ j,k=j+1:=⟨k - 1,by omega⟩
  refine ⟨_,_,_,hp,Zg,Zf,_,rfl,_,rfl,by rw [Xy];exact few (by omega),_,_,hp,WY _ _,?_⟩
  refine ⟨p,dx,cl,sg,n,j,by rw [show ((j+1:Nat):Int) - 1=(j:Int) by omega],by omega,.inl (by omega),by omega,hn,hl,hp,hc,fun H' s' h'=>⟨_,rfl,?_,?_⟩⟩
  ·rw [Xy]
   refine .inl (cm (m:=7) (n:=6*j+1) ?_ (VZ hl j) (by omega))
   rw [Int.natAbs_natCast];omega
  ·rw [Xy]
   have:=q H' s' (by rw [show max n (j+1)=n by omega] at h';exact h')
   rw [show (sg.length:Int)*cnt (.t sg) j=cnt (.t sg) (j+1) by show _*(sg.length:Int)^j=(sg.length:Int)^(j+1);rw [Int.pow_succ,Int.mul_comm]]
   exact this
theorem Z0k {k:Nat} {Z5 Zb Z7 Za Z8 Z6 Zc Z9 Z2 Z3 Z4 Z1 Z0:Addr} {c_law_asked P_law_asked:Addr} (R:g.RawM Z1 "count_at" "Maker.count_at" Z0y ["self","size"]) (Z2R:g.Me k Z1 "reckoned" ["self","size"] (Z2Q g.K Z0 Z1 m)) (b_len:g.mg "len"=none) (Zg:Cls g.K Z1) (Ze:Yg g.K Z1 "counts") (Zf:Yg g.K Z1 "signs"):g.Me (k+1) Z1 "count_at" ["self","size"] (Z0d g.K Z0 Z1 (m+1)):=by
 refine R.me Z2p (fun vs H Q E h=>by obtain ⟨p,dx,cl,sg,n,k,rfl,hm,hk,hk50,hn,hl,hp,hc,q⟩:=h;rfl) fun f_ cdv A outer s H vs Q E hr h=>?_
 obtain ⟨p,dx,cl,sg,n,k,rfl,hm,hk,hk50,hn,hl,hp,hc,q⟩:=h
 refine ⟨_,(@Yf _ _ _ _ _ (@XF _ _ _ _ _ _ PassesOwn.never (@Yr _ _ _ _ _ _ _ _ VI (@YD _ _ _ _ _ _ _ _ _ _ b_len Yx (@Ya _ _ _ _ _ (@Yo _ _ _ _ _ (pv 0) rfl) Yd (by rfl)) (by decide +kernel) (by rfl) (by rfl) (by decide) (by decide) (by rfl) (by rfl)) (pv 1) (Yv _)) (@Yh _ _ _ (@YV _ _ _ _ (@Xx _ _ _ _ _ _ _ _ _ _ _ _ PySem.F.plainAttrs_list PySem.F.slot_list_append PySem.F.type_list_append Y4 (@Yo _ _ _ _ _ (pv 0) rfl) (@Ya _ _ _ _ _ (@YU _ _ _ _ _ _ _ _ _ _ _ _ _ _ _ _ Z2R Zg hr (pv 0) (@Ya _ _ _ _ _ (@YD _ _ _ _ _ _ _ _ _ _ b_len Yx (@Ya _ _ _ _ _ (@Yo _ _ _ _ _ (pv 0) rfl) Yd (by rfl)) (by decide +kernel) (by rfl) (by rfl) (by decide) (by decide) (by rfl) (by rfl)) Yd (by rfl)) (by omega) (by rfl) (by rfl) (by rfl) (by rfl)) Yd (by rfl)) (by rfl) (by rfl) (by rfl) (by rfl) (by rfl)) (by rfl)))) (@Yh _ _ _ (@Yl _ _ _ _ (@YA _ _ _ _ _ _ _ YX (@Yo _ _ _ _ _ (pv 0) rfl) (pv 1) (fun _ _=>rfl))))),?_⟩
 walk_at "rd"
 have hne:p≠cl:=Yq hp hc (by simp)
 refine Xr (α:=Nat) (fun x σ H'=>σ=[some (.ref p),some (.int k)]∧SameBut cl H H'∧H' cl=some (.lst (YH (cnt (.t sg)) x))∧n≤x∧x≤max n (k+1)) (fun x=>decide (x≤k)) (fun x=>k+1 - x) n ⟨rfl,.refl _ _,hc,Nat.le_refl _,Nat.le_max_left _ _⟩ ?_ ?_ ?_
 ·rintro x σ H' ⟨rfl,sb,hx,h1,h2⟩ R r
  walk_at "rd"
  refine ⟨_,_,_,sb _ _ hne hp,Zg,Ze,_,Xi _ _,_,rfl,_,.inl (SqL.of hx),?_⟩
  rw [YI,dle]
  exact r H' ⟨rfl,sb,hx,h1,h2⟩
 ·rintro x σ H' ⟨rfl,sb,hx,h1,h2⟩ hd
  have hd:x≤k:=of_decide_eq_true hd
  walk_at "rd"
  have hp':=sb _ _ hne hp
  refine ⟨_,_,_,hp',Zg,Ze,_,Xi _ _,.inl ⟨rfl,_,SqL.of hx⟩,_,_,hp',Yak _ _,_,_,_,hp',Zg,Ze,_,Xi _ _,_,rfl,_,.inl (SqL.of hx),?_⟩
  rw [YI]
  exact ⟨p,dx,cl,sg,x,x,rfl,by omega,by omega,Nat.le_refl _,by omega,hl,hp',hx,fun H2 s2 h2'=>⟨_,rfl,_,h2',by rw [YI];exact few (by omega),(sb.trans s2).upd _,x+1,by rw [Yc,Xf],by omega,by omega,by omega⟩⟩
 ·rintro x σ H' ⟨rfl,sb,hx,h1,h2⟩ hd
  have hd:¬ x≤k:=of_decide_eq_false hd
  walk_at "rd"
  have e:x=max n (k+1):=by omega
  subst e
  exact ⟨_,_,_,sb _ _ hne hp,Zg,Ze,_,Xi _ _,_,rfl,_,SqL.of hx,_,Wo _ (by omega),q H' sb hx⟩
def Z44 (K:PySem.W.Frag) (CW CT:Addr):Sp:=fun vs H Q _=>∃ (p dx cl:Addr) (lo j:Int) (span n:Nat),vs=[.ref p,.int n,.int j]∧n≤100∧H p=some (.ins CW dx (mf cl (.w lo span)))∧Q (.int (lo+1*2^n / 2^1+j)) H
theorem Z1W {k:Nat} {Z5 Zb Z7 Za Z8 Z6 Zc Z9 Z2 Z3 Z4 Z1 Z0:Addr} {c_law_asked P_law_asked:Addr} (R:g.RawM Z0 "value_at" "WholeMaker.value_at" Z0g ["self","size","number"]) (Z1d:g.Fn k "least_distance" ["size"] (Ya8)) (Zn:Cls g.K Z0) (Zl:Yg g.K Z0 "counts") (Zq:Yg g.K Z0 "low") (Zo:Yg g.K Z0 "span"):g.Me (k+1) Z0 "value_at" ["self","size","number"] (Z44 g.K Z0 Z1):=by
 refine R.me Z1Q (fun vs H Q E h=>by obtain ⟨p,dx,cl,lo,j,span,n,rfl,hn,hp,q⟩:=h;rfl) fun f_ cdv A outer s H vs Q E hr h=>?_
 obtain ⟨p,dx,cl,lo,j,span,n,rfl,hn,hp,q⟩:=h
 refine ⟨_,(@Yh _ _ _ (@Yl _ _ _ _ (@Yn _ _ _ _ _ _ _ _ Y1 (@Yn _ _ _ _ _ _ _ _ Y1 (@Yo _ _ _ _ _ (pv 0) rfl) (@YK _ _ _ _ _ _ _ _ _ _ _ _ Z1d hr (@Ya _ _ _ _ _ (pv 1) Yd (by rfl)) (by omega) (by rfl) (by rfl) (by decide) (by rfl) (by rfl))) (pv 2)))),?_⟩
 walk_at "rd"
 exact ⟨_,_,_,hp,Zn,Zq,_,rfl,n,rfl,hn,_,rfl,_,rfl,q⟩
def dg (sg:List Nat):Nat→Int→List Nat
 | 0,_=>[]
 | k+1,n=>sg.getD (n%sg.length).toNat 0::dg sg k (n / sg.length)
theorem Ve (sg:List Nat):∀ k n,(dg sg k n).length=k
 | 0,_=>rfl
 | k+1,n=>by rw [dg,List.length_cons,Ve]
def lef (m:Int):Nat→Int→Int
 | 0,n=>n
 | k+1,n=>lef m k n / m
theorem Qm (m:Int):∀ k n,lef m (k+1) n=lef m k (n / m)
 | 0,n=>rfl
 | k+1,n=>by rw [lef,Qm m k n];rfl
theorem Yal (sg:List Nat):∀ k n,dg sg (k+1) n=dg sg k n++[sg.getD (lef sg.length k n%sg.length).toNat 0]
 | 0,n=>rfl
 | k+1,n=>by
  rw [dg,Yal sg k (n / sg.length),dg,Qm]
  rfl
theorem sg_at {sg:List Nat} (h:0<sg.length) (n:Int):atI sg (n%sg.length)=some (sg.getD (n%sg.length).toNat 0):=by
 have h1:0≤n%(sg.length:Int):=Int.emod_nonneg _ (by omega)
 have h2:n%(sg.length:Int)<sg.length:=Int.emod_lt_of_pos _ (by omega)
 have e:n%(sg.length:Int)=((n%(sg.length:Int)).toNat:Int):=(Int.toNat_of_nonneg h1).symm
 rw [e,Int.toNat_natCast]
 have hlt:(n%(sg.length:Int)).toNat<sg.length:=by omega
 refine Xm ?_
 rw [List.getElem?_eq_getElem hlt,List.getD_eq_getElem?_getD,List.getElem?_eq_getElem hlt]
 rfl
theorem Yb0 (cl:Addr) (sh:Sh):(mf cl sh).lookup ("value_at":Str)=none:=UX cl sh (by decide +kernel) (by decide +kernel) (by decide +kernel) (by decide +kernel)
theorem Qo:∀ cs:List Nat,UP [] (cs.map fun c=>[c])=cs
 | []=>rfl
 | [c]=>rfl
 | c::d::r=>by
  have:=Qo (d::r)
  simp only [List.map_cons] at this ⊢
  rw [UP,this]
  rfl
theorem Yam (cs:List Nat):Txt.join ("":Str) (cs.map fun c=>S [c])=S cs:=by
 have:=Yee [] (cs.map fun c=>[c])
 rw [List.map_map,Qo] at this
 exact this
def Z1q (K:PySem.W.Frag) (CW CT:Addr):Sp:=fun vs H Q _=>∃ (p dx cl:Addr) (j:Int) (sg:List Nat) (n:Nat),vs=[.ref p,.int n,.int j]∧n≤100∧0<sg.length∧sg.length≤62∧H p=some (.ins CT dx (mf cl (.t sg)))∧∀ H',Yk H H'→Q (.str (S (dg sg n j).reverse)) H'
theorem Z2v {Z5 Zb Z7 Za Z8 Z6 Zc Z9 Z2 Z3 Z4 Z1 Z0:Addr} {c_law_asked P_law_asked:Addr} (R:g.RawM Z1 "value_at" "TextMaker.value_at" Z0t ["self","size","number"]) (b_len:g.mg "len"=none) (Zu:g.mg "range"=none) (Zg:Cls g.K Z1) (Ze:Yg g.K Z1 "counts") (Zf:Yg g.K Z1 "signs"):g.Me (1) Z1 "value_at" ["self","size","number"] (Z1q g.K Z0 Z1):=by
 refine R.me ZV (fun vs H Q E h=>by obtain ⟨p,dx,cl,j,sg,n,rfl,hn,h0,hl,hp,q⟩:=h;rfl) fun f_ cdv A outer s H vs Q E hr h=>?_
 obtain ⟨p,dx,cl,j,sg,n,rfl,hn,h0,hl,hp,q⟩:=h
 refine ⟨_,(@Yf _ _ _ _ _ (@Yp _ _ (3) _ _ _ _ ZV.nd rfl (.inl rfl) (@Xq _ _ _ _ Yd) (by rfl) (by first | exact .inl rfl | exact .inr rfl | assumption)) (@Yf _ _ _ _ _ (@Yp _ _ (4) _ _ _ _ ZV.nd rfl (.inl rfl) (pv 2) (by rfl) (by first | exact .inl rfl | exact .inr rfl | assumption)) (@Yf _ _ _ _ _ (@Xz _ _ _ _ _ _ _ _ PassesOwn.never rfl (@Xc _ _ _ _ _ _ rfl Zu (@Ya _ _ _ _ _ (pv 1) Yd (by rfl)) (by rfl)) (@YJ _ _ (5) _ ZV.nd rfl (.inl rfl) (by first | exact .inl rfl | exact .inr rfl | assumption)) (@Yf _ _ _ _ _ (@YV _ _ _ _ (@Xx _ _ _ _ _ _ _ _ _ _ _ _ PySem.F.plainAttrs_list PySem.F.slot_list_append PySem.F.type_list_append Y4 (pv 3) (@Ya _ _ _ _ _ (@YA _ _ _ _ _ _ _ Ybv (@Yo _ _ _ _ _ (pv 0) rfl) (@Yn _ _ _ _ _ _ _ _ Y9 (pv 4) (@YD _ _ _ _ _ _ _ _ _ _ b_len Wq (@Ya _ _ _ _ _ (@Yo _ _ _ _ _ (pv 0) rfl) Yd (by rfl)) (by decide +kernel) (by rfl) (by rfl) (by decide) (by decide) (by rfl) (by rfl))) (fun _ _=>rfl)) Yd (by rfl)) (by rfl) (by rfl) (by rfl) (by rfl) (by rfl)) (by rfl)) (@Yh _ _ _ (@Yp _ _ (4) _ _ _ _ ZV.nd rfl (.inl rfl) (@Yn _ _ _ _ _ _ _ _ Wu (pv 4) (@YD _ _ _ _ _ _ _ _ _ _ b_len Wq (@Ya _ _ _ _ _ (@Yo _ _ _ _ _ (pv 0) rfl) Yd (by rfl)) (by decide +kernel) (by rfl) (by rfl) (by decide) (by decide) (by rfl) (by rfl))) (by rfl) (by first | exact .inl rfl | exact .inr rfl | assumption)))) (by intro _;rfl)) (@Yf _ _ _ _ _ (@YV _ _ _ _ (@Yeb _ _ _ _ _ _ _ _ _ PySem.F.plainAttrs_list PySem.F.slot_list_reverse PySem.F.type_list_reverse YaI (pv 3) (by rfl) (by rfl)) (by rfl)) (@Yh _ _ _ (@Yl _ _ _ _ (@Xx _ _ _ _ _ _ _ _ _ _ _ _ PySem.F.plainAttrs_str PySem.F.slot_str_join PySem.F.type_str_join Q8 YF (@Ya _ _ _ _ _ (pv 3) Yd (by rfl)) (by rfl) (by rfl) (by rfl) (by rfl) (by rfl)))))))),?_⟩
 walk_at "rd"
 refine ⟨few (by decide),fun F gF=>?_⟩
 refine X5 (n:=n) (fun i σ H'=>∃ o5,σ=[some (.ref p),some (.int n),some (.int j),some (.ref F),some (.int (lef sg.length i j)),o5]∧Yk H H'∧H' F=some (.lst ((dg sg i j).map fun c=>V.str (S [c])))) (fun R r=>by walk_at "rd";exact r) (by omega) ⟨_,rfl,.upd_new gF _,Yc⟩ ?_ ?_
 ·rintro i σ H' hi ⟨o5,rfl,sm,hF⟩
  have hp':=sm _ _ hp
  have hpF:p≠F:=Ye hp gF
  walk_at "rd"
  refine ⟨.inl ⟨rfl,_,SqL.of hF⟩,_,_,_,hp',Zg,Zf,_,rfl,_,_,_,hp',Zg,Zf,_,rfl,_,rfl,by rw [Xy];exact few (by omega),by rw [Xy];omega,?_⟩
  rw [Xy]
  refine ⟨_,_,_,rfl,rfl,by rw [Xy];exact few (by omega),by rw [U8];exact sg_at h0 _,_,hF,by rw [List.length_map,Ve];exact few (by omega),_,_,_,(Yb hpF).trans hp',Zg,Zf,_,rfl,_,rfl,?_⟩
  exact ⟨by rw [Xy];exact few (by omega),by rw [Xy];exact WD (by omega) (by omega),by rw [Xy];rfl,.upd_over gF sm _,by rw [Yc,Yal,List.map_append];rfl⟩
 ·rintro σ H' ⟨o5,rfl,sm,hF⟩
  walk_at "rd"
  refine ⟨.inl ⟨rfl,_,SqL.of hF⟩,_,hF,rfl,?_⟩
  have e1:((dg sg n j).map fun c=>V.str (S [c])).reverse=(dg sg n j).reverse.map fun c=>V.str (S [c]):=by rw [List.map_reverse]
  rw [e1]
  refine ⟨"",F,(dg sg n j).reverse.map fun c=>S [c],rfl,rfl,by rw [List.map_map];exact SqL.of Yc,?_,?_⟩
  ·rw [List.map_map,List.length_map,List.length_reverse,Ve]
   have:((fun x:Str=>x.length) ∘ fun c=>S [c])=fun _=>1:=by funext c;simp [Xy]
   rw [this,List.map_const',List.sum_replicate_nat,List.length_reverse,Ve]
   have:("":Str).length=0:=by decide +kernel
   rw [this];omega
  ·rw [Yam]
   exact q _ (.upd_over gF sm _)
def mc (span:Nat):Nat→Int
 | 0=>1
 | k+1=>((List.range (k+1)).attach.map fun ⟨j,_⟩=>wc span j*mc span (k - j)).sum
termination_by k=>k
decreasing_by omega
theorem Uk (span:Nat):mc span 0=1:=by rw [mc]
theorem Ul (span k:Nat):mc span (k+1)=((List.range (k+1)).map fun j=>wc span j*mc span (k - j)).sum:=by
 rw [mc]
 congr 1
 exact List.attach_map_val (f:=fun j=>wc span j*mc span (k - j))
section
variable {src:List (Option Nat)} {te:TE} {σ:St} {H:Hp} {Q:VK}
theorem Yb1 {K:PySem.W.Frag} {tl:TE} {b:Addr} {xs:List V} (ps:List (V×V)) (ys:List V) (ha:∀ R:V→Hp→Prop,R (.ref b) H→tl σ H R) (hS:SqL K H b xs) (hp:∀ (i:Nat) x p,xs[i]?=some x→ps[i]?=some p→∃ T,x = .ref T∧H T=some (.tup [p.1,p.2])) (hl:ps.length=xs.length) (hl2:ys.length=xs.length) (hlen:xs.length≤100000)
  (step:∀ (i:Nat) p y H',ps[i]?=some p→ys[i]?=some y→Yk H H'→∀ R:VK,(∀ H'',Yk H' H''→R y H'')→te (some p.1::some p.2::YS src σ) H' R)
  (fin:∀ D H',H D=none→Yk H H'→H' D=some (.lst ys)→Q (.ref D) H'):tLC (none::none::src) (Vk K tl) (V7 K 2 (X4 (YM 0) (X4 (YM 1) V5))) Wt te σ H Q:=by
 refine ha _ ⟨b,rfl,⟨xs,hS⟩,fun D hD=>?_⟩
 have h6:100000<sizeLine:=by decide
 refine VR (We.imp fun H' (e:Yk H H')=>e.seq hS) (fun i zs σ' H'=>zs=ys.take i∧(∃ o o',σ'=o::o'::YS src σ)∧Yk H H'∧H' D=some (.lst zs)) ⟨by simp,⟨none,none,rfl⟩,.upd_new hD _,Yc⟩ (fun i zs σ' H' p=>⟨p.2.2.1,p.2.2.2⟩) (QL K 0 1) ?_ ?_
 ·rintro i zs σ' H' x hx ⟨rfl,⟨o,o',rfl⟩,sm,hd⟩
  have hi:=(List.getElem?_eq_some_iff.mp hx).1
  have hy:ys[i]?=some (ys[i]'(by omega)):=List.getElem?_eq_getElem _
  have hpi:ps[i]?=some (ps[i]'(by omega)):=List.getElem?_eq_getElem _
  obtain ⟨T,rfl,hT⟩:=hp i x _ hx hpi
  refine ⟨T,_,rfl,SqT.of (sm _ _ hT),rfl,_,_,rfl,_,_,rfl,rfl,?_⟩
  refine step i _ _ H' hpi hy sm _ fun H'' s2=>⟨s2 _ _ hd,?_,(Ux hy).symm,⟨_,_,rfl⟩,.upd_over hD (sm.trans s2) _,Yc⟩
  rw [List.length_take];omega
 ·rintro zs σ' H' ⟨rfl,_,sm,hd⟩
  rw [← hl2,List.take_length] at hd
  exact fin D H' hD sm hd
end
def Blk (H:Hp) (D:Addr) (ps:List (Int×Int)):Prop:=∃ xs:List V,H D=some (.lst xs)∧xs.length=ps.length∧∀ (i:Nat) x p,xs[i]?=some x→ps[i]?=some p→∃ T,x = .ref T∧H T=some (.tup [.int p.1,.int p.2])
structure big (a b:Int):Prop where
 ex:∃ n:Nat,n≤1000∧a.natAbs<2^n∧b.natAbs<2^n
def Z2S (K:PySem.W.Frag):Sp:=fun vs H Q _=>∃ (D:Addr) (ps:List (Int×Int)),vs=[.ref D]∧Blk H D ps∧ps.length≤1000∧(∀ p∈ps,big p.1 p.2)∧∀ H',Yk H H'→Q (.int (ps.map fun p=>p.1*p.2).sum) H'
theorem Ya9 {Z5 Zb Z7 Za Z8 Z6 Zc Z9 Z2 Z3 Z4 Z1 Z0:Addr} {c_law_asked P_law_asked:Addr} (R:g.Raw "ways_of" "ways_of" Z3x ["blocks"]) (b_sum:g.mg "sum"=none):g.Fn (1) "ways_of" ["blocks"] (Z2S g.K):=by
 refine R.fn Ya7 (fun vs H Q E h=>by obtain ⟨D,ps,rfl,⟨xs,hD,hxl,hxp⟩,hl,hb,q⟩:=h;rfl) fun f_ cdv A outer s H vs Q E hr h=>?_
 obtain ⟨D,ps,rfl,⟨xs,hD,hxl,hxp⟩,hl,hb,q⟩:=h
 refine ⟨_,(@Yh _ _ _ (@Yl _ _ _ _ (@YD _ _ _ _ _ _ _ _ _ _ b_sum W2 (@Ya _ _ _ _ _ (@Wc _ _ _ _ _ _ _ ([none,none]) ((["choices","rest"]:List Str)) _ (V7 g.K 2 (X4 (YM 0) (X4 (YM 1) V5))) _ _ (.own (.own .nil)) rfl (@XV _ _ _ _ (pv 0)) (fun cl C s₀ H₀ fp pn=>(@U0 _ _ _ _ _ (2) rfl (@XT _ _ _ _ _ (@YJ _ _ (0) _ (show List.Nodup (["choices","rest"]:List Str) by decide +kernel) rfl (.inl rfl) (.inr rfl)) (@XT _ _ _ _ _ (@YJ _ _ (1) _ (show List.Nodup (["choices","rest"]:List Str) by decide +kernel) rfl (.inl rfl) (.inr rfl)) V6 (by rfl)) (by rfl)) (by rfl) (by rfl))) (fun cl C s₀ H₀ fp pn=>Xn) (fun cl C s₀ H₀ fp pn=>(@Yn _ _ _ _ _ _ _ _ XX (pv 0) (pv 1))) (by intro x hx;simp at hx) (by rfl) (by decide) (by decide +kernel) (by intro _;rfl)) Yd (by rfl)) (by decide +kernel) (by rfl) (by rfl) (by decide) (by decide) (by rfl) (by rfl)))),?_⟩
 walk_at "rd"
 refine Yb1 (K:=g.K) (b:=D) (xs:=xs) (ps.map fun p=>(V.int p.1,V.int p.2)) (ps.map fun p=>V.int (p.1*p.2)) (fun R r=>by walk_at "rd";exact r) (SqL.of hD) ?_ (by rw [List.length_map];omega) (by rw [List.length_map];omega) (by omega) ?_ ?_
 ·intro i x p hx hp
  rw [List.getElem?_map] at hp
  obtain ⟨p',hp',rfl⟩:=Option.map_eq_some_iff.mp hp
  exact hxp i x p' hx hp'
 ·intro i p y H' hp hy sm R r
  rw [List.getElem?_map] at hp hy
  obtain ⟨p',hp',rfl⟩:=Option.map_eq_some_iff.mp hp
  rw [hp'] at hy
  have:V.int (p'.1*p'.2)=y:=Option.some.inj hy
  subst this
  obtain ⟨N,b0,b1,b2⟩:=(hb p' (List.mem_of_getElem? hp')).ex
  walk_at "rd"
  exact ⟨.inl (cm b1 b2 (by omega)),r H' (.refl _)⟩
 ·intro D' H' hD' sm hd
  refine ⟨D',rfl,ps.map fun p=>p.1*p.2,SqL.of (by rw [hd,List.map_map];rfl),q H' sm⟩
def mmf (cm pw:Addr):List (Str×V):=[("counts",.ref cm),("part",.ref pw)]
theorem ncp:¬ (("counts":Str)="part"):=by decide +kernel
theorem YdR (cm pw:Addr):YE "part" (.ref pw) (YE "counts" (.ref cm) [])=mmf cm pw:=by simp only [YE,if_neg ncp];rfl
theorem Wj (cm pw:Addr):(mmf cm pw).lookup ("counts":Str)=some (.ref cm):=rfl
theorem Qp (cm pw:Addr):(mmf cm pw).lookup ("part":Str)=some (.ref pw):=by
 show List.lookup ("part":Str) [(("counts":Str),V.ref cm),(("part":Str),V.ref pw)]=_
 rw [List.lookup_cons,show (("part":Str)==("counts":Str))=false by decide +kernel,List.lookup_cons,show (("part":Str)==("part":Str))=true by decide +kernel]
theorem WR (cm pw:Addr) {m:Str} (h1:(m==("counts":Str))=false) (h2:(m==("part":Str))=false):(mmf cm pw).lookup m=none:=by
 show List.lookup m [(("counts":Str),V.ref cm),(("part":Str),V.ref pw)]=_
 rw [List.lookup_cons,h1,List.lookup_cons,h2];rfl
structure MM (CW CM:Addr) (H:Hp) (pm pw cm cw dm dw:Addr) (lo:Int) (span m n:Nat):Prop where
 hm:H pm=some (.ins CM dm (mmf cm pw))
 hc:H cm=some (.lst (YH (mc span) m))
 hw:H pw=some (.ins CW dw (mf cw (.w lo span)))
 hv:H cw=some (.lst (YH (wc span) n))
 ne:cm≠cw
def blk (span k:Nat):List (Int×Int):=(List.range k).map fun j=>(wc span j,mc span (k - 1 - j))
theorem Yan (span k:Nat):((blk span (k+1)).map fun p=>p.1*p.2).sum=mc span (k+1):=by
 rw [Ul,blk,List.map_map]
 rfl
def Z1v (K:PySem.W.Frag) (CW CM:Addr) (l:Nat):Sp:=fun vs H Q _=>∃ (pm pw cm cw dm dw:Addr) (lo:Int) (span m n k:Nat),vs=[.ref pm,.int k]∧2≤l∧MM CW CM H pm pw cm cw dm dw lo span m n∧k≤m∧m≤40∧n≤50 ∧
 ∀ D H',H D=none→Blk H' D (blk span k)→(∀ b o,b≠cw→H b=some o→H' b=some o)→H' cw=some (.lst (YH (wc span) (max n k)))→Q (.ref D) H'
def VD (K:PySem.W.Frag) (CW CM:Addr) (l:Nat):Sp:=fun vs H Q _=>∃ (pm pw cm cw dm dw:Addr) (lo:Int) (span m n k:Nat),vs=[.ref pm,.int k]∧1≤l∧(k=0∨3≤l)∧MM CW CM H pm pw cm cw dm dw lo span m n∧k≤m∧m≤40∧n≤50∧(∀ i≤40,∀ j≤40,big (wc span i) (mc span j)) ∧
 ∀ H',(∀ b o,b≠cw→H b=some o→H' b=some o)→H' cw=some (.lst (YH (wc span) (max n k)))→Q (.int (mc span k)) H'
def Z1i (K:PySem.W.Frag) (CW CM:Addr) (l:Nat):Sp:=fun vs H Q _=>∃ (pm pw cm cw dm dw:Addr) (lo:Int) (span m n k:Nat),vs=[.ref pm,.int k]∧1≤l∧MM CW CM H pm pw cm cw dm dw lo span m n∧m≤40∧n≤50∧(k<m→Q (.int (mc span k)) H) ∧
 (m≤k→4≤l∧k<40∧(∀ i≤40,∀ j≤40,big (wc span i) (mc span j))∧∀ H' n',(∀ b o,b≠cw→b≠cm→H b=some o→H' b=some o)→n'≤50→MM CW CM H' pm pw cm cw dm dw lo span (k+1) n'→Q (.int (mc span k)) H')
theorem Yba {K:PySem.W.Frag} {CW CM:Addr} {vs:List V} {H:Hp} {Q:VK} {E:XK} (h:Z1v K CW CM 0 vs H Q E):False:=by
 obtain ⟨pm,pw,cm,cw,dm,dw,lo,span,m,n,k,_,h,_⟩:=h
 omega
theorem YcR {K:PySem.W.Frag} {CW CM:Addr} {vs:List V} {H:Hp} {Q:VK} {E:XK} (h:VD K CW CM 0 vs H Q E):False:=by
 obtain ⟨pm,pw,cm,cw,dm,dw,lo,span,m,n,k,_,h,_⟩:=h
 omega
theorem Yb2 {K:PySem.W.Frag} {CW CM:Addr} {vs:List V} {H:Hp} {Q:VK} {E:XK} (h:Z1i K CW CM 0 vs H Q E):False:=by
 obtain ⟨pm,pw,cm,cw,dm,dw,lo,span,m,n,k,_,h,_⟩:=h
 omega
theorem ZY {k:Nat} {Z5 Zb Z7 Za Z8 Z6 Zc Z9 Z2 Z3 Z4 Z1 Z0:Addr} {c_law_asked P_law_asked:Addr} (R:g.RawM Z2 "blocks_at" "ManyMaker.blocks_at" Z0h ["self","left"]) (Z2w:g.Me k Z0 "count_at" ["self","size"] (Z43 g.K Z0 Z1)) (ZW:g.Me k Z2 "count_at" ["self","size"] (Z1i g.K Z0 Z2 m)) (Zu:g.mg "range"=none) (Zi:Cls g.K Z2) (Zd:Yg g.K Z2 "counts") (Zj:Yg g.K Z2 "part") (Zn:Cls g.K Z0) (Zl:Yg g.K Z0 "counts") (Zq:Yg g.K Z0 "low") (Zo:Yg g.K Z0 "span"):g.Me (k+1) Z2 "blocks_at" ["self","left"] (Z1v g.K Z0 Z2 (m+1)):=by
 refine R.me Z1R (fun vs H Q E h=>by obtain ⟨pm,pw,cm,cw,dm,dw,lo,span,mm,n,k,rfl,hl2,M,hk,hmm,hn,q⟩:=h;rfl) fun f_ cdv A outer s H vs Q E hr h=>?_
 obtain ⟨pm,pw,cm,cw,dm,dw,lo,span,mm,n,k,rfl,hl2,M,hk,hmm,hn,q⟩:=h
 refine ⟨_,(@Yh _ _ _ (@Yl _ _ _ _ (@Wc _ _ _ _ _ _ _ ([none,some 0,some 1]) ((["first","self","left"]:List Str)) _ (YM 0) _ _ (.own (.cap (i:=0) rfl rfl (by first | exact .inl rfl | exact .inr rfl) (.cap (i:=1) rfl rfl (by first | exact .inl rfl | exact .inr rfl) .nil))) rfl (@Xc _ _ _ _ _ _ rfl Zu (@Ya _ _ _ _ _ (pv 1) Yd (by rfl)) (by rfl)) (fun cl C s₀ H₀ fp pn=>(@YJ _ _ (0) _ (show List.Nodup (["first","self","left"]:List Str) by decide +kernel) rfl (.inl rfl) (.inr rfl))) (fun cl C s₀ H₀ fp pn=>Xn) (fun cl C s₀ H₀ fp pn=>(@YZ _ _ _ _ _ (@Ya _ _ _ _ _ (@YU _ _ _ _ _ _ _ _ _ _ _ _ _ _ _ _ Z2w Zn hr (@YdK _ _ _ _ _ (g.K) (pv 1) rfl (by rfl)) (@Ya _ _ _ _ _ (pv 0) Yd (by rfl)) (by omega) (by rfl) (by rfl) (by rfl) (by rfl)) (@Ya _ _ _ _ _ (@YU _ _ _ _ _ _ _ _ _ _ _ _ _ _ _ _ ZW Zi hr (pv 1) (@Ya _ _ _ _ _ (@Yn _ _ _ _ _ _ _ _ XA (@Yn _ _ _ _ _ _ _ _ XA (pv 2) Yj) (pv 0)) Yd (by rfl)) (by omega) (by rfl) (by rfl) (by rfl) (by rfl)) Yd (by rfl)) (by rfl)))) (by intro x hx;simp at hx;first | (subst hx;exact .inl rfl) | (rcases hx with rfl | rfl<;>exact .inl rfl) | (rcases hx with rfl | rfl | rfl<;>exact .inl rfl) | (rcases hx with rfl | rfl | rfl | rfl<;>exact .inl rfl) | (rcases hx with rfl | rfl | rfl | rfl | rfl<;>exact .inl rfl)) (by rfl) (by decide) (by decide +kernel) (by intro _;rfl)))),?_⟩
 walk_at "rd"
 have nwc:pw≠cw:=Yq M.hw M.hv (by simp)
 have nmc:pm≠cw:=Yq M.hm M.hv (by simp)
 refine WX (n:=k) (fun D i zs H'=>zs.length=i∧H' D=some (.lst zs)∧(∀ b o,b≠cw→b≠D→H b=some o→H' b=some o)∧H' cw=some (.lst (YH (wc span) (max n i)))∧∀ (j:Nat) x,zs[j]?=some x→∃ T,x = .ref T∧T≠D∧T≠cw∧H' T=some (.tup [.int (wc span j),.int (mc span (k - 1 - j))])) (fun R r=>by walk_at "rd";exact r) (by omega) ?_ ?_ ?_ ?_
 ·intro D hD
  refine ⟨rfl,Yc,fun b o _ hb e=>by rw [Yb hb];exact e,?_,fun j x hx=>by simp at hx⟩
  rw [Yb (Ye M.hv hD),Nat.max_zero];exact M.hv
 ·rintro D i zs H' ⟨h1,h2,_⟩
  exact ⟨h1,h2⟩
 ·rintro D i zs H' hD hi ⟨hz,hd,fr,hv,hT⟩ R r
  have hm':=fr _ _ nmc (Ye M.hm hD) M.hm
  have hw':=fr _ _ nwc (Ye M.hw hD) M.hw
  have hc':=fr _ _ M.ne (Ye M.hc hD) M.hc
  have nDc:D≠cw:=Ne.symm (Ye M.hv hD)
  walk_at "rd"
  refine ⟨_,_,_,hm',Zi,Zj,_,Qp _ _,pw,rfl,_,_,hw',WY _ _,pw,dw,cw,lo,span,max n i,i,rfl,by omega,by omega,hw',hv,fun H2 sb hv2=>?_⟩
  rw [show max (max n i) (i+1)=max n (i+1) by omega] at hv2
  rw [show (k:Int) - 1 - (i:Int)=((k - 1 - i:Nat):Int) by omega]
  refine ⟨_,_,sb _ _ nmc hm',WR _ _ (by decide +kernel) (by decide +kernel),pm,pw,cm,cw,dm,dw,lo,span,mm,max n (i+1),k - 1 - i,rfl,by omega,⟨sb _ _ nmc hm',sb _ _ M.ne hc',sb _ _ nwc hw',hv2,M.ne⟩,hmm,by omega,fun _=>⟨few (by decide),fun T gT=>?_⟩,fun z=>absurd z (by omega)⟩
  have hd2:=sb _ _ nDc hd
  have sT:=Yk.upd_new gT (.tup [.int (wc span i),.int (mc span (k - 1 - i))])
  have nTD:T≠D:=Ne.symm (Ye hd2 gT)
  have nTc:T≠cw:=Ne.symm (Ye hv2 gT)
  refine r _ _ (sT _ _ hd2) ⟨by rw [List.length_append,hz];rfl,Yc,fun b o hb1 hb2 e=>?_,?_,fun j x hx=>?_⟩
  ·rw [Yb hb2]
   exact sT _ _ (sb _ _ hb1 (fr b o hb1 hb2 e))
  ·rw [Yb (Ne.symm nDc)]
   exact sT _ _ hv2
  ·by_cases c:j<zs.length
   ·rw [List.getElem?_append_left c] at hx
    obtain ⟨T',rfl,t1,t2,t3⟩:=hT j x hx
    exact ⟨T',rfl,t1,t2,by rw [Yb t1];exact sT _ _ (sb _ _ t2 t3)⟩
   ·have hj:j=zs.length:=by
     have:=(List.getElem?_eq_some_iff.mp hx).1
     rw [List.length_append,List.length_singleton] at this
     omega
    subst hj
    rw [List.getElem?_append_right (Nat.le_refl _),Nat.sub_self] at hx
    have:V.ref T=x:=Option.some.inj hx
    subst this
    rw [hz]
    exact ⟨T,rfl,nTD,nTc,by rw [Yb nTD];exact Yc⟩
 ·rintro D zs H' hD ⟨hz,hd,fr,hv,hT⟩
  refine q D H' hD ⟨zs,hd,by rw [hz,blk,List.length_map,List.length_range],fun i x p hx hp=>?_⟩ (fun b o hb e=>fr b o hb (Ye e hD) e) hv
  obtain ⟨T,rfl,_,_,h⟩:=hT i x hx
  have hi:i<k:=by have:=(List.getElem?_eq_some_iff.mp hx).1;omega
  rw [blk,List.getElem?_map,List.getElem?_range hi] at hp
  have:(wc span i,mc span (k - 1 - i))=p:=Option.some.inj hp
  subst this
  exact ⟨T,rfl,h⟩
theorem ZZ {k:Nat} {Z5 Zb Z7 Za Z8 Z6 Zc Z9 Z2 Z3 Z4 Z1 Z0:Addr} {c_law_asked P_law_asked:Addr} (R:g.RawM Z2 "reckoned" "ManyMaker.reckoned" Z0v ["self","size"]) (Z3C:g.Fn k "ways_of" ["blocks"] (Z2S g.K)) (Z0l:g.Me k Z2 "blocks_at" ["self","left"] (Z1v g.K Z0 Z2 m)) (Zi:Cls g.K Z2) (Zd:Yg g.K Z2 "counts") (Zj:Yg g.K Z2 "part"):g.Me (k+1) Z2 "reckoned" ["self","size"] (VD g.K Z0 Z2 (m+1)):=by
 refine R.me Z2o (fun vs H Q E h=>by obtain ⟨pm,pw,cm,cw,dm,dw,lo,span,mm,n,k,rfl,hl1,hl3,M,hk,hmm,hn,hb,q⟩:=h;rfl) fun f_ cdv A outer s H vs Q E hr h=>?_
 obtain ⟨pm,pw,cm,cw,dm,dw,lo,span,mm,n,k,rfl,hl1,hl3,M,hk,hmm,hn,hb,q⟩:=h
 refine ⟨_,(@Yh _ _ _ (@Yl _ _ _ _ (@Vw _ _ _ _ _ _ _ _ (@Yr _ _ _ _ _ _ _ _ Xd (pv 1) Yj (Yv _)) Yj (@YK _ _ _ _ _ _ _ _ _ _ _ _ Z3C hr (@Ya _ _ _ _ _ (@YU _ _ _ _ _ _ _ _ _ _ _ _ _ _ _ _ Z0l Zi hr (pv 0) (@Ya _ _ _ _ _ (pv 1) Yd (by rfl)) (by omega) (by rfl) (by rfl) (by rfl) (by rfl)) Yd (by rfl)) (by omega) (by rfl) (by rfl) (by decide) (by rfl) (by rfl))))),?_⟩
 walk_at "rd"
 refine Vy (fun c=>?_) (fun c=>?_)
 ·have e:k=0:=by omega
  subst e
  have:=q H (fun _ _ _ e=>e) (by rw [Nat.max_zero];exact M.hv)
  rw [Uk] at this
  exact this
 ·obtain ⟨i,rfl⟩:∃ i,k=i+1:=⟨k - 1,by omega⟩
  refine ⟨_,_,M.hm,WR _ _ (by decide +kernel) (by decide +kernel),pm,pw,cm,cw,dm,dw,lo,span,mm,n,i+1,rfl,by omega,M,hk,hmm,hn,fun D H' hD hB fr hv=>?_⟩
  refine ⟨D,blk span (i+1),rfl,hB,by rw [blk,List.length_map,List.length_range];omega,fun p hp=>?_,fun H2 s2=>?_⟩
  ·rw [blk] at hp
   obtain ⟨j,hj,rfl⟩:=List.mem_map.mp hp
   have hj:=List.mem_range.mp hj
   exact hb j (by omega) (i+1 - 1 - j) (by omega)
  ·rw [Yan]
   exact q H2 (fun b o hb' e=>s2 _ _ (fr b o hb' e)) (s2 _ _ hv)
theorem Z00 {k:Nat} {Z5 Zb Z7 Za Z8 Z6 Zc Z9 Z2 Z3 Z4 Z1 Z0:Addr} {c_law_asked P_law_asked:Addr} (R:g.RawM Z2 "count_at" "Maker.count_at" Z0z ["self","size"]) (Z2T:g.Me k Z2 "reckoned" ["self","size"] (VD g.K Z0 Z2 m)) (b_len:g.mg "len"=none) (Zi:Cls g.K Z2) (Zd:Yg g.K Z2 "counts") (Zj:Yg g.K Z2 "part"):g.Me (k+1) Z2 "count_at" ["self","size"] (Z1i g.K Z0 Z2 (m+1)):=by
 refine R.me Z2q (fun vs H Q E h=>by obtain ⟨pm,pw,cm,cw,dm,dw,lo,span,mm,n,k,rfl,hl1,M,hmm,hn,q1,q2⟩:=h;rfl) fun f_ cdv A outer s H vs Q E hr h=>?_
 obtain ⟨pm,pw,cm,cw,dm,dw,lo,span,mm,n,k,rfl,hl1,M,hmm,hn,q1,q2⟩:=h
 refine ⟨_,(@Yf _ _ _ _ _ (@XF _ _ _ _ _ _ PassesOwn.never (@Yr _ _ _ _ _ _ _ _ VI (@YD _ _ _ _ _ _ _ _ _ _ b_len Yx (@Ya _ _ _ _ _ (@Yo _ _ _ _ _ (pv 0) rfl) Yd (by rfl)) (by decide +kernel) (by rfl) (by rfl) (by decide) (by decide) (by rfl) (by rfl)) (pv 1) (Yv _)) (@Yh _ _ _ (@YV _ _ _ _ (@Xx _ _ _ _ _ _ _ _ _ _ _ _ PySem.F.plainAttrs_list PySem.F.slot_list_append PySem.F.type_list_append Y4 (@Yo _ _ _ _ _ (pv 0) rfl) (@Ya _ _ _ _ _ (@YU _ _ _ _ _ _ _ _ _ _ _ _ _ _ _ _ Z2T Zi hr (pv 0) (@Ya _ _ _ _ _ (@YD _ _ _ _ _ _ _ _ _ _ b_len Yx (@Ya _ _ _ _ _ (@Yo _ _ _ _ _ (pv 0) rfl) Yd (by rfl)) (by decide +kernel) (by rfl) (by rfl) (by decide) (by decide) (by rfl) (by rfl)) Yd (by rfl)) (by omega) (by rfl) (by rfl) (by rfl) (by rfl)) Yd (by rfl)) (by rfl) (by rfl) (by rfl) (by rfl) (by rfl)) (by rfl)))) (@Yh _ _ _ (@Yl _ _ _ _ (@YA _ _ _ _ _ _ _ YX (@Yo _ _ _ _ _ (pv 0) rfl) (pv 1) (fun _ _=>rfl))))),?_⟩
 walk_at "rd"
 have nmc:pm≠cw:=Yq M.hm M.hv (by simp)
 have nmm:pm≠cm:=Yq M.hm M.hc (by simp)
 have nwc:pw≠cw:=Yq M.hw M.hv (by simp)
 have nwm:pw≠cm:=Yq M.hw M.hc (by simp)
 refine Xr (α:=Nat) (fun x σ H'=>σ=[some (.ref pm),some (.int k)]∧(mm=x→H=H')∧(∀ b o,b≠cw→b≠cm→H b=some o→H' b=some o)∧mm≤x∧x≤max mm (k+1)∧∃ n',n'≤50∧MM Z0 Z2 H' pm pw cm cw dm dw lo span x n') (fun x=>decide (x≤k)) (fun x=>k+1 - x) mm ⟨rfl,fun _=>rfl,fun _ _ _ _ e=>e,Nat.le_refl _,Nat.le_max_left _ _,n,hn,M⟩ ?_ ?_ ?_
 ·rintro x σ H' ⟨rfl,h0,fr,h1,h2,n',hn',M'⟩ R r
  walk_at "rd"
  refine ⟨_,_,_,M'.hm,Zi,Zd,_,Wj _ _,_,rfl,_,.inl (SqL.of M'.hc),?_⟩
  rw [YI,dle]
  exact r H' ⟨rfl,h0,fr,h1,h2,n',hn',M'⟩
 ·rintro x σ H' ⟨rfl,h0,fr,h1,h2,n',hn',M'⟩ hd
  have hd:x≤k:=of_decide_eq_true hd
  obtain ⟨l4,hk40,hb,qq⟩:=q2 (by omega)
  walk_at "rd"
  refine ⟨_,_,_,M'.hm,Zi,Zd,_,Wj _ _,.inl ⟨rfl,_,SqL.of M'.hc⟩,_,_,M'.hm,WR _ _ (by decide +kernel) (by decide +kernel),_,_,_,M'.hm,Zi,Zd,_,Wj _ _,_,rfl,_,.inl (SqL.of M'.hc),?_⟩
  rw [YI]
  refine ⟨pm,pw,cm,cw,dm,dw,lo,span,x,n',x,rfl,by omega,.inr (by omega),M',Nat.le_refl _,by omega,hn',hb,fun H2 fr2 hv2=>⟨_,rfl,_,fr2 _ _ M'.ne M'.hc,by rw [YI];exact few (by omega),x+1,?_⟩⟩
  exact ⟨fun z=>absurd z (by omega),fun b o b1 b2 e=>by rw [Yb b2];exact fr2 _ _ b1 (fr b o b1 b2 e),by omega,by omega,⟨max n' x,by omega,⟨(Yb nmm).trans (fr2 _ _ nmc M'.hm),by rw [Yc,Xf],(Yb nwm).trans (fr2 _ _ nwc M'.hw),(Yb (Ne.symm M'.ne)).trans hv2,M'.ne⟩⟩,by omega⟩
 ·rintro x σ H' ⟨rfl,h0,fr,h1,h2,n',hn',M'⟩ hd
  have hd:¬ x≤k:=of_decide_eq_false hd
  walk_at "rd"
  refine ⟨_,_,_,M'.hm,Zi,Zd,_,Wj _ _,_,rfl,_,SqL.of M'.hc,_,Wo _ (by omega),?_⟩
  by_cases c:k<mm
  ·have e:=h0 (by omega)
   subst e
   exact q1 c
  ·obtain ⟨l4,hk40,hb,qq⟩:=q2 (by omega)
   have e:x=k+1:=by omega
   subst e
   exact qq H' n' fr hn' M'
def Z4d (K:PySem.W.Frag) (CW CM:Addr):Sp:=fun vs H Q _=>∃ (p dx pw:Addr),vs=[.ref p,.ref pw]∧H p=some (.ins CM dx [])∧∀ cl H',H cl=none→SameBut p H H'→H' p=some (.ins CM dx (mmf cl pw))→H' cl=some (.lst [])→Q .non H'
theorem Z2x {k:Nat} {Z5 Zb Z7 Za Z8 Z6 Zc Z9 Z2 Z3 Z4 Z1 Z0:Addr} {c_law_asked P_law_asked:Addr} (R:g.RawI "ManyMaker" Z2 "ManyMaker.__init__" Z0u ["self","part"]) (ZU:g.Cf k "Maker" "__init__" ["self"] (Z0H g.K Z0 Z1 Z2 Z3)) (Zi:Cls g.K Z2) (Zd:Yg g.K Z2 "counts") (Zj:Yg g.K Z2 "part"):g.Ma (k+1) "ManyMaker" Z2 ["self","part"] (Z4d g.K Z0 Z2):=by
 refine R.ma Z2n (fun vs H Q E h=>by obtain ⟨p,dx,pw,rfl,hp,q⟩:=h;rfl) fun f_ cdv A outer s H vs Q E hr h=>?_
 obtain ⟨p,dx,pw,rfl,hp,q⟩:=h
 refine ⟨_,(@Yf _ _ _ _ _ (@YV _ _ _ _ (@UR _ _ _ _ _ _ _ _ _ _ _ _ _ _ _ ZU hr (@Ya _ _ _ _ _ (pv 0) Yd (by rfl)) (by omega) (by rfl) (by rfl) (by decide) (by rfl) (by rfl) (by rfl)) (by rfl)) (@Yh _ _ _ (@Xe _ _ _ _ _ _ _ _ (pv 0) (pv 1) rfl))),?_⟩
 walk_at "rd"
 refine ⟨p,dx,_,rfl,.inr (.inr (.inl rfl)),hp,fun cl hcl=>?_⟩
 have hne:p≠cl:=Ye hp hcl
 refine ⟨_,dx,_,Yc,Zi,Zj,XS (show 1≤3 by decide),?_⟩
 refine q cl _ hcl (fun x o hx h=>?_) ?_ ?_
 ·rw [Yb hx,Yb hx,Yb (Ye h hcl)];exact h
 ·rw [Yc]
  exact congrArg some (congrArg (HO.ins _ _) (YdR cl pw))
 ·rw [Yb (Ne.symm hne),Yb (Ne.symm hne),Yc]
def lf (b:V) (d:Addr):List (Str×V):=[("book",b),("makers",.ref d)]
theorem nbm:¬ (("book":Str)="makers"):=by decide +kernel
theorem Yeu (b:V) (d:Addr):YE "makers" (.ref d) (YE "book" b [])=lf b d:=by
 simp only [YE,if_neg nbm];rfl
theorem X9 (b:V) (d:Addr):(lf b d).lookup ("makers":Str)=some (.ref d):=by
 show List.lookup ("makers":Str) [(("book":Str),b),(("makers":Str),V.ref d)]=_
 rw [List.lookup_cons,show (("makers":Str)==("book":Str))=false by decide +kernel,List.lookup_cons,show (("makers":Str)==("makers":Str))=true by decide +kernel]
theorem V0 (b:V) (d:Addr) {m:Str} (h1:(m==("book":Str))=false) (h2:(m==("makers":Str))=false):(lf b d).lookup m=none:=by
 show List.lookup m [(("book":Str),b),(("makers":Str),V.ref d)]=_
 rw [List.lookup_cons,h1,List.lookup_cons,h2];rfl
def Z4e (P:Program) (w:World) (C:Addr):Sp:=fun vs H Q _=>∃ (p dx:Addr) (b:V),vs=[.ref p,b]∧H p=some (.ins C dx [])∧∀ d H',H d=none→SameBut p H H'→H' p=some (.ins C dx (lf b d))→H' d=some (DDi P w d [])→Q .non H'
theorem Z3D {Z5 Zb Z7 Za Z8 Z6 Zc Z9 Z2 Z3 Z4 Z1 Z0:Addr} {c_law_asked P_law_asked:Addr} (R:g.RawI "Lister" Z9 "Lister.__init__" Z13 ["self","book"]) (Zx:Cls g.K Z9) (Zy:Yg g.K Z9 "book") (Zr:Yg g.K Z9 "makers"):g.Ma (1) "Lister" Z9 ["self","book"] (Z4e g.P g.w Z9):=by
 refine R.ma Z3A (fun vs H Q E h=>by obtain ⟨p,dx,b,rfl,hp,q⟩:=h;rfl) fun f_ cdv A outer s H vs Q E hr h=>?_
 obtain ⟨p,dx,b,rfl,hp,q⟩:=h
 refine ⟨_,(@Yf _ _ _ _ _ (@Xe _ _ _ _ _ _ _ _ (pv 0) (pv 1) rfl) (@Yh _ _ _ (@Xe _ _ _ _ _ _ _ _ (pv 0) YcF rfl))),?_⟩
 walk_at "rd"
 refine ⟨Z9,dx,[],hp,Zx,Zy,by decide,fun d hd=>?_⟩
 have hne:p≠d:=Ye Yc hd
 rw [Yb (Ne.symm hne)] at hd
 refine ⟨Z9,dx,_,by rw [Yb hne];exact Yc,Zx,Zr,by simp [YE],q d _ hd (fun x o hx h=>?_) ?_ ?_⟩
 ·rw [Yb hx,Yb (Ye h hd),Yb hx];exact h
 ·rw [Yc,Yeu]
 ·rw [Yb (Ne.symm hne),Yc]
  rfl
theorem Y6 {H:Hp} {a b:Addr} {o:HO} (h:upd H a o b=none):H b=none:=by
 by_cases e:b=a
 ·subst e;rw [Yc] at h;cases h
 ·rw [Yb e] at h;exact h
theorem XL {H H':Hp} {x dx:Addr} {o u:HO} (hx:H x=none) (hdx:H dx=none) (sb:SameBut x (upd (upd H dx o) x u) H'):Yk H H':=fun y z h=>by
 have n1:y≠x:=Ye h hx
 have n2:y≠dx:=Ye h hdx
 exact sb _ _ n1 (by rw [Yb n1,Yb n2];exact h)
def fnd:List (Int×Int)→Int→Nat×Int×Int
 | [],n=>(0,n,0)
 | p::ps,n=>if p.1*p.2≤n then ((fnd ps (n - p.1*p.2)).1+1,(fnd ps (n - p.1*p.2)).2) else (0,n / p.2,n%p.2)
def ffs (pl:Nat) (c r:Int):List (Str×V):=[("place",.int pl),("choice",.int c),("rest",.int r)]
def Z4f (C:Addr):Sp:=fun vs H Q _=>∃ (p dx:Addr) (pl:Nat) (c r:Int),vs=[.ref p,.int pl,.int c,.int r]∧H p=some (.ins C dx [])∧∀ H',SameBut p H H'→H' p=some (.ins C dx (ffs pl c r))→Q .non H'
theorem npl1:¬ (("place":Str)="choice"):=by decide +kernel
theorem npl2:¬ (("place":Str)="rest"):=by decide +kernel
theorem npl3:¬ (("choice":Str)="rest"):=by decide +kernel
theorem YdS (pl:Nat) (c r:Int):YE "rest" (.int r) (YE "choice" (.int c) (YE "place" (.int pl) []))=ffs pl c r:=by
 simp only [YE,if_neg npl1,if_neg npl2,if_neg npl3];rfl
theorem Z3W {Z5 Zb Z7 Za Z8 Z6 Zc Z9 Z2 Z3 Z4 Z1 Z0:Addr} {c_law_asked P_law_asked:Addr} (R:g.RawI "Found" Zc "Found.__init__" Z1b ["self","place","choice","rest"]) (ZH:Cls g.K Zc) (ZA:Yg g.K Zc "place") (ZD:Yg g.K Zc "choice") (ZM:Yg g.K Zc "rest"):g.Ma (1) "Found" Zc ["self","place","choice","rest"] (Z4f Zc):=by
 refine R.ma Z3S (fun vs H Q E h=>by obtain ⟨p,dx,pl,c,r,rfl,hp,q⟩:=h;rfl) fun f_ cdv A outer s H vs Q E hr h=>?_
 obtain ⟨p,dx,pl,c,r,rfl,hp,q⟩:=h
 refine ⟨_,(@Yf _ _ _ _ _ (@Xe _ _ _ _ _ _ _ _ (pv 0) (pv 1) rfl) (@Yf _ _ _ _ _ (@Xe _ _ _ _ _ _ _ _ (pv 0) (pv 2) rfl) (@Yh _ _ _ (@Xe _ _ _ _ _ _ _ _ (pv 0) (pv 3) rfl)))),?_⟩
 walk_at "rd"
 refine ⟨_,dx,_,hp,ZH,ZA,by decide,_,dx,_,Yc,ZH,ZD,XS (Nat.le_trans (Xl _ _ _) (show 1≤3 by decide)),_,dx,_,Yc,ZH,ZM,XS (Nat.le_trans (Xl _ _ _) (Nat.succ_le_succ (Nat.le_trans (Xl _ _ _) (show 1≤2 by decide)))),?_⟩
 refine q _ (fun x o hx h=>by rw [Yb hx,Yb hx,Yb hx];exact h) ?_
 rw [Yc]
 exact congrArg some (congrArg (HO.ins _ _) (YdS pl c r))
def X3 (ps:List (Int×Int)):Int:=(ps.map fun p=>p.1*p.2).sum
theorem UA (p:Int×Int) (ps:List (Int×Int)):X3 (p::ps)=p.1*p.2+X3 ps:=by simp [X3]
theorem Yao {α:Type} {ps:List α} {i:Nat} {p:α} (h:ps[i]?=some p):ps.drop i=p::ps.drop (i+1):=by
 obtain ⟨hi,e⟩:=List.getElem?_eq_some_iff.mp h
 rw [List.drop_eq_getElem_cons hi,e]
def Z1X (K:PySem.W.Frag) (C:Addr):Sp:=fun vs H Q _=>∃ (D:Addr) (ps:List (Int×Int)) (n:Int),vs=[.ref D,.int n]∧Blk H D ps∧ps.length≤1000∧(∀ p∈ps,big p.1 p.2)∧(∀ p∈ps,0≤p.1∧0≤p.2)∧0≤n∧n<X3 ps ∧
 ∀ f dx H',Yk H H'→H f=none→H' f=some (.ins C dx (ffs (fnd ps n).1 (fnd ps n).2.1 (fnd ps n).2.2))→Q (.ref f) H'
theorem QS {k:Nat} {Z5 Zb Z7 Za Z8 Z6 Zc Z9 Z2 Z3 Z4 Z1 Z0:Addr} {c_law_asked P_law_asked:Addr} (R:g.Raw "found_in" "found_in" Z2I ["blocks","number"]) {j_Found___init__:Nat} (Z49:g.Ma j_Found___init__ "Found" Zc ["self","place","choice","rest"] (Z4f Zc)) (h_Found___init__:j_Found___init__+1≤k):g.Fn (k+1) "found_in" ["blocks","number"] (Z1X g.K Zc):=by
 refine R.fn Z0I (fun vs H Q E h=>by obtain ⟨D,ps,n,rfl,⟨xs,hD,hxl,hxp⟩,hl,hb,hp,h0,hn,q⟩:=h;rfl) fun f_ cdv A outer s H vs Q E hr h=>?_
 obtain ⟨D,ps,n,rfl,⟨xs,hD,hxl,hxp⟩,hl,hb,hp,h0,hn,q⟩:=h
 refine ⟨_,(@Yf _ _ _ _ _ (@Yp _ _ (2) _ _ _ _ Z0I.nd rfl (.inl rfl) Yj (by rfl) (by first | exact .inl rfl | exact .inr rfl | assumption)) (@Yf _ _ _ _ _ (@Yp _ _ (3) _ _ _ _ Z0I.nd rfl (.inl rfl) (pv 1) (by rfl) (by first | exact .inl rfl | exact .inr rfl | assumption)) (@Yf _ _ _ _ _ (@XF _ _ _ _ _ _ PassesOwn.never (@Yr _ _ _ _ _ _ _ _ op_ge (pv 3) (@Yn _ _ _ _ _ _ _ _ XX (@YA _ _ _ _ _ _ _ Y2 (@YA _ _ _ _ _ _ _ YX (pv 0) (pv 2) (fun _ _=>rfl)) Yj (fun _ _=>rfl)) (@YA _ _ _ _ _ _ _ Y2 (@YA _ _ _ _ _ _ _ YX (pv 0) (pv 2) (fun _ _=>rfl)) Yj (fun _ _=>rfl))) (Yv _)) (@Yf _ _ _ _ _ (@VF _ _ (3) _ _ _ _ _ _ Z0I.nd rfl (.inl rfl) (@Yn _ _ _ _ _ _ _ _ XX (@YA _ _ _ _ _ _ _ Y2 (@YA _ _ _ _ _ _ _ YX (pv 0) (pv 2) (fun _ _=>rfl)) Yj (fun _ _=>rfl)) (@YA _ _ _ _ _ _ _ Y2 (@YA _ _ _ _ _ _ _ YX (pv 0) (pv 2) (fun _ _=>rfl)) Yj (fun _ _=>rfl))) U1 (by first | exact .inl rfl | exact .inr rfl | assumption)) (@Yh _ _ _ (@VF _ _ (2) _ _ _ _ _ _ Z0I.nd rfl (.inl rfl) Yj Yd5 (by first | exact .inl rfl | exact .inr rfl | assumption))))) (@Yf _ _ _ _ _ (@Yp _ _ (4) _ _ _ _ Z0I.nd rfl (.inl rfl) (@YA _ _ _ _ _ _ _ Y2 (@YA _ _ _ _ _ _ _ YX (pv 0) (pv 2) (fun _ _=>rfl)) Yj (fun _ _=>rfl)) (by rfl) (by first | exact .inl rfl | exact .inr rfl | assumption)) (@Yh _ _ _ (@Yl _ _ _ _ (@WU _ _ _ _ _ _ _ _ _ _ _ _ _ Z49 hr (@Ya _ _ _ _ _ (pv 2) (@Ya _ _ _ _ _ (@Yn _ _ _ _ _ _ _ _ Wu (pv 3) (pv 4)) (@Ya _ _ _ _ _ (@Yn _ _ _ _ _ _ _ _ Y9 (pv 3) (pv 4)) Yd (by rfl)) (by rfl)) (by rfl)) (by omega) (by rfl) (by rfl) (by decide) (by rfl) (by rfl)))))))),?_⟩
 walk_at "rd"
 refine Xr (α:=Nat×Int) (fun x σ H'=>σ=[some (.ref D),some (.int n),some (.int (x.1:Nat)),some (.int x.2),none]∧H=H'∧0≤x.2∧x.2<X3 (ps.drop x.1)∧fnd ps n=(x.1+(fnd (ps.drop x.1) x.2).1,(fnd (ps.drop x.1) x.2).2)∧x.1≤ps.length) (fun x=>decide ((ps.getD x.1 (0,0)).1*(ps.getD x.1 (0,0)).2≤x.2)) (fun x=>ps.length - x.1) (0,n) ⟨rfl,rfl,h0,hn,by simp,Nat.zero_le _⟩ ?_ ?_ ?_
 ·rintro ⟨i,l⟩ σ H' ⟨rfl,rfl,g0,g1,g2,g3⟩ R r
  dsimp only at g0 g1 g2 g3
  have hi:i<ps.length:=by
   rcases Nat.lt_or_ge i ps.length with c | c
   ·exact c
   ·rw [List.drop_eq_nil_of_le c] at g1;simp [X3] at g1;omega
  have hpi:ps[i]?=some ps[i]:=List.getElem?_eq_getElem hi
  have hxi:xs[i]?=some (xs[i]'(by omega)):=List.getElem?_eq_getElem _
  obtain ⟨T,eT,hT⟩:=hxp i _ _ hxi hpi
  obtain ⟨N,b0,b1,b2⟩:=(hb _ (List.mem_of_getElem? hpi)).ex
  have rr:=r H ⟨rfl,rfl,g0,g1,g2,g3⟩
  have eg:ps.getD i (0,0)=ps[i]:=by rw [List.getD_eq_getElem?_getD,hpi];rfl
  dsimp only at rr
  rw [eg] at rr
  walk_at "rd"
  exact ⟨_,SqL.of hD,_,Xm hxi,T,eT,_,SqT.of hT,_,rfl,_,SqL.of hD,_,Xm hxi,T,eT,_,SqT.of hT,_,rfl,_,rfl,_,rfl,.inl (cm b1 b2 (by omega)),rr⟩
 ·rintro ⟨i,l⟩ σ H' ⟨rfl,rfl,g0,g1,g2,g3⟩ hcond
  dsimp only at g0 g1 g2 g3
  have hi:i<ps.length:=by
   rcases Nat.lt_or_ge i ps.length with c | c
   ·exact c
   ·rw [List.drop_eq_nil_of_le c] at g1;simp [X3] at g1;omega
  have hpi:ps[i]?=some ps[i]:=List.getElem?_eq_getElem hi
  have hxi:xs[i]?=some (xs[i]'(by omega)):=List.getElem?_eq_getElem _
  obtain ⟨T,eT,hT⟩:=hxp i _ _ hxi hpi
  obtain ⟨N,b0,b1,b2⟩:=(hb _ (List.mem_of_getElem? hpi)).ex
  have eg:ps.getD i (0,0)=ps[i]:=by rw [List.getD_eq_getElem?_getD,hpi];rfl
  have edr:=Yao hpi
  dsimp only at hcond
  rw [eg,decide_eq_true_iff] at hcond
  rw [edr,UA] at g1
  rw [edr,fnd,if_pos hcond] at g2
  walk_at "rd"
  refine ⟨_,SqL.of hD,_,Xm hxi,T,eT,_,SqT.of hT,_,rfl,_,SqL.of hD,_,Xm hxi,T,eT,_,SqT.of hT,_,rfl,_,rfl,_,rfl,.inl (cm b1 b2 (by omega)),(i+1,l - ps[i].1*ps[i].2),by simp,rfl,by dsimp only;omega,by dsimp only;omega,?_,hi,by dsimp only;omega⟩
  rw [g2]
  dsimp only
  rw [show i+((fnd (ps.drop (i+1)) (l - ps[i].1*ps[i].2)).1+1)=i+1+(fnd (ps.drop (i+1)) (l - ps[i].1*ps[i].2)).1 by omega]
 ·rintro ⟨i,l⟩ σ H' ⟨rfl,rfl,g0,g1,g2,g3⟩ hcond
  dsimp only at g0 g1 g2 g3
  have hi:i<ps.length:=by
   rcases Nat.lt_or_ge i ps.length with c | c
   ·exact c
   ·rw [List.drop_eq_nil_of_le c] at g1;simp [X3] at g1;omega
  have hpi:ps[i]?=some ps[i]:=List.getElem?_eq_getElem hi
  have hxi:xs[i]?=some (xs[i]'(by omega)):=List.getElem?_eq_getElem _
  obtain ⟨T,eT,hT⟩:=hxp i _ _ hxi hpi
  obtain ⟨N,b0,b1,b2⟩:=(hb _ (List.mem_of_getElem? hpi)).ex
  have eg:ps.getD i (0,0)=ps[i]:=by rw [List.getD_eq_getElem?_getD,hpi];rfl
  have edr:=Yao hpi
  dsimp only at hcond
  rw [eg,decide_eq_false_iff_not] at hcond
  rw [edr,fnd,if_neg hcond] at g2
  have hp2:0<ps[i].2:=by
   rcases Int.lt_or_eq_of_le (hp _ (List.mem_of_getElem? hpi)).2 with c | c
   ·exact c
   ·rw [← c,Int.mul_zero] at hcond;omega
  walk_at "rd"
  refine ⟨_,SqL.of hD,_,Xm hxi,T,eT,_,SqT.of hT,_,rfl,_,rfl,⟨hp2,Nat.lt_of_lt_of_le b2 (Nat.pow_le_pow_right (by decide) (Nat.le_trans b0 (by decide)))⟩,_,rfl,hp2,fun f dx hf hdx hne=>⟨f,dx,i,_,_,rfl,Yc,fun H' sb h=>⟨rfl,q f dx H' (XL hf hdx sb) hf ?_⟩⟩⟩
  rw [g2]
  exact h
theorem Qq:∀ (ps:List (Int×Int)) (n:Int),0≤n→n<X3 ps→(∀ p∈ps,0≤p.1∧0≤p.2)→∃ p,ps[(fnd ps n).1]?=some p∧0≤(fnd ps n).2.2∧(fnd ps n).2.2<p.2
 | [],n,h0,h1,_=>by simp [X3] at h1;omega
 | p::ps,n,h0,h1,hp=>by
  rw [UA] at h1
  by_cases c:p.1*p.2≤n
  ·obtain ⟨q,g1,g2,g3⟩:=Qq ps (n - p.1*p.2) (by omega) (by omega) fun q hq=>hp q (.tail _ hq)
   rw [fnd,if_pos c]
   exact ⟨q,by simpa using g1,g2,g3⟩
  ·rw [fnd,if_neg c]
   have h2:0<p.2:=by
    rcases Int.lt_or_eq_of_le (hp p (.head _)).2 with z | z
    ·exact z
    ·rw [← z,Int.mul_zero] at c;omega
   exact ⟨p,rfl,Int.emod_nonneg _ (by omega),Int.emod_lt_of_pos _ h2⟩
def mv (lo:Int) (span:Nat):Nat→Int→List V
 | 0,_=>[]
 | l+1,r => .int (lo+1*2^(fnd (blk span (l+1)) r).1 / 2^1+(fnd (blk span (l+1)) r).2.1)::mv lo span (l - (fnd (blk span (l+1)) r).1) (fnd (blk span (l+1)) r).2.2
termination_by l=>l
decreasing_by omega
theorem Yb3 (lo:Int) (span:Nat):∀ (l:Nat) (r:Int),(mv lo span l r).length≤l
 | 0,r=>by rw [mv];exact Nat.zero_le _
 | l+1,r=>by
  rw [mv,List.length_cons]
  have:=Yb3 lo span (l - (fnd (blk span (l+1)) r).1) (fnd (blk span (l+1)) r).2.2
  omega
termination_by l=>l
decreasing_by omega
theorem Vg (span:Int) (k:Nat):0≤wc span k:=by
 unfold wc
 split
 ·split<;>omega
 ·split<;>omega
theorem Wk:∀ l:List Int,(∀ x∈l,0≤x)→0≤l.sum
 | [],_=>by simp
 | a::l,h=>by
  rw [List.sum_cons]
  have h1:=h a (.head _)
  have h2:=Wk l fun x hx=>h x (.tail _ hx)
  omega
theorem WG (span:Nat):∀ k,0≤mc span k
 | 0=>by rw [Uk];decide
 | k+1=>by
  rw [Ul]
  refine Wk _ fun x hx=>?_
  obtain ⟨j,hj,rfl⟩:=List.mem_map.mp hx
  exact Int.mul_nonneg (Vg _ _) (WG span (k - j))
termination_by k=>k
decreasing_by omega
theorem Qr (span k:Nat):X3 (blk span (k+1))=mc span (k+1):=Yan span k
theorem YdT {span l:Nat} {r:Int} (h0:0≤r) (h1:r<mc span (l+1)):(fnd (blk span (l+1)) r).1≤l∧0≤(fnd (blk span (l+1)) r).2.2∧(fnd (blk span (l+1)) r).2.2<mc span (l - (fnd (blk span (l+1)) r).1):=by
 obtain ⟨p,g1,g2,g3⟩:=Qq (blk span (l+1)) r h0 (by rw [Qr];exact h1) fun p hp=>by
  rw [blk] at hp
  obtain ⟨j,_,rfl⟩:=List.mem_map.mp hp
  exact ⟨Vg _ _,WG _ _⟩
 have key:∀ i,(blk span (l+1))[i]?=some p→i<l+1∧p=(wc span i,mc span (l+1 - 1 - i)):=fun i h=>by
  have hi:=(List.getElem?_eq_some_iff.mp h).1
  rw [blk,List.length_map,List.length_range] at hi
  rw [blk,List.getElem?_map,List.getElem?_range hi] at h
  exact ⟨hi,(Option.some.inj h).symm⟩
 obtain ⟨k1,k2⟩:=key _ g1
 subst k2
 exact ⟨by omega,g2,g3⟩
theorem WH (pl:Nat) (c r:Int):(ffs pl c r).lookup ("place":Str)=some (.int pl):=rfl
theorem V1 (pl:Nat) (c r:Int):(ffs pl c r).lookup ("choice":Str)=some (.int c):=by
 show List.lookup ("choice":Str) [(("place":Str),_),(("choice":Str),V.int c),(("rest":Str),_)]=_
 rw [List.lookup_cons,show (("choice":Str)==("place":Str))=false by decide +kernel,List.lookup_cons,show (("choice":Str)==("choice":Str))=true by decide +kernel]
theorem Qs (pl:Nat) (c r:Int):(ffs pl c r).lookup ("rest":Str)=some (.int r):=by
 show List.lookup ("rest":Str) [(("place":Str),_),(("choice":Str),V.int c),(("rest":Str),V.int r)]=_
 rw [List.lookup_cons,show (("rest":Str)==("place":Str))=false by decide +kernel,List.lookup_cons,show (("rest":Str)==("choice":Str))=false by decide +kernel,List.lookup_cons,show (("rest":Str)==("rest":Str))=true by decide +kernel]
def Z1Y (K:PySem.W.Frag) (CW CM:Addr):Sp:=fun vs H Q _=>∃ (pm pw cm cw dm dw:Addr) (lo:Int) (span m n k:Nat) (j:Int),vs=[.ref pm,.int k,.int j]∧MM CW CM H pm pw cm cw dm dw lo span m n∧k≤m∧m≤40∧n≤50∧(∀ i≤40,∀ j≤40,big (wc span i) (mc span j))∧0≤j∧j<mc span k ∧
 ∀ D H' n',H D=none→(∀ b o,b≠cw→H b=some o→H' b=some o)→n'≤50→H' cw=some (.lst (YH (wc span) n'))→H' D=some (.lst (mv lo span k j))→Q (.ref D) H'
theorem Z2y {k:Nat} {Z5 Zb Z7 Za Z8 Z6 Zc Z9 Z2 Z3 Z4 Z1 Z0:Addr} {c_law_asked P_law_asked:Addr} (R:g.RawM Z2 "value_at" "ManyMaker.value_at" Z0w ["self","size","number"]) (Z2U:g.Fn k "found_in" ["blocks","number"] (Z1X g.K Zc)) (Z2z:g.Me k Z0 "value_at" ["self","size","number"] (Z44 g.K Z0 Z1)) (Z0l:g.Me k Z2 "blocks_at" ["self","left"] (Z1v g.K Z0 Z2 4)) (ZH:Cls g.K Zc) (ZA:Yg g.K Zc "place") (ZD:Yg g.K Zc "choice") (ZM:Yg g.K Zc "rest") (Zi:Cls g.K Z2) (Zd:Yg g.K Z2 "counts") (Zj:Yg g.K Z2 "part") (Zn:Cls g.K Z0) (Zl:Yg g.K Z0 "counts") (Zq:Yg g.K Z0 "low") (Zo:Yg g.K Z0 "span"):g.Me (k+1) Z2 "value_at" ["self","size","number"] (Z1Y g.K Z0 Z2):=by
 refine R.me ZC (fun vs H Q E h=>by obtain ⟨pm,pw,cm,cw,dm,dw,lo,span,m,n,k,j,rfl,M,hk,hm,hn,hb,h0,h1,q⟩:=h;rfl) fun f_ cdv A outer s H vs Q E hr h=>?_
 obtain ⟨pm,pw,cm,cw,dm,dw,lo,span,m,n,k,j,rfl,M,hk,hm,hn,hb,h0,h1,q⟩:=h
 refine ⟨_,(@Yf _ _ _ _ _ (@Yp _ _ (3) _ _ _ _ ZC.nd rfl (.inl rfl) (@Xq _ _ _ _ Yd) (by rfl) (by first | exact .inl rfl | exact .inr rfl | assumption)) (@Yf _ _ _ _ _ (@Yp _ _ (4) _ _ _ _ ZC.nd rfl (.inl rfl) (pv 1) (by rfl) (by first | exact .inl rfl | exact .inr rfl | assumption)) (@Yf _ _ _ _ _ (@Yp _ _ (5) _ _ _ _ ZC.nd rfl (.inl rfl) (pv 2) (by rfl) (by first | exact .inl rfl | exact .inr rfl | assumption)) (@Yf _ _ _ _ _ (@XF _ _ _ _ _ _ PassesOwn.never (@Yr _ _ _ _ _ _ _ _ UN (pv 4) Yj (Yv _)) (@Yf _ _ _ _ _ (@Yp _ _ (6) _ _ _ _ ZC.nd rfl (.inl rfl) (@YK _ _ _ _ _ _ _ _ _ _ _ _ Z2U hr (@Ya _ _ _ _ _ (@YU _ _ _ _ _ _ _ _ _ _ _ _ _ _ _ _ Z0l Zi hr (pv 0) (@Ya _ _ _ _ _ (pv 4) Yd (by rfl)) (by omega) (by rfl) (by rfl) (by rfl) (by rfl)) (@Ya _ _ _ _ _ (pv 5) Yd (by rfl)) (by rfl)) (by omega) (by rfl) (by rfl) (by decide) (by rfl) (by rfl)) (by rfl) (by first | exact .inl rfl | exact .inr rfl | assumption)) (@Yf _ _ _ _ _ (@YV _ _ _ _ (@Xx _ _ _ _ _ _ _ _ _ _ _ _ PySem.F.plainAttrs_list PySem.F.slot_list_append PySem.F.type_list_append Y4 (pv 3) (@Ya _ _ _ _ _ (@YU _ _ _ _ _ _ _ _ _ _ _ _ _ _ _ _ Z2z Zn hr (@Yo _ _ _ _ _ (pv 0) rfl) (@Ya _ _ _ _ _ (@Yo _ _ _ _ _ (pv 6) rfl) (@Ya _ _ _ _ _ (@Yo _ _ _ _ _ (pv 6) rfl) Yd (by rfl)) (by rfl)) (by omega) (by rfl) (by rfl) (by rfl) (by rfl)) Yd (by rfl)) (by rfl) (by rfl) (by rfl) (by rfl) (by rfl)) (by rfl)) (@Yf _ _ _ _ _ (@VF _ _ (4) _ _ _ _ _ _ ZC.nd rfl (.inl rfl) (@Yn _ _ _ _ _ _ _ _ Y1 Yj (@Yo _ _ _ _ _ (pv 6) rfl)) U1 (by first | exact .inl rfl | exact .inr rfl | assumption)) (@Yh _ _ _ (@Yp _ _ (5) _ _ _ _ ZC.nd rfl (.inl rfl) (@Yo _ _ _ _ _ (pv 6) rfl) (by rfl) (by first | exact .inl rfl | exact .inr rfl | assumption))))))) (@Yh _ _ _ (@Yl _ _ _ _ (pv 3))))))),?_⟩
 walk_at "rd"
 refine ⟨few (by decide),fun D hD=>?_⟩
 have nmc:pm≠cw:=Yq M.hm M.hv (by simp)
 have nwc:pw≠cw:=Yq M.hw M.hv (by simp)
 have nDc:D≠cw:=Ne.symm (Ye M.hv hD)
 refine Xr (α:=List V×Nat×Int) (fun x σ H'=>(∃ o6,σ=[some (.ref pm),some (.int k),some (.int j),some (.ref D),some (.int (x.2.1:Nat)),some (.int x.2.2),o6])∧(∀ b o,b≠cw→H b=some o→H' b=some o)∧H' D=some (.lst x.1)∧mv lo span k j=x.1++mv lo span x.2.1 x.2.2∧x.1.length+x.2.1≤k∧0≤x.2.2∧x.2.2<mc span x.2.1∧∃ n',n'≤50∧H' cw=some (.lst (YH (wc span) n'))) (fun x=>decide (0<x.2.1)) (fun x=>x.2.1) ([],k,j) ⟨⟨_,rfl⟩,fun b o _ e=>(Yk.upd_new hD _) _ _ e,Yc,rfl,by simp,h0,h1,n,hn,(Yk.upd_new hD _) _ _ M.hv⟩ ?_ ?_ ?_
 ·rintro ⟨ts,l,r⟩ σ H' ⟨⟨o6,rfl⟩,g⟩ R rr
  have:=rr H' ⟨⟨o6,rfl⟩,g⟩
  walk_at "rd"
  simpa using this
 ·rintro ⟨ts,l,r⟩ σ H' ⟨⟨o6,rfl⟩,fr,hd,he,hlen,r0,r1,n',hn',hv⟩ hcond
  have hl:0<l:=of_decide_eq_true hcond
  obtain ⟨i,rfl⟩:∃ i,l=i+1:=⟨l - 1,by omega⟩
  dsimp only at hd he hlen r0 r1
  have hm':=fr _ _ nmc M.hm
  have hw':=fr _ _ nwc M.hw
  have hc':=fr _ _ M.ne M.hc
  obtain ⟨p1,p2,p3⟩:=YdT r0 r1
  walk_at "rd"
  refine ⟨_,_,hm',WR _ _ (by decide +kernel) (by decide +kernel),pm,pw,cm,cw,dm,dw,lo,span,m,n',i+1,rfl,by decide,⟨hm',hc',hw',hv,M.ne⟩,by omega,hm,hn',fun B H1 gB hB fr1 hv1=>?_⟩
  refine ⟨B,blk span (i+1),r,rfl,hB,by rw [blk,List.length_map,List.length_range];omega,fun p hp=>?_,fun p hp=>?_,r0,by rw [Qr];exact r1,fun f dxf H2 s2 gf hf=>?_⟩
  ·rw [blk] at hp
   obtain ⟨z,hz,rfl⟩:=List.mem_map.mp hp
   have hz:=List.mem_range.mp hz
   exact hb z (by omega) (i+1 - 1 - z) (by omega)
  ·rw [blk] at hp
   obtain ⟨z,hz,rfl⟩:=List.mem_map.mp hp
   exact ⟨Vg _ _,WG _ _⟩
  have hd2:=s2 _ _ (fr1 _ _ nDc hd)
  have hm2:=s2 _ _ (fr1 _ _ nmc hm')
  have hw2:=s2 _ _ (fr1 _ _ nwc hw')
  have hv2:=s2 _ _ hv1
  have nfD:f≠D:=Ne.symm (Ye (fr1 _ _ nDc hd) gf)
  have hf3:=(Yb (H:=H2) (o := .lst (ts++[.int (lo+1*2^(fnd (blk span (i+1)) r).1 / 2^1+(fnd (blk span (i+1)) r).2.1)])) nfD).trans hf
  have hmv:mv lo span (i+1) r = .int (lo+1*2^(fnd (blk span (i+1)) r).1 / 2^1+(fnd (blk span (i+1)) r).2.1)::mv lo span (i - (fnd (blk span (i+1)) r).1) (fnd (blk span (i+1)) r).2.2:=by rw [mv]
  refine ⟨.inl ⟨rfl,_,SqL.of hd2⟩,_,_,_,hm2,Zi,Zj,_,Qp _ _,pw,rfl,_,_,hw2,UX _ _ (by decide +kernel) (by decide +kernel) (by decide +kernel) (by decide +kernel),f,rfl,_,_,_,hf,ZH,ZA,_,WH _ _ _,f,rfl,_,_,_,hf,ZH,ZD,_,V1 _ _ _,pw,dw,cw,lo,_,span,_,rfl,by omega,hw2,_,hd2,few (by omega),?_⟩
  refine ⟨f,rfl,_,_,_,hf3,ZH,ZA,_,WH _ _ _,_,rfl,f,rfl,_,_,_,hf3,ZH,ZM,_,Qs _ _ _,(ts++[.int (lo+1*2^(fnd (blk span (i+1)) r).1 / 2^1+(fnd (blk span (i+1)) r).2.1)],i - (fnd (blk span (i+1)) r).1,(fnd (blk span (i+1)) r).2.2),?_,rfl,fun z o hz e=>?_,Yc,?_,?_,p2,p3,⟨max n' (i+1),?_,?_⟩,?_⟩
  ·dsimp only;omega
  ·rw [Yb (Ye e hD)]
   exact s2 _ _ (fr1 _ _ hz (fr z o hz e))
  ·rw [he,hmv,List.append_assoc]
   rfl
  ·dsimp only
   rw [List.length_append,List.length_singleton]
   omega
  ·omega
  ·rw [Yb (Ne.symm nDc)]
   exact hv2
  ·dsimp only;omega
 ·rintro ⟨ts,l,r⟩ σ H' ⟨⟨o6,rfl⟩,fr,hd,he,hlen,r0,r1,n',hn',hv⟩ hcond
  have hl:l=0:=by have:=of_decide_eq_false hcond;dsimp only at this;omega
  subst hl
  dsimp only at hd he
  rw [mv,List.append_nil] at he
  walk_at "rd"
  exact q D H' n' hD fr hn' hv (by rw [hd,he])
def rtf (P W:Addr):List (Str×V):=[("parts",.ref P),("ways",.ref W)]
def rmf (c P T:Addr):List (Str×V):=[("counts",.ref c),("parts",.ref P),("table",.ref T)]
theorem Xj (P W:Addr):(rtf P W).lookup ("ways":Str)=some (.ref W):=by
 show List.lookup ("ways":Str) [(("parts":Str),V.ref P),(("ways":Str),V.ref W)]=_
 rw [List.lookup_cons,show (("ways":Str)==("parts":Str))=false by decide +kernel,List.lookup_cons,show (("ways":Str)==("ways":Str))=true by decide +kernel]
theorem WS (P W:Addr) {m:Str} (h1:(m==("parts":Str))=false) (h2:(m==("ways":Str))=false):(rtf P W).lookup m=none:=by
 show List.lookup m [(("parts":Str),V.ref P),(("ways":Str),V.ref W)]=_
 rw [List.lookup_cons,h1,List.lookup_cons,h2];rfl
theorem Yb4 (c P T:Addr):(rmf c P T).lookup ("parts":Str)=some (.ref P):=by
 show List.lookup ("parts":Str) [(("counts":Str),V.ref c),(("parts":Str),V.ref P),(("table":Str),V.ref T)]=_
 rw [List.lookup_cons,show (("parts":Str)==("counts":Str))=false by decide +kernel,List.lookup_cons,show (("parts":Str)==("parts":Str))=true by decide +kernel]
theorem UB (c P T:Addr):(rmf c P T).lookup ("table":Str)=some (.ref T):=by
 show List.lookup ("table":Str) [(("counts":Str),V.ref c),(("parts":Str),V.ref P),(("table":Str),V.ref T)]=_
 rw [List.lookup_cons,show (("table":Str)==("counts":Str))=false by decide +kernel,List.lookup_cons,show (("table":Str)==("parts":Str))=false by decide +kernel,List.lookup_cons,show (("table":Str)==("table":Str))=true by decide +kernel]
theorem Qt (c P T:Addr) {m:Str} (h1:(m==("counts":Str))=false) (h2:(m==("parts":Str))=false) (h3:(m==("table":Str))=false):(rmf c P T).lookup m=none:=by
 show List.lookup m [(("counts":Str),V.ref c),(("parts":Str),V.ref P),(("table":Str),V.ref T)]=_
 rw [List.lookup_cons,h1,List.lookup_cons,h2,List.lookup_cons,h3];rfl
def r2 (k:Nat):Int:=if k=0 then 1 else 0
def r1 (s2:List Nat) (k:Nat):Int:=((List.range (k+1)).map fun j=>cnt (.t s2) j*r2 (k - j)).sum
def r0 (s1 s2:List Nat) (k:Nat):Int:=((List.range (k+1)).map fun j=>cnt (.t s1) j*r1 s2 (k - j)).sum
def rr (s1 s2:List Nat):Nat→Nat→Int
 | 0=>r0 s1 s2
 | 1=>r1 s2
 | _=>r2
def pt (s1 s2:List Nat):Nat→List Nat
 | 0=>s1
 | _=>s2
def rb (s1 s2:List Nat) (pl k:Nat):List (Int×Int):=(List.range (k+1)).map fun j=>(cnt (.t (pt s1 s2 pl)) j,rr s1 s2 (pl+1) (k - j))
theorem V2 {s1 s2:List Nat} {pl k:Nat} (h:pl<2):X3 (rb s1 s2 pl k)=rr s1 s2 pl k:=by
 have:pl=0∨pl=1:=by omega
 rcases this with rfl | rfl<;>(rw [X3,rb,List.map_map];rfl)
theorem Vh (s1 s2:List Nat) (pl k:Nat):(rb s1 s2 pl k).length=k+1:=by simp [rb]
theorem VY {n:Nat}:∀ {l:List Int},(∀ x∈l,x.natAbs≤n)→l.sum.natAbs≤l.length*n
 | [],_=>by simp
 | x::l,h=>by
  have h1:=h x (.head _)
  have h2:=VY fun y hy=>h y (.tail _ hy)
  rw [List.sum_cons,List.length_cons,Nat.add_mul]
  have:=Int.natAbs_add_le x l.sum
  omega
theorem Qu {sg:List Nat} (h:sg.length≤62) {j:Nat} (hj:j≤20):(cnt (.t sg) j).natAbs≤2^121:=Nat.le_of_lt (Nat.lt_of_lt_of_le (VZ h j) (Nat.pow_le_pow_right (by decide) (by omega)))
theorem Yap {k n:Nat} {f:Nat→Int} (hk:k≤20) (h:∀ j≤k,(f j).natAbs≤2^n):((List.range (k+1)).map f).sum.natAbs≤2^(n+5):=by
 have h1:=VY (n:=2^n) (l:=(List.range (k+1)).map f) fun x hx=>by
  obtain ⟨j,hj,rfl⟩:=List.mem_map.mp hx
  exact h j (by have:=List.mem_range.mp hj;omega)
 rw [List.length_map,List.length_range] at h1
 refine Nat.le_trans h1 ?_
 rw [Nat.pow_add,Nat.mul_comm]
 exact Nat.mul_le_mul_left _ (by omega)
theorem Ydc (k:Nat):(r2 k).natAbs≤2^0:=by unfold r2;split<;>decide
theorem Yb5 {a b:Int} {m n:Nat} (h1:a.natAbs≤2^m) (h2:b.natAbs≤2^n):(a*b).natAbs≤2^(m+n):=by
 rw [Int.natAbs_mul,Nat.pow_add]
 exact Nat.mul_le_mul h1 h2
theorem Ydd {s2:List Nat} (h:s2.length≤62) {k:Nat} (hk:k≤20):(r1 s2 k).natAbs≤2^126:=Yap hk fun j hj=>Yb5 (Qu h (by omega)) (Ydc _)
theorem r0_bd {s1 s2:List Nat} (h1:s1.length≤62) (h:s2.length≤62) {k:Nat} (hk:k≤20):(r0 s1 s2 k).natAbs≤2^252:=Yap hk fun j hj=>Yb5 (Qu h1 (by omega)) (Ydd h (by omega))
theorem rr_bd {s1 s2:List Nat} (h1:s1.length≤62) (h:s2.length≤62) (pl:Nat) {k:Nat} (hk:k≤20):(rr s1 s2 pl k).natAbs≤2^252:=by
 match pl with
 | 0=>exact r0_bd h1 h hk
 | 1=>exact Nat.le_trans (Ydd h hk) (Nat.pow_le_pow_right (by decide) (by decide))
 | _+2=>exact Nat.le_trans (Ydc k) (Nat.pow_le_pow_right (by decide) (by decide))
theorem Qv {s1 s2:List Nat} (h1:s1.length≤62) (h:s2.length≤62) (pl:Nat):(pt s1 s2 pl).length≤62:=by
 match pl with
 | 0=>exact h1
 | _+1=>exact h
theorem Yde {x n:Nat} (h:x≤2^n) (hn:n≤252):x<2^253:=Nat.lt_of_le_of_lt h (Nat.pow_lt_pow_right (by decide) (by omega))
theorem Qw {s1 s2:List Nat} (h1:s1.length≤62) (h:s2.length≤62) {pl k:Nat} (hk:k≤20):∀ p∈rb s1 s2 pl k,big p.1 p.2:=fun p hp=>by
 obtain ⟨j,hj,rfl⟩:=List.mem_map.mp hp
 have hj:=List.mem_range.mp hj
 exact ⟨253,by decide,Yde (Qu (Qv h1 h pl) (by omega)) (by decide),Yde (rr_bd h1 h (pl+1) (by omega)) (by decide)⟩
theorem Vp (sg:List Nat) (j:Nat):0≤cnt (.t sg) j:=Int.pow_nonneg (Int.natCast_nonneg _)
theorem Yb6 (k:Nat):0≤r2 k:=by unfold r2;split<;>decide
theorem Yaq {k:Nat} {f:Nat→Int} (h:∀ j,0≤f j):0≤((List.range (k+1)).map f).sum:=Wk _ fun x hx=>by
 obtain ⟨j,_,rfl⟩:=List.mem_map.mp hx
 exact h j
theorem Yb7 (s1 s2:List Nat) (pl k:Nat):0≤rr s1 s2 pl k:=by
 have a1:∀ k,0≤r1 s2 k:=fun k=>Yaq fun j=>Int.mul_nonneg (Vp _ _) (Yb6 _)
 match pl with
 | 0=>exact Yaq fun j=>Int.mul_nonneg (Vp _ _) (a1 _)
 | 1=>exact a1 k
 | _+2=>exact Yb6 k
theorem Yb8 {s1 s2:List Nat} {pl k:Nat}:∀ p∈rb s1 s2 pl k,0≤p.1∧0≤p.2:=fun p hp=>by
 obtain ⟨j,hj,rfl⟩:=List.mem_map.mp hp
 exact ⟨Vp _ _,Yb7 _ _ _ _⟩
def Bz (Z:List Addr) (H H':Hp):Prop:=∀ b o,b∉Z→H b=some o→H' b=some o
theorem Bz.refl (Z:List Addr) (H:Hp):Bz Z H H:=fun _ _ _ e=>e
theorem Bz.trans {Z:List Addr} {H H1 H2:Hp} (a:Bz Z H H1) (b:Bz Z H1 H2):Bz Z H H2:=fun x o n e=>b x o n (a x o n e)
theorem Bz.of {Z:List Addr} {H H':Hp} (s:Yk H H'):Bz Z H H':=fun _ _ _ e=>s _ _ e
theorem Bz.mono {Z Z':List Addr} {H H':Hp} (a:Bz Z H H') (h:∀ z∈Z,z∈Z'):Bz Z' H H':=fun x o n e=>a x o (fun z=>n (h _ z)) e
def TP (CT:Addr) (H:Hp) (p c:Addr) (sg:List Nat):Prop:=∃ dx n,n≤41∧H p=some (.ins CT dx (mf c (.t sg)))∧H c=some (.lst (YH (cnt (.t sg)) n))
structure Ra where
 T:Addr
 P:Addr
 W:Addr
 p1:Addr
 p2:Addr
 c1:Addr
 c2:Addr
 l0:Addr
 l1:Addr
 l2:Addr
def Ra.ads (r:Ra):List Addr:=[r.T,r.P,r.W,r.p1,r.p2,r.c1,r.c2,r.l0,r.l1,r.l2]
def Ra.cs (r:Ra):List Addr:=[r.c1,r.c2]
def Ra.zs (r:Ra):List Addr:=[r.c1,r.c2,r.l0,r.l1,r.l2]
structure RT (CT CB:Addr) (H:Hp) (r:Ra) (s1 s2:List Nat) (n0 n1 n2:Nat):Prop where
 t:∃ dt,H r.T=some (.ins CB dt (rtf r.P r.W))
 p:H r.P=some (.lst [.ref r.p1,.ref r.p2])
 w:H r.W=some (.lst [.ref r.l0,.ref r.l1,.ref r.l2])
 a:TP CT H r.p1 r.c1 s1
 b:TP CT H r.p2 r.c2 s2
 w0:H r.l0=some (.lst (YH (r0 s1 s2) n0))
 w1:H r.l1=some (.lst (YH (r1 s2) n1))
 w2:H r.l2=some (.lst (YH r2 n2))
 dl:r.l0≠r.l1∧r.l0≠r.l2∧r.l1≠r.l2
 dc:∀ c∈[r.l0,r.l1,r.l2,r.P,r.W],c≠r.c1∧c≠r.c2
 dw:∀ c∈[r.P,r.W],c≠r.l0∧c≠r.l1∧c≠r.l2
 cc:r.c1=r.c2→s1=s2
section
variable {CT CB:Addr} {H H':Hp} {r:Ra} {s1 s2:List Nat} {n0 n1 n2:Nat}
theorem TP.keep {p c:Addr} {sg:List Nat} (h:TP CT H p c sg) (k1:∀ o,H p=some o→H' p=some o) (k2:∀ o,H c=some o→H' c=some o):TP CT H' p c sg:=by
 obtain ⟨dx,n,h1,h2,h3⟩:=h
 exact ⟨dx,n,h1,k1 _ h2,k2 _ h3⟩
theorem RT.keepB (h:RT CT CB H r s1 s2 n0 n1 n2) (k:∀ b o,b∈r.ads→H b=some o→H' b=some o):RT CT CB H' r s1 s2 n0 n1 n2:=by
 obtain ⟨dt,ht⟩:=h.t
 exact ⟨⟨dt,k _ _ (by simp [Ra.ads]) ht⟩,k _ _ (by simp [Ra.ads]) h.p,k _ _ (by simp [Ra.ads]) h.w,h.a.keep (fun o=>k _ o (by simp [Ra.ads])) (fun o=>k _ o (by simp [Ra.ads])),h.b.keep (fun o=>k _ o (by simp [Ra.ads])) (fun o=>k _ o (by simp [Ra.ads])),k _ _ (by simp [Ra.ads]) h.w0,k _ _ (by simp [Ra.ads]) h.w1,k _ _ (by simp [Ra.ads]) h.w2,h.dl,h.dc,h.dw,h.cc⟩
theorem RT.keep (h:RT CT CB H r s1 s2 n0 n1 n2) (s:Yk H H'):RT CT CB H' r s1 s2 n0 n1 n2:=h.keepB fun b o _ e=>s b o e
theorem RT.new (h:RT CT CB H r s1 s2 n0 n1 n2) {D:Addr} (hD:H D=none):D∉r.ads:=fun z=>by
 obtain ⟨dt,ht⟩:=h.t
 obtain ⟨dx,n,_,a1,a2⟩:=h.a
 obtain ⟨dy,m,_,b1,b2⟩:=h.b
 simp only [Ra.ads,List.mem_cons,List.not_mem_nil,or_false] at z
 rcases z with rfl | rfl | rfl | rfl | rfl | rfl | rfl | rfl | rfl | rfl
 ·rw [ht] at hD;cases hD
 ·rw [h.p] at hD;cases hD
 ·rw [h.w] at hD;cases hD
 ·rw [a1] at hD;cases hD
 ·rw [b1] at hD;cases hD
 ·rw [a2] at hD;cases hD
 ·rw [b2] at hD;cases hD
 ·rw [h.w0] at hD;cases hD
 ·rw [h.w1] at hD;cases hD
 ·rw [h.w2] at hD;cases hD
theorem RT.part (h:RT CT CB H r s1 s2 n0 n1 n2) {pl:Nat} (hp:pl<2):∃ p c,atI [V.ref r.p1,V.ref r.p2] (pl:Int)=some (.ref p)∧c∈r.cs∧p∈r.ads∧TP CT H p c (pt s1 s2 pl)∧∀ {H1 H2:Hp} {n:Nat},RT CT CB H1 r s1 s2 n0 n1 n2→TP CT H1 p c (pt s1 s2 pl)∧(n≤41→SameBut c H1 H2→H2 c=some (.lst (YH (cnt (.t (pt s1 s2 pl))) n))→RT CT CB H2 r s1 s2 n0 n1 n2):=by
 have go:∀ {H1 H2:Hp} {c:Addr} {sg:List Nat} {n:Nat},RT CT CB H1 r s1 s2 n0 n1 n2→c∈r.cs→(r.c1=c→s1=sg)→(r.c2=c→s2=sg)→n≤41→SameBut c H1 H2→H2 c=some (.lst (YH (cnt (.t sg)) n))→RT CT CB H2 r s1 s2 n0 n1 n2:=fun {H1 H2 c sg n} h hc e1 e2 hn sb h2=>by
  obtain ⟨dt,ht⟩:=h.t
  obtain ⟨dx,n1',hn1,a1,a2⟩:=h.a
  obtain ⟨dy,n2',hn2,b1,b2⟩:=h.b
  obtain ⟨xs,hc0⟩:∃ xs,H1 c=some (.lst xs):=by
   simp only [Ra.cs,List.mem_cons,List.not_mem_nil,or_false] at hc
   rcases hc with rfl | rfl
   ·exact ⟨_,a2⟩
   ·exact ⟨_,b2⟩
  have nc:∀ z∈[r.l0,r.l1,r.l2,r.P,r.W],z≠c:=fun z hz=>by
   simp only [Ra.cs,List.mem_cons,List.not_mem_nil,or_false] at hc
   rcases hc with rfl | rfl
   ·exact (h.dc z hz).1
   ·exact (h.dc z hz).2
  have ins:∀ {z C dx:Addr} {fs:List (Str×V)},H1 z=some (.ins C dx fs)→H2 z=some (.ins C dx fs):=fun e=>sb _ _ (Yq e hc0 (by intro y;cases y)) e
  refine ⟨⟨dt,ins ht⟩,sb _ _ (nc _ (by simp)) h.p,sb _ _ (nc _ (by simp)) h.w,?_,?_,sb _ _ (nc _ (by simp)) h.w0,sb _ _ (nc _ (by simp)) h.w1,sb _ _ (nc _ (by simp)) h.w2,h.dl,h.dc,h.dw,h.cc⟩
  ·by_cases e:r.c1=c
   ·exact ⟨dx,n,hn,ins a1,by rw [e,e1 e];exact h2⟩
   ·exact ⟨dx,n1',hn1,ins a1,sb _ _ e a2⟩
  ·by_cases e:r.c2=c
   ·exact ⟨dy,n,hn,ins b1,by rw [e,e2 e];exact h2⟩
   ·exact ⟨dy,n2',hn2,ins b1,sb _ _ e b2⟩
 have:pl=0∨pl=1:=by omega
 rcases this with rfl | rfl
 ·exact ⟨r.p1,r.c1,rfl,by simp [Ra.cs],by simp [Ra.ads],h.a,fun {H1 H2 n} h1=>⟨h1.a,go h1 (by simp [Ra.cs]) (fun _=>rfl) fun e=>(h.cc e.symm).symm⟩⟩
 ·exact ⟨r.p2,r.c2,rfl,by simp [Ra.cs],by simp [Ra.ads],h.b,fun {H1 H2 n} h1=>⟨h1.b,go h1 (by simp [Ra.cs]) (fun e=>h.cc e) fun _=>rfl⟩⟩
def nn (n0 n1 n2:Nat):Nat→Nat
 | 0=>n0
 | 1=>n1
 | _=>n2
theorem RT.way (h:RT CT CB H r s1 s2 n0 n1 n2) {pl:Nat} (hp:pl≤2):∃ l,atI [V.ref r.l0,V.ref r.l1,V.ref r.l2] (pl:Int)=some (.ref l)∧H l=some (.lst (YH (rr s1 s2 pl) (nn n0 n1 n2 pl))):=by
 have:pl=0∨pl=1∨pl=2:=by omega
 rcases this with rfl | rfl | rfl
 ·exact ⟨_,rfl,h.w0⟩
 ·exact ⟨_,rfl,h.w1⟩
 ·exact ⟨_,rfl,h.w2⟩
theorem RT.put0 (h:RT CT CB H r s1 s2 n0 n1 n2):RT CT CB (upd H r.l0 (.lst (YH (r0 s1 s2) (n0+1)))) r s1 s2 (n0+1) n1 n2:=by
 obtain ⟨dt,ht⟩:=h.t
 have ins:∀ {z C dx:Addr} {fs:List (Str×V)},H z=some (.ins C dx fs)→upd H r.l0 (.lst (YH (r0 s1 s2) (n0+1))) z=some (.ins C dx fs):=fun e=>by rw [Yb (Yq e h.w0 (by intro y;cases y))];exact e
 have nl:=h.dc r.l0 (by simp)
 obtain ⟨dx,n,hn,a1,a2⟩:=h.a
 obtain ⟨dy,m,hm,b1,b2⟩:=h.b
 exact ⟨⟨dt,ins ht⟩,by rw [Yb (h.dw r.P (by simp)).1];exact h.p,by rw [Yb (h.dw r.W (by simp)).1];exact h.w,⟨dx,n,hn,ins a1,by rw [Yb (Ne.symm nl.1)];exact a2⟩,⟨dy,m,hm,ins b1,by rw [Yb (Ne.symm nl.2)];exact b2⟩,Yc,by rw [Yb (Ne.symm h.dl.1)];exact h.w1,by rw [Yb (Ne.symm h.dl.2.1)];exact h.w2,h.dl,h.dc,h.dw,h.cc⟩
theorem RT.put1 (h:RT CT CB H r s1 s2 n0 n1 n2):RT CT CB (upd H r.l1 (.lst (YH (r1 s2) (n1+1)))) r s1 s2 n0 (n1+1) n2:=by
 obtain ⟨dt,ht⟩:=h.t
 have ins:∀ {z C dx:Addr} {fs:List (Str×V)},H z=some (.ins C dx fs)→upd H r.l1 (.lst (YH (r1 s2) (n1+1))) z=some (.ins C dx fs):=fun e=>by rw [Yb (Yq e h.w1 (by intro y;cases y))];exact e
 have nl:=h.dc r.l1 (by simp)
 obtain ⟨dx,n,hn,a1,a2⟩:=h.a
 obtain ⟨dy,m,hm,b1,b2⟩:=h.b
 exact ⟨⟨dt,ins ht⟩,by rw [Yb (h.dw r.P (by simp)).2.1];exact h.p,by rw [Yb (h.dw r.W (by simp)).2.1];exact h.w,⟨dx,n,hn,ins a1,by rw [Yb (Ne.symm nl.1)];exact a2⟩,⟨dy,m,hm,ins b1,by rw [Yb (Ne.symm nl.2)];exact b2⟩,by rw [Yb h.dl.1];exact h.w0,Yc,by rw [Yb (Ne.symm h.dl.2.2)];exact h.w2,h.dl,h.dc,h.dw,h.cc⟩
theorem RT.put2 (h:RT CT CB H r s1 s2 n0 n1 n2):RT CT CB (upd H r.l2 (.lst (YH r2 (n2+1)))) r s1 s2 n0 n1 (n2+1):=by
 obtain ⟨dt,ht⟩:=h.t
 have ins:∀ {z C dx:Addr} {fs:List (Str×V)},H z=some (.ins C dx fs)→upd H r.l2 (.lst (YH r2 (n2+1))) z=some (.ins C dx fs):=fun e=>by rw [Yb (Yq e h.w2 (by intro y;cases y))];exact e
 have nl:=h.dc r.l2 (by simp)
 obtain ⟨dx,n,hn,a1,a2⟩:=h.a
 obtain ⟨dy,m,hm,b1,b2⟩:=h.b
 exact ⟨⟨dt,ins ht⟩,by rw [Yb (h.dw r.P (by simp)).2.2];exact h.p,by rw [Yb (h.dw r.W (by simp)).2.2];exact h.w,⟨dx,n,hn,ins a1,by rw [Yb (Ne.symm nl.1)];exact a2⟩,⟨dy,m,hm,ins b1,by rw [Yb (Ne.symm nl.2)];exact b2⟩,by rw [Yb h.dl.2.1];exact h.w0,by rw [Yb h.dl.2.2];exact h.w1,Yc,h.dl,h.dc,h.dw,h.cc⟩
end
def Ok2 (s1 s2:List Nat):Prop:=(0<s1.length∧s1.length≤62)∧0<s2.length∧s2.length≤62
def Vq (K:PySem.W.Frag) (CT CB:Addr) (l:Nat):Sp:=fun vs H Q _=>∃ (r:Ra) (s1 s2:List Nat) (n0 n1 n2 pl left:Nat),vs=[.ref r.T,.int (pl:Nat),.int (left:Nat)]∧2≤l∧pl<2∧left≤20∧Ok2 s1 s2∧RT CT CB H r s1 s2 n0 n1 n2∧left<n2∧left<nn n0 n1 n2 (pl+1) ∧
 ∀ D H',H D=none→Blk H' D (rb s1 s2 pl left)→Bz r.cs H H'→RT CT CB H' r s1 s2 n0 n1 n2→Q (.ref D) H'
def Um (K:PySem.W.Frag) (CT CB:Addr) (l:Nat):Sp:=fun vs H Q _=>∃ (r:Ra) (s1 s2:List Nat) (n:Nat),vs=[.ref r.T,.int (n:Nat)]∧3≤l∧n≤20∧Ok2 s1 s2∧RT CT CB H r s1 s2 n n n∧∀ H',Bz r.zs H H'→RT CT CB H' r s1 s2 (n+1) (n+1) (n+1)→Q .non H'
def Z2V (K:PySem.W.Frag) (CT CB:Addr) (l:Nat):Sp:=fun vs H Q _=>∃ (r:Ra) (s1 s2:List Nat) (n0 n1 n2 pl left:Nat),vs=[.ref r.T,.int (pl:Nat),.int (left:Nat)]∧1≤l∧pl≤2∧left≤20∧Ok2 s1 s2∧RT CT CB H r s1 s2 n0 n1 n2∧(left<n2→left<nn n0 n1 n2 pl∧Q (.int (rr s1 s2 pl left)) H) ∧
 (n2≤left→4≤l∧n0=left∧n1=left∧n2=left∧∀ H',Bz r.zs H H'→RT CT CB H' r s1 s2 (left+1) (left+1) (left+1)→Q (.int (rr s1 s2 pl left)) H')
theorem YdU {K:PySem.W.Frag} {CT CB:Addr} {vs:List V} {H:Hp} {Q:VK} {E:XK} (h:Vq K CT CB 0 vs H Q E):False:=by
 obtain ⟨r,s1,s2,n0,n1,n2,pl,left,_,h,_⟩:=h
 omega
theorem YdV {K:PySem.W.Frag} {CT CB:Addr} {vs:List V} {H:Hp} {Q:VK} {E:XK} (h:Um K CT CB 0 vs H Q E):False:=by
 obtain ⟨r,s1,s2,n,_,h,_⟩:=h
 omega
theorem YcS {K:PySem.W.Frag} {CT CB:Addr} {vs:List V} {H:Hp} {Q:VK} {E:XK} (h:Z2V K CT CB 0 vs H Q E):False:=by
 obtain ⟨r,s1,s2,n0,n1,n2,pl,left,_,h,_⟩:=h
 omega
theorem Z01 {k:Nat} {Z5 Zb Z7 Za Z8 Z6 Zc Z9 Z2 Z3 Z4 Z1 Z0:Addr} {c_law_asked P_law_asked:Addr} (R:g.RawM Z4 "blocks_at" "RowTable.blocks_at" Z0x ["self","place","left"]) (Z0Z:g.Me k Z4 "ways_at" ["self","place","left"] (Z2V g.K Z1 Z4 m)) (ZG:g.Me k Z1 "count_at" ["self","size"] (Z0d g.K Z0 Z1 3)) (Zu:g.mg "range"=none) (Zk:Cls g.K Z4) (Zm:Yg g.K Z4 "parts") (Zh:Yg g.K Z4 "ways") (Zg:Cls g.K Z1) (Ze:Yg g.K Z1 "counts") (Zf:Yg g.K Z1 "signs"):g.Me (k+1) Z4 "blocks_at" ["self","place","left"] (Vq g.K Z1 Z4 (m+1)):=by
 refine R.me Z1h (fun vs H Q E h=>by obtain ⟨r,s1,s2,n0,n1,n2,pl,left,rfl,hl2,hpl,hle,hok,M,hn2,hnp,q⟩:=h;rfl) fun f_ cdv A outer s H vs Q E hr h=>?_
 obtain ⟨r,s1,s2,n0,n1,n2,pl,left,rfl,hl2,hpl,hle,hok,M,hn2,hnp,q⟩:=h
 refine ⟨_,(@Yf _ _ _ _ _ (@Yp _ _ (3) _ _ _ _ Z1h.nd rfl (.inr rfl) (@YA _ _ _ _ _ _ _ YX (@Yo _ _ _ _ _ (pv 0) rfl) (pv 1) (fun _ _=>rfl)) (by rfl) (by first | exact .inl rfl | exact .inr rfl | assumption)) (@Yh _ _ _ (@Yl _ _ _ _ (@Wc _ _ _ _ _ _ _ ([none,some 3,some 0,some 1,some 2]) ((["first","part","self","place","left"]:List Str)) _ (YM 0) _ _ (.own (.cap (i:=3) rfl rfl (by first | exact .inl rfl | exact .inr rfl) (.cap (i:=0) rfl rfl (by first | exact .inl rfl | exact .inr rfl) (.cap (i:=1) rfl rfl (by first | exact .inl rfl | exact .inr rfl) (.cap (i:=2) rfl rfl (by first | exact .inl rfl | exact .inr rfl) .nil))))) rfl (@Xc _ _ _ _ _ _ rfl Zu (@Ya _ _ _ _ _ (@Yn _ _ _ _ _ _ _ _ Y1 (pv 2) Yj) Yd (by rfl)) (by rfl)) (fun cl C s₀ H₀ fp pn=>(@YJ _ _ (0) _ (show List.Nodup (["first","part","self","place","left"]:List Str) by decide +kernel) rfl (.inl rfl) (.inr rfl))) (fun cl C s₀ H₀ fp pn=>Xn) (fun cl C s₀ H₀ fp pn=>(@YZ _ _ _ _ _ (@Ya _ _ _ _ _ (@YU _ _ _ _ _ _ _ _ _ _ _ _ _ _ _ _ ZG Zg hr (pv 1) (@Ya _ _ _ _ _ (pv 0) Yd (by rfl)) (by omega) (by rfl) (by rfl) (by rfl) (by rfl)) (@Ya _ _ _ _ _ (@YU _ _ _ _ _ _ _ _ _ _ _ _ _ _ _ _ Z0Z Zk hr (pv 2) (@Ya _ _ _ _ _ (@Yn _ _ _ _ _ _ _ _ Y1 (pv 3) Yj) (@Ya _ _ _ _ _ (@Yn _ _ _ _ _ _ _ _ XA (pv 4) (pv 0)) Yd (by rfl)) (by rfl)) (by omega) (by rfl) (by rfl) (by rfl) (by rfl)) Yd (by rfl)) (by rfl)))) (by intro x hx;simp at hx;first | (subst hx;exact .inl rfl) | (rcases hx with rfl | rfl<;>exact .inl rfl) | (rcases hx with rfl | rfl | rfl<;>exact .inl rfl) | (rcases hx with rfl | rfl | rfl | rfl<;>exact .inl rfl) | (rcases hx with rfl | rfl | rfl | rfl | rfl<;>exact .inl rfl)) (by rfl) (by decide) (by decide +kernel) (by intro _;rfl))))),?_⟩
 obtain ⟨p,c,hat,hcs,hpa,hTP,hst⟩:=M.part hpl
 obtain ⟨dt,hT⟩:=M.t
 have l62:=Qv hok.1.2 hok.2.2 pl
 walk_at "rd"
 refine ⟨_,_,_,hT,Zk,Zm,_,rfl,r.P,rfl,_,SqL.of M.p,_,hat,?_⟩
 refine WX (n:=left+1) (fun D i zs H'=>zs.length=i∧H' D=some (.lst zs)∧D∉r.ads∧(∀ b o,b∉r.cs→b≠D→H b=some o→H' b=some o)∧RT Z1 Z4 H' r s1 s2 n0 n1 n2∧∀ (j:Nat) x,zs[j]?=some x→∃ T,x = .ref T∧T≠D∧T∉r.ads∧H' T=some (.tup [.int (cnt (.t (pt s1 s2 pl)) j),.int (rr s1 s2 (pl+1) (left - j))])) (fun R r'=>by walk_at "rd";exact r') (by omega) ?_ ?_ ?_ ?_
 ·intro D hD
  exact ⟨rfl,Yc,M.new hD,fun b o _ hb e=>by rw [Yb hb];exact e,M.keep (.upd_new hD _),fun j x hx=>by simp at hx⟩
 ·rintro D i zs H' ⟨h1,h2,_⟩
  exact ⟨h1,h2⟩
 ·rintro D i zs H' hD hi ⟨hz,hd,hDa,fr,M',hTs⟩ R rq
  obtain ⟨⟨dx,n,hn,t1,t2⟩,_⟩:=hst (H2:=H') (n:=0) M'
  walk_at "rd"
  refine ⟨_,_,t1,WY _ _,p,dx,c,pt s1 s2 pl,n,i,rfl,by decide,.inr (by decide),by omega,by omega,l62,t1,t2,fun H2 sb hv2=>?_⟩
  have M2:=(hst (n:=max n (i+1)) M').2 (by omega) sb hv2
  obtain ⟨dt2,hT2⟩:=M2.t
  rw [show (left:Int) - (i:Int)=((left - i:Nat):Int) by omega]
  refine ⟨_,_,hT2,WS _ _ (by decide +kernel) (by decide +kernel),r,s1,s2,n0,n1,n2,pl+1,left - i,rfl,by omega,by omega,by omega,hok,M2,fun _=>⟨by omega,few (by decide),fun T gT=>?_⟩,fun z=>by omega⟩
  have nDc:D≠c:=fun z=>hDa (by rw [z];simp only [Ra.cs,List.mem_cons,List.not_mem_nil,or_false] at hcs;rcases hcs with rfl | rfl<;>simp [Ra.ads])
  have hd2:=sb _ _ nDc hd
  have sT:=Yk.upd_new gT (.tup [.int (cnt (.t (pt s1 s2 pl)) i),.int (rr s1 s2 (pl+1) (left - i))])
  have nTD:T≠D:=Ne.symm (Ye hd2 gT)
  have nTa:=M2.new gT
  refine rq _ _ (sT _ _ hd2) ⟨by rw [List.length_append,hz];rfl,Yc,hDa,fun b o b1 b2 e=>?_,(M2.keep sT).keepB fun b o hb e=>by rw [Yb (fun z:b=D=>hDa (z▸hb))];exact e,fun j x hx=>?_⟩
  ·rw [Yb b2]
   exact sT _ _ (sb _ _ (fun z=>b1 (z▸hcs)) (fr b o b1 b2 e))
  ·by_cases cc:j<zs.length
   ·rw [List.getElem?_append_left cc] at hx
    obtain ⟨T',rfl,t1,t2,t3⟩:=hTs j x hx
    exact ⟨T',rfl,t1,t2,by rw [Yb t1];exact sT _ _ (sb _ _ (fun z=>t2 (by rw [z];simp only [Ra.cs,List.mem_cons,List.not_mem_nil,or_false] at hcs;rcases hcs with rfl | rfl<;>simp [Ra.ads])) t3)⟩
   ·have hj:j=zs.length:=by
     have:=(List.getElem?_eq_some_iff.mp hx).1
     rw [List.length_append,List.length_singleton] at this
     omega
    subst hj
    rw [List.getElem?_append_right (Nat.le_refl _),Nat.sub_self] at hx
    have:V.ref T=x:=Option.some.inj hx
    subst this
    rw [hz]
    exact ⟨T,rfl,nTD,nTa,by rw [Yb nTD];exact Yc⟩
 ·rintro D zs H' hD ⟨hz,hd,hDa,fr,M',hTs⟩
  refine q D H' hD ⟨zs,hd,by rw [hz,Vh],fun i x p' hx hp=>?_⟩ (fun b o hb e=>fr b o hb (Ye e hD) e) M'
  obtain ⟨T,rfl,_,_,h⟩:=hTs i x hx
  have hi:i<left+1:=by have:=(List.getElem?_eq_some_iff.mp hx).1;omega
  rw [rb,List.getElem?_map,List.getElem?_range hi] at hp
  cases hp
  exact ⟨T,rfl,h⟩
theorem Ybb {g:TG} {tb:TS} {D:Ends} {σ:St} {H:Hp} {ta:TA} {n:Nat} (Pv:Nat→St→Hp→Prop) (ha:∀ R:List V→Hp→Prop,R [.int ((n:Int) - 1),.int (-1),.int (-1)] H→ta σ H R) (hn:n<2^62) (h0:Pv 0 σ H)
  (hs:∀ i σ H,i<n→Pv i σ H→g (.int ((n - 1 - i:Nat):Int)) σ H fun σ2 H2=>tb { D with nx:=Pv (i+1),ct:=Pv (i+1),bk:=D.nx } σ2 H2) (hd:∀ σ H,Pv n σ H→D.nx σ H):V8 (Yc8 ta) g tb D σ H:=by
 refine ha _ ⟨(n:Int) - 1,-1,rfl,⟨by omega,by omega,by omega,by omega⟩,?_⟩
 have e:((n:Int) - 1 - (-1)).toNat=n:=by omega
 rw [e]
 refine ⟨fun i m σ H=>m=n - i∧i≤n∧Pv i σ H,⟨n,by simp,Nat.zero_le _,h0⟩,?_⟩
 rintro i m σ H ⟨rfl,hi,p⟩
 by_cases hlt:i<n
 ·refine .inr ⟨hlt,Pv (i+1),fun σ' H' p'=>⟨n - (i+1),by omega,rfl,hlt,p'⟩,fun x H' y=>?_⟩
  obtain ⟨e,y⟩:=y
  subst e y
  have:=hs i σ _ hlt p
  have e2:((n - 1 - i:Nat):Int)=(n:Int) - 1 - i:=by omega
  rw [e2] at this
  exact this
 ·have e:i=n:=by omega
  subst e
  exact .inl ⟨Nat.le_refl _,hd σ H p⟩
theorem Ra.c_z {r:Ra}:∀ z∈r.cs,z∈r.zs:=fun z hz=>by
 simp only [Ra.cs,Ra.zs,List.mem_cons,List.not_mem_nil,or_false] at hz ⊢
 rcases hz with rfl | rfl<;>simp
theorem Ra.c_a {r:Ra}:∀ z∈r.cs,z∈r.ads:=fun z hz=>by
 simp only [Ra.cs,Ra.ads,List.mem_cons,List.not_mem_nil,or_false] at hz ⊢
 rcases hz with rfl | rfl<;>simp
theorem Ra.z_a {r:Ra}:∀ z∈r.zs,z∈r.ads:=fun z hz=>by
 simp only [Ra.zs,Ra.ads,List.mem_cons,List.not_mem_nil,or_false] at hz ⊢
 rcases hz with rfl | rfl | rfl | rfl | rfl<;>simp
theorem Bz.put {Z:List Addr} {H H':Hp} {l:Addr} (b:Bz Z H H') (hl:l∈Z) (o:HO):Bz Z H (upd H' l o):=fun x u n e=>by rw [Yb (fun z:x=l=>n (z▸hl))];exact b x u n e
theorem Z04 {k:Nat} {Z5 Zb Z7 Za Z8 Z6 Zc Z9 Z2 Z3 Z4 Z1 Z0:Addr} {c_law_asked P_law_asked:Addr} (R:g.RawM Z4 "add_size" "RowTable.add_size" Z0L ["self","size"]) (Z3C:g.Fn k "ways_of" ["blocks"] (Z2S g.K)) (Z0A:g.Me k Z4 "blocks_at" ["self","place","left"] (Vq g.K Z1 Z4 m)) (b_len:g.mg "len"=none) (Zu:g.mg "range"=none) (Zk:Cls g.K Z4) (Zm:Yg g.K Z4 "parts") (Zh:Yg g.K Z4 "ways"):g.Me (k+1) Z4 "add_size" ["self","size"] (Um g.K Z1 Z4 (m+1)):=by
 refine R.me Z1l (fun vs H Q E h=>by obtain ⟨r,s1,s2,n,rfl,hl3,hn,hok,M,q⟩:=h;rfl) fun f_ cdv A outer s H vs Q E hr h=>?_
 obtain ⟨r,s1,s2,n,rfl,hl3,hn,hok,M,q⟩:=h
 refine ⟨_,(@Yf _ _ _ _ _ (@YV _ _ _ _ (@Xx _ _ _ _ _ _ _ _ _ _ _ _ PySem.F.plainAttrs_list PySem.F.slot_list_append PySem.F.type_list_append Y4 (@YA _ _ _ _ _ _ _ YX (@Yo _ _ _ _ _ (pv 0) rfl) (@VH _ _ _ _ _ _ W7 Yj) (fun _ _=>rfl)) (@Ya _ _ _ _ _ (@Vw _ _ _ _ _ _ _ _ (@Yr _ _ _ _ _ _ _ _ Xd (pv 1) Yj (Yv _)) Yj Yj) Yd (by rfl)) (by rfl) (by rfl) (by rfl) (by rfl) (by rfl)) (by rfl)) (@Yh _ _ _ (@Xz _ _ _ _ _ _ _ _ PassesOwn.never rfl (@YbI _ _ _ _ _ _ _ _ rfl Zu (@Ya _ _ _ _ _ (@Yn _ _ _ _ _ _ _ _ XA (@YD _ _ _ _ _ _ _ _ _ _ b_len Yx (@Ya _ _ _ _ _ (@Yo _ _ _ _ _ (pv 0) rfl) Yd (by rfl)) (by decide +kernel) (by rfl) (by rfl) (by decide) (by decide) (by rfl) (by rfl)) Yj) (@Ya _ _ _ _ _ (@VH _ _ _ _ _ _ W7 Yj) (@Ya _ _ _ _ _ (@VH _ _ _ _ _ _ W7 Yj) Yd (by rfl)) (by rfl)) (by rfl)) (by rfl) (by rfl)) (@YJ _ _ (2) _ Z1l.nd rfl (.inl rfl) (by first | exact .inl rfl | exact .inr rfl | assumption)) (@Yh _ _ _ (@YV _ _ _ _ (@Xx _ _ _ _ _ _ _ _ _ _ _ _ PySem.F.plainAttrs_list PySem.F.slot_list_append PySem.F.type_list_append Y4 (@YA _ _ _ _ _ _ _ YX (@Yo _ _ _ _ _ (pv 0) rfl) (pv 2) (fun _ _=>rfl)) (@Ya _ _ _ _ _ (@YK _ _ _ _ _ _ _ _ _ _ _ _ Z3C hr (@Ya _ _ _ _ _ (@YU _ _ _ _ _ _ _ _ _ _ _ _ _ _ _ _ Z0A Zk hr (pv 0) (@Ya _ _ _ _ _ (pv 2) (@Ya _ _ _ _ _ (pv 1) Yd (by rfl)) (by rfl)) (by omega) (by rfl) (by rfl) (by rfl) (by rfl)) Yd (by rfl)) (by omega) (by rfl) (by rfl) (by decide) (by rfl) (by rfl)) Yd (by rfl)) (by rfl) (by rfl) (by rfl) (by rfl) (by rfl)) (by rfl))) (by intro _;rfl)))),?_⟩
 obtain ⟨dt,hT⟩:=M.t
 refine cut1 (fun σ H'=>σ=[some (.ref r.T),some (.int n),none]∧H'=upd H r.l2 (.lst (YH r2 (n+1)))) ?_ (fun N hN=>?_)
 rotate_left
 ·walk_at "rd"
  refine ⟨_,_,_,hT,Zk,Zh,_,Xj _ _,r.W,rfl,_,SqL.of M.w,.ref r.l2,rfl,.inl ⟨rfl,_,SqL.of M.w2⟩,Vy (fun c=>?_) (fun c=>?_)⟩
  ·refine ⟨r.l2,rfl,_,M.w2,by rw [YI];exact few (by omega),hN _ _ ⟨rfl,?_⟩⟩
   rw [Xf,r2,if_pos (by omega)]
  ·refine ⟨r.l2,rfl,_,M.w2,by rw [YI];exact few (by omega),hN _ _ ⟨rfl,?_⟩⟩
   rw [Xf,r2,if_neg (by omega)]
 rintro σ H1 ⟨rfl,rfl⟩
 have M1:=M.put2
 obtain ⟨dt1,hT1⟩:=M1.t
 walk_at "rd"
 refine Ybb (n:=2) (fun i σ H'=>∃ o,σ=[some (.ref r.T),some (.int n),o]∧Bz r.zs H H'∧RT Z1 Z4 H' r s1 s2 (if 2≤i then n+1 else n) (if 1≤i then n+1 else n) (n+1)) (fun R r'=>?_) (by decide) ⟨none,rfl,(Bz.refl _ _).put (by simp [Ra.zs]) _,M1⟩ ?_ ?_
 ·walk_at "rd"
  exact ⟨_,_,_,hT1,Zk,Zm,_,rfl,r.P,rfl,_,.inl (SqL.of M1.p),r'⟩
 ·rintro i σ H' hi ⟨o,rfl,bz,M'⟩
  obtain ⟨dt2,hT2⟩:=M'.t
  have:i=0∨i=1:=by omega
  rcases this with rfl | rfl
  ·walk_at "rd"
   refine ⟨_,_,_,hT2,Zk,Zh,_,Xj _ _,r.W,rfl,_,SqL.of M'.w,.ref r.l1,rfl,.inl ⟨rfl,_,SqL.of M'.w1⟩,_,_,hT2,WS _ _ (by decide +kernel) (by decide +kernel),r,s1,s2,n,n,n+1,1,n,rfl,by omega,by decide,hn,hok,M',by omega,Nat.lt_succ_self n,fun D H2 hD hB bz2 M2=>⟨D,_,rfl,hB,by rw [Vh];omega,Qw hok.1.2 hok.2.2 hn,fun H3 s3=>?_⟩⟩
   have M3:=M2.keep s3
   have e:(List.map (fun p=>p.1*p.2) (rb s1 s2 1 n)).sum=r1 s2 n:=V2 (pl:=1) (by decide)
   rw [e]
   refine ⟨r.l1,rfl,_,M3.w1,by rw [YI];exact few (by omega),(((bz.trans (bz2.mono Ra.c_z)).trans (.of s3)).put (by simp [Ra.zs]) _),?_⟩
   rw [← Xf]
   exact M3.put1
  ·walk_at "rd"
   refine ⟨_,_,_,hT2,Zk,Zh,_,Xj _ _,r.W,rfl,_,SqL.of M'.w,.ref r.l0,rfl,.inl ⟨rfl,_,SqL.of M'.w0⟩,_,_,hT2,WS _ _ (by decide +kernel) (by decide +kernel),r,s1,s2,n,n+1,n+1,0,n,rfl,by omega,by decide,hn,hok,M',by omega,Nat.lt_succ_self n,fun D H2 hD hB bz2 M2=>⟨D,_,rfl,hB,by rw [Vh];omega,Qw hok.1.2 hok.2.2 hn,fun H3 s3=>?_⟩⟩
   have M3:=M2.keep s3
   have e:(List.map (fun p=>p.1*p.2) (rb s1 s2 0 n)).sum=r0 s1 s2 n:=V2 (pl:=0) (by decide)
   rw [e]
   refine ⟨r.l0,rfl,_,M3.w0,by rw [YI];exact few (by omega),(((bz.trans (bz2.mono Ra.c_z)).trans (.of s3)).put (by simp [Ra.zs]) _),?_⟩
   rw [← Xf]
   exact M3.put0
 ·rintro σ H' ⟨o,rfl,bz,M'⟩
  walk_at "rd"
  exact q H' bz M'
theorem Z09 {k:Nat} {Z5 Zb Z7 Za Z8 Z6 Zc Z9 Z2 Z3 Z4 Z1 Z0:Addr} {c_law_asked P_law_asked:Addr} (R:g.RawM Z4 "ways_at" "RowTable.ways_at" Z0X ["self","place","left"]) (Z3m:g.Me k Z4 "add_size" ["self","size"] (Um g.K Z1 Z4 m)) (b_len:g.mg "len"=none) (Zk:Cls g.K Z4) (Zm:Yg g.K Z4 "parts") (Zh:Yg g.K Z4 "ways"):g.Me (k+1) Z4 "ways_at" ["self","place","left"] (Z2V g.K Z1 Z4 (m+1)):=by
 refine R.me Z3j (fun vs H Q E h=>by obtain ⟨r,s1,s2,n0,n1,n2,pl,left,rfl,hl1,hpl,hle,hok,M,q1,q2⟩:=h;rfl) fun f_ cdv A outer s H vs Q E hr h=>?_
 obtain ⟨r,s1,s2,n0,n1,n2,pl,left,rfl,hl1,hpl,hle,hok,M,q1,q2⟩:=h
 refine ⟨_,(@Yf _ _ _ _ _ (@XF _ _ _ _ _ _ PassesOwn.never (@Yr _ _ _ _ _ _ _ _ VI (@YD _ _ _ _ _ _ _ _ _ _ b_len Yx (@Ya _ _ _ _ _ (@YA _ _ _ _ _ _ _ YX (@Yo _ _ _ _ _ (pv 0) rfl) (@VH _ _ _ _ _ _ W7 Yj) (fun _ _=>rfl)) Yd (by rfl)) (by decide +kernel) (by rfl) (by rfl) (by decide) (by decide) (by rfl) (by rfl)) (pv 2) (Yv _)) (@Yh _ _ _ (@YV _ _ _ _ (@YU _ _ _ _ _ _ _ _ _ _ _ _ _ _ _ _ Z3m Zk hr (pv 0) (@Ya _ _ _ _ _ (@YD _ _ _ _ _ _ _ _ _ _ b_len Yx (@Ya _ _ _ _ _ (@YA _ _ _ _ _ _ _ YX (@Yo _ _ _ _ _ (pv 0) rfl) (@VH _ _ _ _ _ _ W7 Yj) (fun _ _=>rfl)) Yd (by rfl)) (by decide +kernel) (by rfl) (by rfl) (by decide) (by decide) (by rfl) (by rfl)) Yd (by rfl)) (by omega) (by rfl) (by rfl) (by rfl) (by rfl)) (by rfl)))) (@Yh _ _ _ (@Yl _ _ _ _ (@YA _ _ _ _ _ _ _ YX (@YA _ _ _ _ _ _ _ YX (@Yo _ _ _ _ _ (pv 0) rfl) (pv 1) (fun _ _=>rfl)) (pv 2) (fun _ _=>rfl))))),?_⟩
 obtain ⟨dt,hT⟩:=M.t
 obtain ⟨lp,hlp,hw⟩:=M.way hpl
 walk_at "rd"
 by_cases cs:left<n2
 ·refine Xr (α:=Unit) (fun x σ H'=>σ=[some (.ref r.T),some (.int pl),some (.int left)]∧H=H') (fun x=>false) (fun x=>0) () ⟨rfl,rfl⟩ ?_ ?_ ?_
  ·rintro x σ H' ⟨rfl,rfl⟩ R r'
   walk_at "rd"
   refine ⟨_,_,_,hT,Zk,Zh,_,Xj _ _,r.W,rfl,_,SqL.of M.w,.ref r.l2,rfl,r.l2,rfl,_,.inl (SqL.of M.w2),?_⟩
   rw [YI,dle,decide_eq_false (by omega)]
   exact r' H ⟨rfl,rfl⟩
  ·rintro x σ H' ⟨rfl,rfl⟩ hd
   cases hd
  ·rintro x σ H' ⟨rfl,rfl⟩ hd
   walk_at "rd"
   exact ⟨_,_,_,hT,Zk,Zh,_,Xj _ _,r.W,rfl,_,SqL.of M.w,_,hlp,lp,rfl,_,SqL.of hw,_,Wo _ (q1 cs).1,(q1 cs).2⟩
 ·obtain ⟨hl4,rfl,rfl,rfl,q⟩:=q2 (by omega)
  refine Xr (α:=Bool) (fun x σ H'=>σ=[some (.ref r.T),some (.int pl),some (.int n2)]∧(x=false→H'=H)∧(x=true→Bz r.zs H H'∧RT Z1 Z4 H' r s1 s2 (n2+1) (n2+1) (n2+1))) (fun x => !x) (fun x=>if x then 0 else 1) false ⟨rfl,fun _=>rfl,fun z=>by cases z⟩ ?_ ?_ ?_
  ·rintro b σ H' ⟨rfl,h1,h2⟩ R r'
   have rq:=r' H' ⟨rfl,h1,h2⟩
   walk_at "rd"
   cases b with
   | false =>
    obtain rfl:=h1 rfl
    refine ⟨_,_,_,hT,Zk,Zh,_,Xj _ _,r.W,rfl,_,SqL.of M.w,.ref r.l2,rfl,r.l2,rfl,_,.inl (SqL.of M.w2),?_⟩
    rw [YI,dle,decide_eq_true (by omega)]
    exact rq
   | true =>
    obtain ⟨bz,M'⟩:=h2 rfl
    obtain ⟨dt2,hT2⟩:=M'.t
    refine ⟨_,_,_,hT2,Zk,Zh,_,Xj _ _,r.W,rfl,_,SqL.of M'.w,.ref r.l2,rfl,r.l2,rfl,_,.inl (SqL.of M'.w2),?_⟩
    rw [YI,dle,decide_eq_false (by omega)]
    exact rq
  ·rintro b σ H' ⟨rfl,h1,h2⟩ hd
   cases b with
   | true=>cases hd
   | false =>
    obtain rfl:=h1 rfl
    walk_at "rd"
    refine ⟨_,_,hT,WS _ _ (by decide +kernel) (by decide +kernel),_,_,_,hT,Zk,Zh,_,Xj _ _,r.W,rfl,_,SqL.of M.w,.ref r.l2,rfl,r.l2,rfl,_,.inl (SqL.of M.w2),?_⟩
    rw [YI]
    exact ⟨r,s1,s2,n2,rfl,by omega,hle,hok,M,fun H2 bz M2=>⟨true,(fun z=>by cases z),fun _=>⟨bz,M2⟩,Nat.zero_lt_one⟩⟩
  ·rintro b σ H' ⟨rfl,h1,h2⟩ hd
   cases b with
   | false=>cases hd
   | true =>
    obtain ⟨bz,M'⟩:=h2 rfl
    obtain ⟨dt2,hT2⟩:=M'.t
    obtain ⟨lp2,hlp2,hw2⟩:=M'.way hpl
    walk_at "rd"
    exact ⟨_,_,_,hT2,Zk,Zh,_,Xj _ _,r.W,rfl,_,SqL.of M'.w,_,hlp2,lp2,rfl,_,SqL.of hw2,_,Wo _ (by match pl with | 0=>exact Nat.lt_succ_self _ | 1=>exact Nat.lt_succ_self _ | _+2=>exact Nat.lt_succ_self _),q H' bz M'⟩
def Z45 (CB:Addr):Sp:=fun vs H Q _=>∃ (T dx P:Addr) (as:List Addr),vs=[.ref T,.ref P]∧H T=some (.ins CB dx [])∧H P=some (.lst (as.map V.ref))∧as.length≤100 ∧
 ∀ L (ws:List Addr) H',H L=none→(∀ x∈ws,H x=none)→ws.Nodup→ws.length=as.length+1→SameBut T H H'→H' T=some (.ins CB dx (rtf P L))→H' L=some (.lst (ws.map V.ref))→(∀ x∈ws,H' x=some (.lst []))→Q .non H'
theorem Z2W {Z5 Zb Z7 Za Z8 Z6 Zc Z9 Z2 Z3 Z4 Z1 Z0:Addr} {c_law_asked P_law_asked:Addr} (R:g.RawI "RowTable" Z4 "RowTable.__init__" Z0K ["self","parts"]) (b_len:g.mg "len"=none) (Zu:g.mg "range"=none) (Zk:Cls g.K Z4) (Zm:Yg g.K Z4 "parts") (Zh:Yg g.K Z4 "ways"):g.Ma (1) "RowTable" Z4 ["self","parts"] (Z45 Z4):=by
 refine R.ma Z2M (fun vs H Q E h=>by obtain ⟨T,dx,P,as,rfl,hT,hP,hl,q⟩:=h;rfl) fun f_ cdv A outer s H vs Q E hr h=>?_
 obtain ⟨T,dx,P,as,rfl,hT,hP,hl,q⟩:=h
 refine ⟨_,(@Yf _ _ _ _ _ (@Xe _ _ _ _ _ _ _ _ (pv 0) (pv 1) rfl) (@Yh _ _ _ (@Xe _ _ _ _ _ _ _ _ (pv 0) (@Wc _ _ _ _ _ _ _ ([none]) ((["place"]:List Str)) _ (YM 0) _ _ (.own .nil) rfl (@Xc _ _ _ _ _ _ rfl Zu (@Ya _ _ _ _ _ (@Yn _ _ _ _ _ _ _ _ Y1 (@YD _ _ _ _ _ _ _ _ _ _ b_len Yx (@Ya _ _ _ _ _ (pv 1) Yd (by rfl)) (by decide +kernel) (by rfl) (by rfl) (by decide) (by decide) (by rfl) (by rfl)) Yj) Yd (by rfl)) (by rfl)) (fun cl C s₀ H₀ fp pn=>(@YJ _ _ (0) _ (show List.Nodup (["place"]:List Str) by decide +kernel) rfl (.inl rfl) (.inr rfl))) (fun cl C s₀ H₀ fp pn=>Xn) (fun cl C s₀ H₀ fp pn=>(@Xq _ _ _ _ Yd)) (by intro x hx;simp at hx) (by rfl) (by decide) (by decide +kernel) (by intro _;rfl)) rfl))),?_⟩
 walk_at "rd"
 have nTP:T≠P:=Yq hT hP (by simp)
 refine ⟨_,dx,_,hT,Zk,Zm,by decide,?_⟩
 obtain ⟨H1,hH1⟩:∃ H1,H1=upd H T (.ins Z4 dx (YE "parts" (.ref P) [])):=⟨_,rfl⟩
 rw [← hH1]
 have h1T:H1 T=some (.ins Z4 dx (YE "parts" (.ref P) [])):=by rw [hH1,Yc]
 have h1:∀ {b:Addr},b≠T→H1 b=H b:=fun n=>by rw [hH1,Yb n]
 refine WX (n:=as.length+1) (fun D i zs H'=>∃ ws:List Addr,zs=ws.map V.ref∧ws.length=i∧ws.Nodup∧(∀ x∈ws,H1 x=none∧x≠D∧H' x=some (.lst []))∧H' D=some (.lst zs)∧∀ b o,b≠D→H1 b=some o→H' b=some o) (fun R r=>?_) (by omega) ?_ ?_ ?_ ?_
 ·walk_at "rd"
  refine ⟨_,.inl (SqL.of ((h1 (Ne.symm nTP)).trans hP)),?_⟩
  rw [List.length_map]
  exact r
 ·intro D hD
  exact ⟨[],rfl,rfl,.nil,fun x hx=>(by cases hx),Yc,fun b o hb e=>by rw [Yb hb];exact e⟩
 ·rintro D i zs H' ⟨ws,rfl,h2,_,_,h3,_⟩
  exact ⟨by rw [List.length_map,h2],h3⟩
 ·rintro D i zs H' hD hi ⟨ws,rfl,hwl,hnd,hws,hd,fr⟩ R r
  walk_at "rd"
  refine ⟨few (by decide),fun X gX=>?_⟩
  have nXD:X≠D:=Ne.symm (Ye hd gX)
  have sX:=Yk.upd_new gX (.lst [])
  have gX1:H1 X=none:=by
   cases e:H1 X with
   | none=>rfl
   | some o=>rw [fr X o nXD e] at gX;cases gX
  refine r _ _ (sX _ _ hd) ⟨ws++[X],by rw [List.map_append];rfl,by rw [List.length_append,hwl];rfl,?_,fun x hx=>?_,Yc,fun b o hb e=>by rw [Yb hb];exact sX _ _ (fr b o hb e)⟩
  ·rw [List.nodup_append]
   refine ⟨hnd,by simp,fun x hx y hy=>?_⟩
   have:y=X:=by simpa using hy
   subst this
   intro z
   subst z
   rw [(hws x hx).2.2] at gX
   cases gX
  ·rcases List.mem_append.mp hx with hx | hx
   ·obtain ⟨k1,k2,k3⟩:=hws x hx
    exact ⟨k1,k2,by rw [Yb k2];exact sX _ _ k3⟩
   ·have:x=X:=by simpa using hx
    subst this
    exact ⟨gX1,nXD,by rw [Yb nXD,Yc]⟩
 ·rintro L zs H' hL ⟨ws,rfl,hwl,hnd,hws,hd,fr⟩
  have nLT:L≠T:=Ne.symm (Ye h1T hL)
  have nf:∀ {b:Addr},H1 b=none→H b=none:=fun {b} e=>by
   by_cases c:b=T
   ·subst c;rw [h1T] at e;cases e
   ·rw [← h1 c];exact e
  have h'T:=fr T _ (Ne.symm nLT) h1T
  refine ⟨_,dx,_,h'T,Zk,Zh,XS (show 1≤3 by decide),?_⟩
  have nw:∀ x∈ws,x≠T:=fun x hx=>Yq (hws x hx).2.2 h'T (by simp)
  refine q L ws _ (nf hL) (fun x hx=>nf (hws x hx).1) hnd hwl (fun b o hb e=>?_) ?_ (by rw [Yb nLT];exact hd) (fun x hx=>by rw [Yb (nw x hx)];exact (hws x hx).2.2)
  ·rw [Yb hb]
   exact fr b o (Ye ((h1 hb).trans e) hL) ((h1 hb).trans e)
  ·rw [Yc]
   refine congrArg some (congrArg (HO.ins _ _) ?_)
   show YE "ways" (.ref L) [(("parts":Str),V.ref P)]=rtf P L
   simp only [YE,if_neg (show ¬ (("parts":Str)="ways") by decide +kernel)];rfl
def Z4g (CR CB:Addr):Sp:=fun vs H Q _=>∃ (p dx P:Addr) (as:List Addr),vs=[.ref p,.ref P]∧H p=some (.ins CR dx [])∧H P=some (.lst (as.map V.ref))∧as.length≤100 ∧
 ∀ c T dt L (ws:List Addr) H',H c=none→H T=none→H L=none→(∀ x∈ws,H x=none)→(c::ws).Nodup→ws.length=as.length+1→SameBut p H H'→H' p=some (.ins CR dx (rmf c P T))→H' c=some (.lst [])→H' T=some (.ins CB dt (rtf P L))→H' L=some (.lst (ws.map V.ref))→(∀ x∈ws,H' x=some (.lst []))→Q .non H'
theorem Z2X {k:Nat} {Z5 Zb Z7 Za Z8 Z6 Zc Z9 Z2 Z3 Z4 Z1 Z0:Addr} {c_law_asked P_law_asked:Addr} (R:g.RawI "RowMaker" Z3 "RowMaker.__init__" Z0M ["self","parts"]) {j_RowTable___init__:Nat} (Z3n:g.Ma j_RowTable___init__ "RowTable" Z4 ["self","parts"] (Z45 Z4)) (h_RowTable___init__:j_RowTable___init__+1≤k) (ZU:g.Cf k "Maker" "__init__" ["self"] (Z0H g.K Z0 Z1 Z2 Z3)) (Zs:Cls g.K Z3) (Zp:Yg g.K Z3 "counts") (Zv:Yg g.K Z3 "parts") (Zt:Yg g.K Z3 "table"):g.Ma (k+1) "RowMaker" Z3 ["self","parts"] (Z4g Z3 Z4):=by
 refine R.ma Z2N (fun vs H Q E h=>by obtain ⟨p,dx,P,as,rfl,hp,hP,hl,q⟩:=h;rfl) fun f_ cdv A outer s H vs Q E hr h=>?_
 obtain ⟨p,dx,P,as,rfl,hp,hP,hl,q⟩:=h
 refine ⟨_,(@Yf _ _ _ _ _ (@YV _ _ _ _ (@UR _ _ _ _ _ _ _ _ _ _ _ _ _ _ _ ZU hr (@Ya _ _ _ _ _ (pv 0) Yd (by rfl)) (by omega) (by rfl) (by rfl) (by decide) (by rfl) (by rfl) (by rfl)) (by rfl)) (@Yf _ _ _ _ _ (@Xe _ _ _ _ _ _ _ _ (pv 0) (pv 1) rfl) (@Yh _ _ _ (@Xe _ _ _ _ _ _ _ _ (pv 0) (@WU _ _ _ _ _ _ _ _ _ _ _ _ _ Z3n hr (@Ya _ _ _ _ _ (pv 1) Yd (by rfl)) (by omega) (by rfl) (by rfl) (by decide) (by rfl) (by rfl)) rfl)))),?_⟩
 walk_at "rd"
 refine ⟨p,dx,_,rfl,(.inr (.inr (.inr rfl))),hp,fun c hc=>?_⟩
 have hne:p≠c:=Ye hp hc
 have npP:p≠P:=Yq hp hP (by simp)
 have nPc:P≠c:=Ye hP hc
 refine ⟨_,dx,_,Yc,Zs,Zv,XS (show 1≤3 by decide),?_⟩
 obtain ⟨H1,hH1⟩:∃ H1,H1=upd (upd (upd H c (.lst [])) p (.ins Z3 dx [("counts",.ref c)])) p (.ins Z3 dx (YE "parts" (.ref P) [("counts",.ref c)])):=⟨_,rfl⟩
 rw [← hH1]
 have h1p:H1 p=some (.ins Z3 dx [("counts",.ref c),("parts",.ref P)]):=by rw [hH1,Yc];simp only [YE,if_neg (show ¬ (("counts":Str)="parts") by decide +kernel)]
 have h1c:H1 c=some (.lst []):=by rw [hH1,Yb (Ne.symm hne),Yb (Ne.symm hne),Yc]
 have h1:∀ {b:Addr} {o:HO},b≠p→H b=some o→H1 b=some o:=fun n e=>by rw [hH1,Yb n,Yb n,Yb (Ye e hc)];exact e
 have nf:∀ {b:Addr},H1 b=none→H b=none:=fun {b} e=>by
  cases z:H b with
  | none=>rfl
  | some o =>
   exfalso
   by_cases cc:b=p
   ·subst cc;rw [h1p] at e;cases e
   ·rw [h1 cc z] at e;cases e
 intro T dt gT gdt hnd
 have sd:=Yk.upd_new gdt (.own T)
 have gT2:upd H1 dt (.own T) T=none:=by rw [Yb (Ne.symm hnd)];exact gT
 have s12:=sd.trans (.upd_new gT2 (.ins Z4 dt []))
 refine ⟨T,dt,P,as,rfl,Yc,s12 _ _ (h1 (Ne.symm npP) hP),hl,fun L ws H3 gL gws hndw hwl sb h3T h3L h3w=>?_⟩
 have npT:p≠T:=Ye h1p gT
 have ncT:c≠T:=Ye h1c gT
 have h3p:=sb _ _ npT (s12 _ _ h1p)
 have h3c:=sb _ _ ncT (s12 _ _ h1c)
 have ncw:c∉ws:=fun z=>by have:=gws c z;rw [s12 _ _ h1c] at this;cases this
 have npw:∀ x∈ws,x≠p:=fun x hx=>Yq (h3w x hx) h3p (by simp)
 have npL:L≠p:=Yq h3L h3p (by simp)
 refine ⟨rfl,_,dx,_,h3p,Zs,Zt,XS (show 2≤3 by decide),?_⟩
 refine q c T dt L ws _ hc (nf gT) (nf (s12.free gL)) (fun x hx=>nf (s12.free (gws x hx))) (List.nodup_cons.mpr ⟨ncw,hndw⟩) hwl (fun b o hb e=>?_) ?_ ?_ ?_ ?_ (fun x hx=>?_)
 ·rw [Yb hb]
  exact sb _ _ (Ye (h1 hb e) gT) (s12 _ _ (h1 hb e))
 ·rw [Yc];simp only [YE,if_neg (show ¬ (("counts":Str)="table") by decide +kernel),if_neg (show ¬ (("parts":Str)="table") by decide +kernel)];rfl
 ·rw [Yb (Ne.symm hne)];exact h3c
 ·rw [Yb (Ne.symm npT)];exact h3T
 ·rw [Yb npL];exact h3L
 ·rw [Yb (npw x hx)];exact h3w x hx
structure RM (CT CR CB:Addr) (H:Hp) (pr cr:Addr) (r:Ra) (s1 s2:List Nat) (m:Nat):Prop where
 h:∃ dx,H pr=some (.ins CR dx (rmf cr r.P r.T))
 c:H cr=some (.lst (YH (r0 s1 s2) m))
 t:RT CT CB H r s1 s2 m m m
 d:cr∉r.ads
def Qx (K:PySem.W.Frag) (CT CR CB:Addr):Sp:=fun vs H Q _=>∃ (pr cr:Addr) (r:Ra) (s1 s2:List Nat) (m:Nat),vs=[.ref pr,.int (m:Nat)]∧m≤20∧Ok2 s1 s2∧RM CT CR CB H pr cr r s1 s2 m∧∀ H',Bz r.zs H H'→RT CT CB H' r s1 s2 (m+1) (m+1) (m+1)→Q (.int (r0 s1 s2 m)) H'
theorem Z2Y {k:Nat} {Z5 Zb Z7 Za Z8 Z6 Zc Z9 Z2 Z3 Z4 Z1 Z0:Addr} {c_law_asked P_law_asked:Addr} (R:g.RawM Z3 "reckoned" "RowMaker.reckoned" Z0N ["self","size"]) (Z0Z:g.Me k Z4 "ways_at" ["self","place","left"] (Z2V g.K Z1 Z4 4)) (Zs:Cls g.K Z3) (Zp:Yg g.K Z3 "counts") (Zv:Yg g.K Z3 "parts") (Zt:Yg g.K Z3 "table") (Zk:Cls g.K Z4) (Zm:Yg g.K Z4 "parts") (Zh:Yg g.K Z4 "ways"):g.Me (k+1) Z3 "reckoned" ["self","size"] (Qx g.K Z1 Z3 Z4):=by
 refine R.me Z2O (fun vs H Q E h=>by obtain ⟨pr,cr,r,s1,s2,m,rfl,hm,hok,M,q⟩:=h;rfl) fun f_ cdv A outer s H vs Q E hr h=>?_
 obtain ⟨pr,cr,r,s1,s2,m,rfl,hm,hok,M,q⟩:=h
 refine ⟨_,(@Yh _ _ _ (@Yl _ _ _ _ (@YU _ _ _ _ _ _ _ _ _ _ _ _ _ _ _ _ Z0Z Zk hr (@Yo _ _ _ _ _ (pv 0) rfl) (@Ya _ _ _ _ _ Yj (@Ya _ _ _ _ _ (pv 1) Yd (by rfl)) (by rfl)) (by omega) (by rfl) (by rfl) (by rfl) (by rfl)))),?_⟩
 obtain ⟨dx,hp⟩:=M.h
 obtain ⟨dt,hT⟩:=M.t.t
 walk_at "rd"
 exact ⟨_,_,_,hp,Zs,Zt,_,UB _ _ _,r.T,rfl,_,_,hT,WS _ _ (by decide +kernel) (by decide +kernel),r,s1,s2,m,m,m,0,m,rfl,by decide,by decide,hm,hok,M.t,fun z=>absurd z (by omega),fun _=>⟨by decide,rfl,rfl,rfl,fun H' bz M'=>q H' bz M'⟩⟩
def Z1G (K:PySem.W.Frag) (CT CR CB:Addr):Sp:=fun vs H Q _=>∃ (pr cr:Addr) (r:Ra) (s1 s2:List Nat) (m k:Nat),vs=[.ref pr,.int (k:Nat)]∧k≤20∧m≤21∧Ok2 s1 s2∧RM CT CR CB H pr cr r s1 s2 m∧∀ H',Bz (cr::r.zs) H H'→RM CT CR CB H' pr cr r s1 s2 (max m (k+1))→Q (.int (r0 s1 s2 k)) H'
theorem Z2Z {k:Nat} {Z5 Zb Z7 Za Z8 Z6 Zc Z9 Z2 Z3 Z4 Z1 Z0:Addr} {c_law_asked P_law_asked:Addr} (R:g.RawM Z3 "count_at" "Maker.count_at" Z0P ["self","size"]) (Z3o:g.Me k Z3 "reckoned" ["self","size"] (Qx g.K Z1 Z3 Z4)) (b_len:g.mg "len"=none) (Zs:Cls g.K Z3) (Zp:Yg g.K Z3 "counts") (Zv:Yg g.K Z3 "parts") (Zt:Yg g.K Z3 "table"):g.Me (k+1) Z3 "count_at" ["self","size"] (Z1G g.K Z1 Z3 Z4):=by
 refine R.me Z2P (fun vs H Q E h=>by obtain ⟨pr,cr,r,s1,s2,mm,k,rfl,hk,hm,hok,M,q⟩:=h;rfl) fun f_ cdv A outer s H vs Q E hr h=>?_
 obtain ⟨pr,cr,r,s1,s2,mm,k,rfl,hk,hm,hok,M,q⟩:=h
 refine ⟨_,(@Yf _ _ _ _ _ (@XF _ _ _ _ _ _ PassesOwn.never (@Yr _ _ _ _ _ _ _ _ VI (@YD _ _ _ _ _ _ _ _ _ _ b_len Yx (@Ya _ _ _ _ _ (@Yo _ _ _ _ _ (pv 0) rfl) Yd (by rfl)) (by decide +kernel) (by rfl) (by rfl) (by decide) (by decide) (by rfl) (by rfl)) (pv 1) (Yv _)) (@Yh _ _ _ (@YV _ _ _ _ (@Xx _ _ _ _ _ _ _ _ _ _ _ _ PySem.F.plainAttrs_list PySem.F.slot_list_append PySem.F.type_list_append Y4 (@Yo _ _ _ _ _ (pv 0) rfl) (@Ya _ _ _ _ _ (@YU _ _ _ _ _ _ _ _ _ _ _ _ _ _ _ _ Z3o Zs hr (pv 0) (@Ya _ _ _ _ _ (@YD _ _ _ _ _ _ _ _ _ _ b_len Yx (@Ya _ _ _ _ _ (@Yo _ _ _ _ _ (pv 0) rfl) Yd (by rfl)) (by decide +kernel) (by rfl) (by rfl) (by decide) (by decide) (by rfl) (by rfl)) Yd (by rfl)) (by omega) (by rfl) (by rfl) (by rfl) (by rfl)) Yd (by rfl)) (by rfl) (by rfl) (by rfl) (by rfl) (by rfl)) (by rfl)))) (@Yh _ _ _ (@Yl _ _ _ _ (@YA _ _ _ _ _ _ _ YX (@Yo _ _ _ _ _ (pv 0) rfl) (pv 1) (fun _ _=>rfl))))),?_⟩
 walk_at "rd"
 refine Xr (α:=Nat) (fun x σ H'=>σ=[some (.ref pr),some (.int k)]∧Bz (cr::r.zs) H H'∧mm≤x∧x≤max mm (k+1)∧RM Z1 Z3 Z4 H' pr cr r s1 s2 x) (fun x=>decide (x≤k)) (fun x=>k+1 - x) mm ⟨rfl,.refl _ _,Nat.le_refl _,Nat.le_max_left _ _,M⟩ ?_ ?_ ?_
 ·rintro x σ H' ⟨rfl,bz,h1,h2,M'⟩ R r'
  obtain ⟨dx,hp⟩:=M'.h
  walk_at "rd"
  refine ⟨_,_,_,hp,Zs,Zp,_,rfl,_,rfl,_,.inl (SqL.of M'.c),?_⟩
  rw [YI,dle]
  exact r' H' ⟨rfl,bz,h1,h2,M'⟩
 ·rintro x σ H' ⟨rfl,bz,h1,h2,M'⟩ hd
  have hd:x≤k:=of_decide_eq_true hd
  obtain ⟨dx,hp⟩:=M'.h
  walk_at "rd"
  refine ⟨_,_,_,hp,Zs,Zp,_,rfl,.inl ⟨rfl,_,SqL.of M'.c⟩,_,_,hp,Qt _ _ _ (by decide +kernel) (by decide +kernel) (by decide +kernel),_,_,_,hp,Zs,Zp,_,rfl,_,rfl,_,.inl (SqL.of M'.c),?_⟩
  rw [YI]
  have ncz:cr∉r.zs:=fun z=>M'.d (by simp only [Ra.zs,Ra.ads,List.mem_cons,List.not_mem_nil,or_false] at z ⊢;rcases z with rfl | rfl | rfl | rfl | rfl<;>simp)
  refine ⟨pr,cr,r,s1,s2,x,rfl,by omega,hok,M',fun H2 bz2 M2=>⟨_,rfl,_,bz2 _ _ ncz M'.c,by rw [YI];exact few (by omega),(bz.trans (bz2.mono fun z hz => .tail _ hz)).put (.head _) _,x+1,by omega,by omega,⟨⟨dx,?_⟩,by rw [Yc,Xf],M2.keepB fun b o hb e=>by rw [Yb (fun z:b=cr=>M'.d (z▸hb))];exact e,M'.d⟩,by omega⟩⟩
  have npz:pr∉r.zs:=fun z=>by
   obtain ⟨d1,q1,_,_,e1⟩:=M'.t.a
   obtain ⟨d2,q2,_,_,e2⟩:=M'.t.b
   simp only [Ra.zs,List.mem_cons,List.not_mem_nil,or_false] at z
   rcases z with rfl | rfl | rfl | rfl | rfl
   ·rw [e1] at hp;cases hp
   ·rw [e2] at hp;cases hp
   ·rw [M'.t.w0] at hp;cases hp
   ·rw [M'.t.w1] at hp;cases hp
   ·rw [M'.t.w2] at hp;cases hp
  rw [Yb (Yq hp M'.c (by intro z;cases z))]
  exact bz2 _ _ npz hp
 ·rintro x σ H' ⟨rfl,bz,h1,h2,M'⟩ hd
  have hd:¬ x≤k:=of_decide_eq_false hd
  obtain ⟨dx,hp⟩:=M'.h
  walk_at "rd"
  have e:x=max mm (k+1):=by omega
  subst e
  exact ⟨_,_,_,hp,Zs,Zp,_,rfl,_,rfl,_,SqL.of M'.c,_,Wo _ (by omega),q H' bz M'⟩
theorem Yev {s1 s2:List Nat} {pl l:Nat} {j:Int} (hp:pl<2) (h0:0≤j) (h1:j<rr s1 s2 pl l):(fnd (rb s1 s2 pl l) j).1≤l∧0≤(fnd (rb s1 s2 pl l) j).2.2∧(fnd (rb s1 s2 pl l) j).2.2<rr s1 s2 (pl+1) (l - (fnd (rb s1 s2 pl l) j).1):=by
 obtain ⟨p,g1,g2,g3⟩:=Qq (rb s1 s2 pl l) j h0 (by rw [V2 hp];exact h1) Yb8
 have key:∀ i,(rb s1 s2 pl l)[i]?=some p→i<l+1∧p.2=rr s1 s2 (pl+1) (l - i):=fun i h=>by
  have hi:=(List.getElem?_eq_some_iff.mp h).1
  rw [Vh] at hi
  rw [rb,List.getElem?_map,List.getElem?_range hi] at h
  cases h
  exact ⟨hi,rfl⟩
 obtain ⟨k1,k2⟩:=key _ g1
 exact ⟨by omega,g2,by rw [← k2];exact g3⟩
def Z3E (K:PySem.W.Frag) (CT CR CB:Addr):Sp:=fun vs H Q _=>∃ (pr cr:Addr) (r:Ra) (s1 s2:List Nat) (m k:Nat) (j:Int),vs=[.ref pr,.int (k:Nat),.int j]∧k<m∧m≤21∧Ok2 s1 s2∧RM CT CR CB H pr cr r s1 s2 m∧0≤j∧j<r0 s1 s2 k∧∀ (t:Addr) (x y:Str) H',H t=none→H' t=some (.tup [.str x,.str y])→Bz r.cs H H'→RM CT CR CB H' pr cr r s1 s2 m→Q (.ref t) H'
theorem Z30 {k:Nat} {Z5 Zb Z7 Za Z8 Z6 Zc Z9 Z2 Z3 Z4 Z1 Z0:Addr} {c_law_asked P_law_asked:Addr} (R:g.RawM Z3 "value_at" "RowMaker.value_at" Z0O ["self","size","number"]) (Z2U:g.Fn k "found_in" ["blocks","number"] (Z1X g.K Zc)) (Z0B:g.Me k Z1 "value_at" ["self","size","number"] (Z1q g.K Z0 Z1)) (Z0A:g.Me k Z4 "blocks_at" ["self","place","left"] (Vq g.K Z1 Z4 4)) (Z07:g.mg "enumerate"=none) (Z08:g.mg "tuple"=none) (ZH:Cls g.K Zc) (ZA:Yg g.K Zc "place") (ZD:Yg g.K Zc "choice") (ZM:Yg g.K Zc "rest") (Zs:Cls g.K Z3) (Zp:Yg g.K Z3 "counts") (Zv:Yg g.K Z3 "parts") (Zt:Yg g.K Z3 "table") (Zk:Cls g.K Z4) (Zm:Yg g.K Z4 "parts") (Zh:Yg g.K Z4 "ways") (Zg:Cls g.K Z1) (Ze:Yg g.K Z1 "counts") (Zf:Yg g.K Z1 "signs"):g.Me (k+1) Z3 "value_at" ["self","size","number"] (Z3E g.K Z1 Z3 Z4):=by
 refine R.me Zz (fun vs H Q E h=>by obtain ⟨pr,cr,r,s1,s2,m,k,j,rfl,hk,hm,hok,M,h0,h1,q⟩:=h;rfl) fun f_ cdv A outer s H vs Q E hr h=>?_
 obtain ⟨pr,cr,r,s1,s2,m,k,j,rfl,hk,hm,hok,M,h0,h1,q⟩:=h
 refine ⟨_,(@Yf _ _ _ _ _ (@Yp _ _ (3) _ _ _ _ Zz.nd rfl (.inl rfl) (@Xq _ _ _ _ Yd) (by rfl) (by first | exact .inl rfl | exact .inr rfl | assumption)) (@Yf _ _ _ _ _ (@Yp _ _ (4) _ _ _ _ Zz.nd rfl (.inl rfl) (pv 1) (by rfl) (by first | exact .inl rfl | exact .inr rfl | assumption)) (@Yf _ _ _ _ _ (@Yp _ _ (5) _ _ _ _ Zz.nd rfl (.inl rfl) (pv 2) (by rfl) (by first | exact .inl rfl | exact .inr rfl | assumption)) (@Yf _ _ _ _ _ (@Xz _ _ _ _ _ _ _ _ PassesOwn.never rfl (@Ycm _ _ _ _ _ _ _ _ rfl Z07 (@Ya _ _ _ _ _ (@Yo _ _ _ _ _ (pv 0) rfl) Yd (by rfl)) (by rfl)) (@U0 _ _ _ _ _ (2) rfl (@XT _ _ _ _ _ (@YJ _ _ (6) _ Zz.nd rfl (.inl rfl) (by first | exact .inl rfl | exact .inr rfl | assumption)) (@XT _ _ _ _ _ (@YJ _ _ (7) _ Zz.nd rfl (.inl rfl) (by first | exact .inl rfl | exact .inr rfl | assumption)) V6 (by rfl)) (by rfl)) (by rfl) (by rfl)) (@Yf _ _ _ _ _ (@Yp _ _ (8) _ _ _ _ Zz.nd rfl (.inl rfl) (@YK _ _ _ _ _ _ _ _ _ _ _ _ Z2U hr (@Ya _ _ _ _ _ (@YU _ _ _ _ _ _ _ _ _ _ _ _ _ _ _ _ Z0A Zk hr (@Yo _ _ _ _ _ (pv 0) rfl) (@Ya _ _ _ _ _ (pv 6) (@Ya _ _ _ _ _ (pv 4) Yd (by rfl)) (by rfl)) (by omega) (by rfl) (by rfl) (by rfl) (by rfl)) (@Ya _ _ _ _ _ (pv 5) Yd (by rfl)) (by rfl)) (by omega) (by rfl) (by rfl) (by decide) (by rfl) (by rfl)) (by rfl) (by first | exact .inl rfl | exact .inr rfl | assumption)) (@Yf _ _ _ _ _ (@YV _ _ _ _ (@Xx _ _ _ _ _ _ _ _ _ _ _ _ PySem.F.plainAttrs_list PySem.F.slot_list_append PySem.F.type_list_append Y4 (pv 3) (@Ya _ _ _ _ _ (@YU _ _ _ _ _ _ _ _ _ _ _ _ _ _ _ _ Z0B Zg hr (pv 7) (@Ya _ _ _ _ _ (@Yo _ _ _ _ _ (pv 8) rfl) (@Ya _ _ _ _ _ (@Yo _ _ _ _ _ (pv 8) rfl) Yd (by rfl)) (by rfl)) (by omega) (by rfl) (by rfl) (by rfl) (by rfl)) Yd (by rfl)) (by rfl) (by rfl) (by rfl) (by rfl) (by rfl)) (by rfl)) (@Yf _ _ _ _ _ (@VF _ _ (4) _ _ _ _ _ _ Zz.nd rfl (.inl rfl) (@Yo _ _ _ _ _ (pv 8) rfl) U1 (by first | exact .inl rfl | exact .inr rfl | assumption)) (@Yh _ _ _ (@Yp _ _ (5) _ _ _ _ Zz.nd rfl (.inl rfl) (@Yo _ _ _ _ _ (pv 8) rfl) (by rfl) (by first | exact .inl rfl | exact .inr rfl | assumption)))))) (by intro _;rfl)) (@Yh _ _ _ (@Yl _ _ _ _ (@YaK _ _ _ _ _ _ _ _ _ _ Z08 W1 (@Ya _ _ _ _ _ (pv 3) Yd (by rfl)) (by decide +kernel) (by rfl) (by rfl) (by decide) (by decide) (by rfl) (by rfl)))))))),?_⟩
 obtain ⟨dx,hp⟩:=M.h
 walk_at "rd"
 refine ⟨few (by decide),fun D hD=>?_⟩
 have sD:=Yk.upd_new hD (.lst [])
 have nDa:=M.t.new hD
 have nDc:D≠cr:=Ne.symm (Ye M.c hD)
 have nDp:D≠pr:=Ne.symm (Ye hp hD)
 have kRM:∀ {H1 H2:Hp},RM Z1 Z3 Z4 H1 pr cr r s1 s2 m→(∀ b o,b≠D→H1 b=some o→H2 b=some o)→RM Z1 Z3 Z4 H2 pr cr r s1 s2 m:=fun {H1 H2} h kk=>by
  obtain ⟨d1,e1⟩:=h.h
  exact ⟨⟨d1,kk _ _ (Ne.symm nDp) e1⟩,kk _ _ (Ne.symm nDc) h.c,h.t.keepB fun b o hb e=>kk b o (fun z=>nDa (z▸hb)) e,h.d⟩
 refine YaW (K:=g.K) (a:=r.P) (xs:=[.ref r.p1,.ref r.p2]) (fun i σ H'=>∃ (o6 o7 o8:Option V) (left:Nat) (YQ:Int) (ts:List Str),σ=[some (.ref pr),some (.int k),some (.int j),some (.ref D),some (.int (left:Nat)),some (.int YQ),o6,o7,o8]∧ts.length=i∧H' D=some (.lst (ts.map V.str))∧left≤k∧0≤YQ∧YQ<rr s1 s2 i left∧(∀ b o,b∉r.cs→b≠D→H b=some o→H' b=some o)∧RM Z1 Z3 Z4 H' pr cr r s1 s2 m) (fun R r'=>by walk_at "rd";exact ⟨_,_,_,sD _ _ hp,Zs,Zv,_,Yb4 _ _ _,r'⟩) ⟨none,none,none,k,j,[],rfl,rfl,Yc,Nat.le_refl _,h0,h1,fun b o _ hb e=>by rw [Yb hb];exact e,kRM M fun b o _ e=>sD _ _ e⟩ (fun i σ H' _ ⟨_,_,_,_,_,_,_,_,_,_,_,_,_,M'⟩=>SqL.of M'.t.p) ?_ ?_
 ·rintro i x σ H' T hx ⟨o6,o7,o8,left,YQ,ts,rfl,htl,hd,hlk,hr0,hr1,fr,M'⟩ hT
  have hi:i<2:=(List.getElem?_eq_some_iff.mp hx).1
  have sT:=Yk.upd_new hT (.tup [.int (i:Int),x])
  have M2:=kRM M' fun b o _ e=>sT _ _ e
  obtain ⟨d2,hp2⟩:=M2.h
  obtain ⟨dt2,ht2⟩:=M2.t.t
  obtain ⟨p,c,hat,hcs,hpa,hTP,hst⟩:=M2.t.part hi
  have ex:x = .ref p:=by
   have:i=0∨i=1:=by omega
   rcases this with rfl | rfl<;>(cases hx;cases hat;rfl)
  subst ex
  obtain ⟨f1,f2,f3⟩:=Yev hi hr0 hr1
  have p1:0<(pt s1 s2 i).length:=by
   have:i=0∨i=1:=by omega
   rcases this with rfl | rfl
   ·exact hok.1.1
   ·exact hok.2.1
  walk_at "rd"
  refine ⟨_,SqT.of Yc,rfl,_,_,rfl,_,_,rfl,rfl,_,_,_,hp2,Zs,Zt,_,UB _ _ _,r.T,rfl,_,_,ht2,WS _ _ (by decide +kernel) (by decide +kernel),r,s1,s2,m,m,m,i,left,rfl,by decide,hi,by omega,hok,M2.t,by omega,?_,fun B H3 gB hB bz3 M3=>?_⟩
  ·have:nn m m m (i+1)=m:=by match i with | 0=>rfl | _+1=>rfl
   omega
  refine ⟨B,_,YQ,rfl,hB,by rw [Vh];omega,Qw hok.1.2 hok.2.2 (by omega),Yb8,hr0,by rw [V2 hi];exact hr1,fun f dxf H4 s4 gf hf=>?_⟩
  have nDcs:D∉r.cs:=fun z=>nDa (by simp only [Ra.cs,Ra.ads,List.mem_cons,List.not_mem_nil,or_false] at z ⊢;rcases z with rfl | rfl<;>simp)
  have hd3:=bz3 _ _ nDcs (sT _ _ hd)
  have hd4:=s4 _ _ hd3
  have M4:RM Z1 Z3 Z4 H4 pr cr r s1 s2 m:=by
   have npr:pr∉r.cs:=fun z=>by
    obtain ⟨_,_,_,_,e1⟩:=M2.t.a
    obtain ⟨_,_,_,_,e2⟩:=M2.t.b
    simp only [Ra.cs,List.mem_cons,List.not_mem_nil,or_false] at z
    rcases z with rfl | rfl
    ·cases e1.symm.trans hp2
    ·cases e2.symm.trans hp2
   have ncr:cr∉r.cs:=fun z=>M2.d (by simp only [Ra.cs,Ra.ads,List.mem_cons,List.not_mem_nil,or_false] at z ⊢;rcases z with rfl | rfl<;>simp)
   exact ⟨⟨d2,s4 _ _ (bz3 _ _ npr hp2)⟩,s4 _ _ (bz3 _ _ ncr M2.c),M3.keep s4,M2.d⟩
  obtain ⟨⟨dx4,n4,_,t1,t2⟩,_⟩:=hst (H2:=H4) (n:=0) M4.t
  have nfD:f≠D:=Ne.symm (Ye hd3 gf)
  refine ⟨.inl ⟨rfl,_,SqL.of hd4⟩,p,rfl,_,_,t1,Yb0 _ _,f,rfl,_,_,_,hf,ZH,ZA,_,WH _ _ _,f,rfl,_,_,_,hf,ZH,ZD,_,V1 _ _ _,p,dx4,c,_,pt s1 s2 i,_,rfl,by omega,p1,Qv hok.1.2 hok.2.2 i,t1,fun H5 s5=>⟨_,s5 _ _ hd4,few (by rw [List.length_map];omega),?_⟩⟩
  have hf5:=(Yb (H:=H5) (o := .lst (ts.map V.str++[V.str (S (dg (pt s1 s2 i) (fnd (rb s1 s2 i left) YQ).1 (fnd (rb s1 s2 i left) YQ).2.1).reverse)])) nfD).trans (s5 _ _ hf)
  refine ⟨f,rfl,_,_,_,hf5,ZH,ZA,_,WH _ _ _,_,rfl,f,rfl,_,_,_,hf5,ZH,ZM,_,Qs _ _ _,?_⟩
  exact ⟨_,_,_,left - (fnd (rb s1 s2 i left) YQ).1,by omega,_,rfl,rfl,rfl,rfl,ts++[_],by simp [htl],by rw [Yc,List.map_append];rfl,by omega,f2,f3,fun b o b1 b2 e=>by rw [Yb b2];exact s5 _ _ (s4 _ _ (bz3 _ _ b1 (sT _ _ (fr b o b1 b2 e)))),kRM M4 fun b o hb e=>by rw [Yb hb];exact s5 _ _ e⟩
 ·rintro σ H' ⟨o6,o7,o8,left,YQ,ts,rfl,htl,hd,hlk,hr0,hr1,fr,M'⟩
  obtain ⟨a,b,rfl⟩:∃ a b,ts=[a,b]:=by match ts,htl with | [a,b],_=>exact ⟨a,b,rfl⟩
  walk_at "rd"
  refine ⟨_,.inl ⟨SqL.of hd,fun t gt=>?_⟩⟩
  have st:=Yk.upd_new gt (.tup [V.str a,V.str b])
  refine q t a b _ ?_ Yc (fun x o hx e=>st _ _ (fr x o hx (Ye e hD) e)) (kRM M' fun b o _ e=>st _ _ e)
  cases e:H t with
  | none=>rfl
  | some o =>
   exfalso
   by_cases hc:t∈r.cs
   ·exact M'.t.new gt (Ra.c_a _ hc)
   ·rw [fr t o hc (Ye e hD) e] at gt;cases gt
inductive Q6
 | w (lo:Int)
 | t (sg:List Nat)
 | m (lo:Int)
 | r (s1 s2:List Nat)
def kW6 (lo:Int):PyData := .tuple [.str "whole",.int lo,.int lo]
def kT6 (sg:List Nat):PyData := .tuple [.str "text",.str (S sg)]
def kd6:Q6→PyData
 | .w lo=>kW6 lo
 | .t sg=>kT6 sg
 | .m lo => .tuple [.str "many",kW6 lo]
 | .r s1 s2 => .tuple [.str "row",.tuple [kT6 s1,kT6 s2]]
def Q6.leaf:Q6→Bool
 | .w _=>true
 | .t _=>true
 | _=>false
def oks (sg:List Nat):Prop:=PyData.strOk (S sg)=true
def XH (H:Hp) (a:Addr):Q6→Prop
 | .w lo=>H a=some (.tup [.str "whole",.int lo,.int lo])
 | .t sg=>oks sg∧H a=some (.tup [.str "text",.str (S sg)])
 | .m lo=>∃ b,H a=some (.tup [.str "many",.ref b])∧H b=some (.tup [.str "whole",.int lo,.int lo])
 | .r s1 s2=>∃ b a1 a2,H a=some (.tup [.str "row",.ref b])∧H b=some (.tup [.ref a1,.ref a2])∧(oks s1∧H a1=some (.tup [.str "text",.str (S s1)]))∧oks s2∧H a2=some (.tup [.str "text",.str (S s2)])
theorem XH.kt {H H':Hp} {a:Addr} {sh:Q6} (h:XH H a sh) (k:∀ b xs,H b=some (.tup xs)→H' b=some (.tup xs)):XH H' a sh:=by
 cases sh with
 | w lo=>exact k _ _ h
 | t sg=>exact ⟨h.1,k _ _ h.2⟩
 | m lo=>obtain ⟨b,h1,h2⟩:=h;exact ⟨b,k _ _ h1,k _ _ h2⟩
 | r s1 s2=>obtain ⟨b,a1,a2,h1,h2,⟨h3,h4⟩,h5,h6⟩:=h;exact ⟨b,a1,a2,k _ _ h1,k _ _ h2,⟨h3,k _ _ h4⟩,h5,k _ _ h6⟩
theorem ko6 (sh:Q6):KO (kd6 sh):=by
 cases sh
 ·exact .tup (.cons (.str _) (.cons (.int _) (.cons (.int _) .nil)))
 ·exact .tup (.cons (.str _) (.cons (.str _) .nil))
 ·exact .tup (.cons (.str _) (.cons (.tup (.cons (.str _) (.cons (.int _) (.cons (.int _) .nil)))) .nil))
 ·exact .tup (.cons (.str _) (.cons (.tup (.cons (.tup (.cons (.str _) (.cons (.str _) .nil))) (.cons (.tup (.cons (.str _) (.cons (.str _) .nil))) .nil))) .nil))
theorem dk6 {K:PySem.W.Frag} {H:Hp} {a:Addr} {sh:Q6} (h:XH H a sh):DK K H a (kd6 sh):=by
 refine ⟨?_,ko6 sh,?_⟩
 ·cases sh with
  | w lo=>exact .tup (SqT.of h) (.cons (.str _ (by decide +kernel)) (.cons (.int _) (.cons (.int _) .nil)))
  | t sg=>exact .tup (SqT.of h.2) (.cons (.str _ (by decide +kernel)) (.cons (.str _ h.1) .nil))
  | m lo =>
   obtain ⟨b,h1,h2⟩:=h
   exact .tup (SqT.of h1) (.cons (.str _ (by decide +kernel)) (.cons (.tup (SqT.of h2) (.cons (.str _ (by decide +kernel)) (.cons (.int _) (.cons (.int _) .nil)))) .nil))
  | r s1 s2 =>
   obtain ⟨b,a1,a2,h1,h2,⟨h3,h4⟩,h5,h6⟩:=h
   exact .tup (SqT.of h1) (.cons (.str _ (by decide +kernel)) (.cons (.tup (SqT.of h2) (.cons (.tup (SqT.of h4) (.cons (.str _ (by decide +kernel)) (.cons (.str _ h3) .nil))) (.cons (.tup (SqT.of h6) (.cons (.str _ (by decide +kernel)) (.cons (.str _ h5) .nil))) .nil))) .nil))
 ·cases sh<;>simp [kd6,kW6,kT6,PyData.depth,PyData.depthAll]
def MS (CW CT CM CR CB:Addr) (H:Hp) (p:Addr) (Z:List Addr) (m:Nat):Q6→Prop
 | .w lo=>∃ cl,Z=[cl]∧Wi CW CT H p (.w lo 0) cl m
 | .t sg=>∃ cl,Z=[cl]∧Wi CW CT H p (.t sg) cl m
 | .m lo=>∃ pw cm cw dm dw n,Z=[cm,cw]∧n≤50∧MM CW CM H p pw cm cw dm dw lo 0 m n
 | .r s1 s2=>∃ cr r,Z=cr::r.zs∧RM CT CR CB H p cr r s1 s2 m
theorem MM.keep {CW CM:Addr} {H H':Hp} {pm pw cm cw dm dw:Addr} {lo:Int} {span m n:Nat} (h:MM CW CM H pm pw cm cw dm dw lo span m n) (k:∀ b o,(∀ φ,o ≠ .ext φ)→H b=some o→H' b=some o):MM CW CM H' pm pw cm cw dm dw lo span m n :=
 ⟨k _ _ (by intro φ z;cases z) h.hm,k _ _ (by intro φ z;cases z) h.hc,k _ _ (by intro φ z;cases z) h.hw,k _ _ (by intro φ z;cases z) h.hv,h.ne⟩
theorem RT.keepE {CT CB:Addr} {H H':Hp} {r:Ra} {s1 s2:List Nat} {n0 n1 n2:Nat} (h:RT CT CB H r s1 s2 n0 n1 n2) (k:∀ b o,(∀ φ,o ≠ .ext φ)→H b=some o→H' b=some o):RT CT CB H' r s1 s2 n0 n1 n2:=by
 obtain ⟨dt,ht⟩:=h.t
 obtain ⟨dx,n,hn,a1,a2⟩:=h.a
 obtain ⟨dy,m,hm,b1,b2⟩:=h.b
 exact ⟨⟨dt,k _ _ (by intro φ z;cases z) ht⟩,k _ _ (by intro φ z;cases z) h.p,k _ _ (by intro φ z;cases z) h.w,⟨dx,n,hn,k _ _ (by intro φ z;cases z) a1,k _ _ (by intro φ z;cases z) a2⟩,⟨dy,m,hm,k _ _ (by intro φ z;cases z) b1,k _ _ (by intro φ z;cases z) b2⟩,k _ _ (by intro φ z;cases z) h.w0,k _ _ (by intro φ z;cases z) h.w1,k _ _ (by intro φ z;cases z) h.w2,h.dl,h.dc,h.dw,h.cc⟩
theorem MS.keep {CW CT CM CR CB:Addr} {H H':Hp} {p:Addr} {Z:List Addr} {m:Nat} {sh:Q6} (h:MS CW CT CM CR CB H p Z m sh) (k:∀ b o,(∀ φ,o ≠ .ext φ)→H b=some o→H' b=some o):MS CW CT CM CR CB H' p Z m sh:=by
 cases sh with
 | w lo=>obtain ⟨cl,e,dx,h1,h2⟩:=h;exact ⟨cl,e,dx,k _ _ (by intro φ z;cases z) h1,k _ _ (by intro φ z;cases z) h2⟩
 | t sg=>obtain ⟨cl,e,dx,h1,h2⟩:=h;exact ⟨cl,e,dx,k _ _ (by intro φ z;cases z) h1,k _ _ (by intro φ z;cases z) h2⟩
 | m lo=>obtain ⟨pw,cm,cw,dm,dw,n,e,hn,h⟩:=h;exact ⟨pw,cm,cw,dm,dw,n,e,hn,h.keep k⟩
 | r s1 s2 =>
  obtain ⟨cr,r,e,⟨dx,h1⟩,h2,h3,h4⟩:=h
  exact ⟨cr,r,e,⟨dx,k _ _ (by intro φ z;cases z) h1⟩,k _ _ (by intro φ z;cases z) h2,h3.keepE k,h4⟩
def UC (K:PySem.W.Frag):Sp:=fun vs H Q _=>∃ (a:Addr),vs=[.ref a]∧((∃ b,H a=some (.tup [.str "many",.ref b])∧∀ D,H D=none→Q (.ref D) (upd H D (.lst [.ref b])))∨∃ b a1 a2,H a=some (.tup [.str "row",.ref b])∧H b=some (.tup [.ref a1,.ref a2])∧∀ D,H D=none→Q (.ref D) (upd H D (.lst [.ref a1,.ref a2])))
theorem QT {Z5 Zb Z7 Za Z8 Z6 Zc Z9 Z2 Z3 Z4 Z1 Z0:Addr} {c_law_asked P_law_asked:Addr} (R:g.Raw "parts_of" "parts_of" Z2H ["shape"]) (b_list:g.mg "list"=none) (Z3i:g.ConT "OF_ONE_PART" ([.str "many",.str "rising",.str "unlike"])):g.Fn (1) "parts_of" ["shape"] (UC g.K):=by
 refine R.fn Z42 (fun vs H Q E h=>by obtain ⟨a,rfl,h⟩:=h;rfl) fun f_ cdv A outer s H vs Q E hr h=>?_
 obtain ⟨a,rfl,h⟩:=h
 refine ⟨_,(@Yf _ _ _ _ _ (@Yp _ _ (1) _ _ _ _ Z42.nd rfl (.inl rfl) (@YA _ _ _ _ _ _ _ Y2 (pv 0) Yj (fun _ _=>rfl)) (by rfl) (by first | exact .inl rfl | exact .inr rfl | assumption)) (@Yf _ _ _ _ _ (@YO _ _ _ _ _ _ _ _ (@Yr _ _ _ _ _ _ _ _ Xd (pv 1) YF (Yv _)) (@Yh _ _ _ (@Yl _ _ _ _ (@YaK _ _ _ _ _ _ _ _ _ _ b_list U5 (@Ya _ _ _ _ _ (@YA _ _ _ _ _ _ _ Y2 (pv 0) Yj (fun _ _=>rfl)) Yd (by rfl)) (by decide +kernel) (by rfl) (by rfl) (by decide) (by decide) (by rfl) (by rfl)))) Yt) (@Yf _ _ _ _ _ (@YO _ _ _ _ _ _ _ _ (@Yr _ _ _ _ _ _ _ _ Xd (pv 1) YF (Yv _)) (@Yh _ _ _ XE) Yt) (@Yf _ _ _ _ _ (@YO _ _ _ _ _ _ _ _ (@WT _ _ _ _ _ _ _ (@Yr _ _ _ _ _ _ _ _ Xd (pv 1) YF (Yv _)) (@W5 _ _ _ _ (@Yr _ _ _ _ _ _ _ _ Ybx (pv 1) (@pe_gt _ _ _ _ _ Z3i (by rfl) (by rfl) (by decide)) rfl))).pt (@Yh _ _ _ (@Yl _ _ _ _ (@Xq _ _ _ _ (@Ya _ _ _ _ _ (@YA _ _ _ _ _ _ _ Y2 (pv 0) Yj (fun _ _=>rfl)) Yd (by rfl))))) Yt) (@Yh _ _ _ XE))))),?_⟩
 walk_at "rd"
 rcases h with ⟨b,ha,q⟩ | ⟨b,a1,a2,ha,hb,q⟩
 ·exact ⟨_,SqT.of ha,_,rfl,Y0 _ _,YL (by decide +kernel) ⟨Y0 _ _,YL (by decide +kernel) ⟨Y0 _ _,YL (by decide +kernel) fun c hc=>⟨_,.inr hc,rfl,rfl,Xs (by decide +kernel) ⟨_,SqT.of ha,_,rfl,few (by decide),q⟩⟩⟩⟩⟩
 ·exact ⟨_,SqT.of ha,_,rfl,Y0 _ _,Xs rfl ⟨_,SqT.of ha,_,rfl,_,rfl,_,.inr (SqT.of hb),q⟩⟩
def Uo (P:Program) (w:World) (K:PySem.W.Frag) (CL CW CT CM CR CB:Addr) (l:Nat):Sp:=fun vs H Q _=>∃ (ls dx d a:Addr) (b:V) (sh:Q6) (xs:Dx),vs=[.ref ls,.ref a]∧1≤l∧(sh.leaf=true∨3≤l∧xs=[])∧H ls=some (.ins CL dx (lf b d))∧DictD P w K H d xs∧xs.length≤10∧XH H a sh ∧
 ∀ p Z H' xs',(∀ b o,b≠d→H b=some o→H' b=some o)→MS CW CT CM CR CB H' p Z 0 sh→(∀ z∈Z,H z=none)→DictD P w K H' d xs'→(sh.leaf=true→xs'=xs)→xs'.length≤xs.length+2→(sh.leaf=false→lookD xs' (kd6 sh)=none)→Q (.ref p) H'
def V3 (P:Program) (w:World) (K:PySem.W.Frag) (CL CW CT CM CR CB:Addr) (l:Nat):Sp:=fun vs H Q _=>∃ (ls dx d a:Addr) (b:V) (sh:Q6) (xs:Dx),vs=[.ref ls,.ref a]∧2≤l∧(sh.leaf=true∨4≤l∧xs=[])∧H ls=some (.ins CL dx (lf b d))∧DictD P w K H d xs∧xs.length≤10∧XH H a sh ∧
 (lookD xs (kd6 sh)=none→∀ p Z H' xs',(∀ b o,b≠d→H b=some o→H' b=some o)→MS CW CT CM CR CB H' p Z 0 sh→(∀ z∈Z,H z=none)→DictD P w K H' d xs'→(sh.leaf=true→xs'=xs++[(kd6 sh,a,p)])→xs'.length≤xs.length+3→Q (.ref p) H')∧∀ p,lookD xs (kd6 sh)=some p→Q (.ref p) H
theorem Yew {P:Program} {w:World} {K:PySem.W.Frag} {CL CW CT CM CR CB:Addr} {vs:List V} {H:Hp} {Q:VK} {E:XK} (h:Uo P w K CL CW CT CM CR CB 0 vs H Q E):False:=by
 obtain ⟨ls,dx,d,a,b,sh,xs,_,h,_⟩:=h
 omega
theorem QU {P:Program} {w:World} {K:PySem.W.Frag} {CL CW CT CM CR CB:Addr} {vs:List V} {H:Hp} {Q:VK} {E:XK} (h:V3 P w K CL CW CT CM CR CB 0 vs H Q E):False:=by
 obtain ⟨ls,dx,d,a,b,sh,xs,_,h,_⟩:=h
 omega
theorem Yar {K:PySem.W.Frag} {src:List (Option Nat)} {te tl:TE} {tt:TT} {σ:St} {H:Hp} {Q:VK} (G:Addr→List V→Hp→Prop) (ha:∀ R:V→Hp→Prop,(∀ b xs H1,SqL K H1 b xs→G b xs H1→R (.ref b) H1)→tl σ H R)
  (hb:∀ b xs H1 D,SqL K H1 b xs→G b xs H1→H1 D=none→∃ Pv:Nat→List V→St→Hp→Prop,Pv 0 [] (none::YS src σ) (upd H1 D (.lst []))∧(∀ i zs σ' H',Pv i zs σ' H'→SqL K H' b xs∧H' D=some (.lst zs)) ∧
   (∀ (i:Nat) zs σ' H' x,xs[i]?=some x→Pv i zs σ' H'→YM 0 x σ' H' fun σ2 H4=>tt σ2 H4 fun bb H5=>if bb=true then te σ2 H5 (fun y H6=>H6 D=some (.lst zs)∧zs.length<sizeLine∧Pv (i+1) (zs++[y]) σ2 (upd H6 D (.lst (zs++[y])))) else Pv (i+1) zs σ2 H5)∧(∀ zs σ' H',Pv xs.length zs σ' H'→Q (.ref D) H')):tLC (none::src) (Vk K tl) (YM 0) tt te σ H Q :=
 ha _ fun b xs H1 hS hG=>⟨b,rfl,⟨xs,hS⟩,fun D hD=>by
  obtain ⟨Pv,h0,h1,h2,h3⟩:=hb b xs H1 D hS hG hD
  exact Yc5 We Pv h0 h1 h2 h3⟩
def PvM (g:Gx) (CW CT:Addr) (H H1:Hp) (ls d D L b':Addr) (lo:Int) (i:Nat) (zs:List V) (σ':St) (H':Hp):Prop:=(∃ o,σ'=[o,some (.ref ls)])∧H' D=some (.lst zs)∧H' L=some (.lst [.ref b'])∧((i=0∧zs=[]∧H'=upd H1 D (.lst []))∨(i=1∧∃ pw cw,zs=[.ref pw]∧(∀ b o,b≠d→H b=some o→H' b=some o)∧Wi CW CT H' pw (.w lo 0) cw 0∧H cw=none∧DictD g.P g.w g.K H' d [(kW6 lo,b',pw)]))
def PvR (g:Gx) (CW CT:Addr) (H H1:Hp) (ls d D L a1 a2:Addr) (s1 s2:List Nat) (i:Nat) (zs:List V) (σ':St) (H':Hp):Prop:=(∃ o,σ'=[o,some (.ref ls)])∧H' D=some (.lst zs)∧H' L=some (.lst [.ref a1,.ref a2])∧((i=0∧zs=[]∧H'=upd H1 D (.lst []))∨(i=1∧∃ p1 c1,zs=[.ref p1]∧(∀ b o,b≠d→H b=some o→H' b=some o)∧Wi CW CT H' p1 (.t s1) c1 0∧H c1=none∧c1≠D∧DictD g.P g.w g.K H' d [(kT6 s1,a1,p1)])∨(i=2∧∃ p1 c1 p2 c2 xs',zs=[.ref p1,.ref p2]∧(∀ b o,b≠d→H b=some o→H' b=some o)∧Wi CW CT H' p1 (.t s1) c1 0∧Wi CW CT H' p2 (.t s2) c2 0∧H c1=none∧H c2=none∧c1≠D∧c2≠D∧(c1=c2→s1=s2)∧DictD g.P g.w g.K H' d xs'∧xs'.length≤2∧lookD xs' (kd6 (.r s1 s2))=none))
theorem Z0a {k:Nat} {Z5 Zb Z7 Za Z8 Z6 Zc Z9 Z2 Z3 Z4 Z1 Z0:Addr} {c_law_asked P_law_asked:Addr} (R:g.RawM Z9 "new_maker" "Lister.new_maker" Z0W ["self","shape"]) (F_parts_of:g.Fn k "parts_of" ["shape"] (UC g.K)) (Z15:g.Me k Z9 "maker_of" ["self","shape"] (V3 g.P g.w g.K Z9 Z0 Z1 Z2 Z3 Z4 m)) {j_WholeMaker___init__:Nat} (Z2A:g.Ma j_WholeMaker___init__ "WholeMaker" Z0 ["self","low","high"] (Z4b g.K Z0 Z1)) (h_WholeMaker___init__:j_WholeMaker___init__+1≤k) {j_TextMaker___init__:Nat} (Z31:g.Ma j_TextMaker___init__ "TextMaker" Z1 ["self","signs"] (Z4c g.K Z0 Z1)) (h_TextMaker___init__:j_TextMaker___init__+1≤k) {j_ManyMaker___init__:Nat} (Z32:g.Ma j_ManyMaker___init__ "ManyMaker" Z2 ["self","part"] (Z4d g.K Z0 Z2)) (h_ManyMaker___init__:j_ManyMaker___init__+1≤k) {j_RowMaker___init__:Nat} (Z3p:g.Ma j_RowMaker___init__ "RowMaker" Z3 ["self","parts"] (Z4g Z3 Z4)) (h_RowMaker___init__:j_RowMaker___init__+1≤k) (Zx:Cls g.K Z9) (Zy:Yg g.K Z9 "book") (Zr:Yg g.K Z9 "makers"):g.Me (k+1) Z9 "new_maker" ["self","shape"] (Uo g.P g.w g.K Z9 Z0 Z1 Z2 Z3 Z4 (m+1)):=by
 refine R.me Z0J (fun vs H Q E h=>by obtain ⟨ls,dx,d,a,b,sh,xs,rfl,hl,hlf,hls,hd,hxl,ha,q⟩:=h;rfl) fun f_ cdv A outer s H vs Q E hr h=>?_
 obtain ⟨ls,dx,d,a,b,sh,xs,rfl,hl,hlf,hls,hd,hxl,ha,q⟩:=h
 refine ⟨_,(@Yf _ _ _ _ _ (@Yp _ _ (2) _ _ _ _ Z0J.nd rfl (.inl rfl) (@YA _ _ _ _ _ _ _ Y2 (pv 1) Yj (fun _ _=>rfl)) (by rfl) (by first | exact .inl rfl | exact .inr rfl | assumption)) (@Yf _ _ _ _ _ (@YO _ _ _ _ _ _ _ _ (@Yr _ _ _ _ _ _ _ _ Xd (pv 2) YF (Yv _)) (@Yh _ _ _ (@Yl _ _ _ _ (@WU _ _ _ _ _ _ _ _ _ _ _ _ _ Z2A hr (@Ya _ _ _ _ _ (@YA _ _ _ _ _ _ _ Y2 (pv 1) Yj (fun _ _=>rfl)) (@Ya _ _ _ _ _ (@YA _ _ _ _ _ _ _ Y2 (pv 1) Yj (fun _ _=>rfl)) Yd (by rfl)) (by rfl)) (by omega) (by rfl) (by rfl) (by decide) (by rfl) (by rfl)))) Yt) (@Yf _ _ _ _ _ (@YO _ _ _ _ _ _ _ _ (@Yr _ _ _ _ _ _ _ _ Xd (pv 2) YF (Yv _)) (@Yh _ _ _ (@Yl _ _ _ _ (@WU _ _ _ _ _ _ _ _ _ _ _ _ _ Z31 hr (@Ya _ _ _ _ _ (@YA _ _ _ _ _ _ _ Y2 (pv 1) Yj (fun _ _=>rfl)) Yd (by rfl)) (by omega) (by rfl) (by rfl) (by decide) (by rfl) (by rfl)))) Yt) (@Yf _ _ _ _ _ (@YdB _ (3) _ _ _ _ _ _ _ _ _ ([none,some 0]) ((["part","self"]:List Str)) _ (YM 0) _ _ Z0J.nd rfl (.inl rfl) (.own (.cap (i:=0) rfl rfl (by first | exact .inl rfl | exact .inr rfl) .nil)) rfl (@XV _ _ _ _ (@YK _ _ _ _ _ _ _ _ _ _ _ _ F_parts_of hr (@Ya _ _ _ _ _ (pv 1) Yd (by rfl)) (by omega) (by rfl) (by rfl) (by decide) (by rfl) (by rfl))) (fun cl C s₀ H₀ fp pn=>(@YJ _ _ (0) _ (show List.Nodup (["part","self"]:List Str) by decide +kernel) rfl (.inl rfl) (.inr rfl))) (fun cl C s₀ H₀ fp pn=>Xn) (fun cl C s₀ H₀ fp pn=>(@YU _ _ _ _ _ _ _ _ _ _ _ _ _ _ _ _ Z15 Zx hr (pv 1) (@Ya _ _ _ _ _ (pv 0) Yd (by rfl)) (by omega) (by rfl) (by rfl) (by rfl) (by rfl))) (by intro x hx;simp at hx;first | (subst hx;exact .inl rfl) | (rcases hx with rfl | rfl<;>exact .inl rfl) | (rcases hx with rfl | rfl | rfl<;>exact .inl rfl) | (rcases hx with rfl | rfl | rfl | rfl<;>exact .inl rfl) | (rcases hx with rfl | rfl | rfl | rfl | rfl<;>exact .inl rfl)) (by rfl) (by decide) (by decide +kernel) (by intro _;rfl) (by rfl) (by first | exact .inl rfl | exact .inr rfl | assumption)) (@Yf _ _ _ _ _ (@YO _ _ _ _ _ _ _ _ (@Yr _ _ _ _ _ _ _ _ Xd (pv 2) YF (Yv _)) (@Yh _ _ _ (@Yl _ _ _ _ (@WU _ _ _ _ _ _ _ _ _ _ _ _ _ Z3p hr (@Ya _ _ _ _ _ (pv 3) Yd (by rfl)) (by omega) (by rfl) (by rfl) (by decide) (by rfl) (by rfl)))) Yt) (@Yf _ _ _ _ _ (@YO _ _ _ _ _ _ _ _ (@Yr _ _ _ _ _ _ _ _ Xd (pv 2) YF (Yv _)) (@Yh _ _ _ XE) Yt) (@Yf _ _ _ _ _ (@YO _ _ _ _ _ _ _ _ (@Yr _ _ _ _ _ _ _ _ Xd (pv 2) YF (Yv _)) (@Yh _ _ _ (@Yl _ _ _ _ (@WU _ _ _ _ _ _ _ _ _ _ _ _ _ Z32 hr (@Ya _ _ _ _ _ (@YA _ _ _ _ _ _ _ YX (pv 3) Yj (fun _ _=>rfl)) Yd (by rfl)) (by omega) (by rfl) (by rfl) (by decide) (by rfl) (by rfl)))) Yt) (@Yf _ _ _ _ _ XE (@Yh _ _ _ XE))))))))),?_⟩
 walk_at "rd"
 cases sh with
 | w lo =>
  have ha:H a=some (.tup [.str "whole",.int lo,.int lo]):=ha
  refine ⟨_,SqT.of ha,_,rfl,Y0 _ _,Xs rfl ⟨_,SqT.of ha,_,rfl,_,SqT.of ha,_,rfl,fun x dx' hx hdx hne=>⟨x,dx',lo,0,by simp,Yc,fun cl H' hcl sb hm=>⟨rfl,?_⟩⟩⟩⟩
  have s:=XL hx hdx sb
  exact q x [cl] H' xs (fun b o _ e=>s _ _ e) ⟨cl,rfl,hm⟩ (fun z hz=>by rw [List.mem_singleton.mp hz];exact Y6 (Y6 hcl)) (hd.keep (Wn s) (s _ _ hd.at_)) (fun _=>rfl) (by omega) (fun z=>by cases z)
 | t sg =>
  obtain ⟨_,ha⟩:=ha
  refine ⟨_,SqT.of ha,_,rfl,Y0 _ _,YL (by decide +kernel) ⟨Y0 _ _,Xs rfl ⟨_,SqT.of ha,_,rfl,fun x dx' hx hdx hne=>⟨x,dx',sg,rfl,Yc,fun cl H' hcl sb hm=>⟨rfl,?_⟩⟩⟩⟩⟩
  have s:=XL hx hdx sb
  exact q x [cl] H' xs (fun b o _ e=>s _ _ e) ⟨cl,rfl,hm⟩ (fun z hz=>by rw [List.mem_singleton.mp hz];exact Y6 (Y6 hcl)) (hd.keep (Wn s) (s _ _ hd.at_)) (fun _=>rfl) (by omega) (fun z=>by cases z)
 | m lo =>
  obtain ⟨b',ha1,hb'⟩:=ha
  obtain ⟨hl3,rfl⟩:3≤m+1∧xs=[]:=by rcases hlf with z | z;cases z;exact z
  refine ⟨_,SqT.of ha1,_,rfl,Y0 _ _,YL (by decide +kernel) ⟨Y0 _ _,YL (by decide +kernel) ?_⟩⟩
  refine Yar (K:=g.K) (fun L ys H1=>ys=[.ref b']∧Yk H H1∧H L=none∧H1 L=some (.lst [.ref b'])) (fun R r=>by walk_at "rd";exact ⟨a,rfl,.inl ⟨b',ha1,fun D hD=>r D _ _ (SqL.of Yc) ⟨rfl,.upd_new hD _,hD,Yc⟩⟩⟩) ?_
  rintro L ys H1 D hS ⟨rfl,s1,hLn,hL⟩ hD
  have sD:=Yk.upd_new hD (.lst [])
  have s1D:=s1.trans sD
  have nDd:D≠d:=Ne.symm (Ye (s1 _ _ hd.at_) hD)
  have nLd:L≠d:=Ne.symm (Ye hd.at_ hLn)
  have nLD:L≠D:=Ye hL hD
  have hgD:H D=none:=s1.free hD
  refine ⟨PvM g Z0 Z1 H H1 ls d D L b' lo,⟨⟨_,rfl⟩,Yc,sD _ _ hL,.inl ⟨rfl,rfl,rfl⟩⟩,fun i zs σ' H' h=>⟨SqL.of h.2.2.1,h.2.1⟩,?_,?_⟩
  ·rintro i zs σ' H' x hx ⟨⟨o,rfl⟩,h1,h2,h3⟩
   have hi:i=0:=by have:=(List.getElem?_eq_some_iff.mp hx).1;simpa using this
   subst hi
   cases hx
   rcases h3 with ⟨_,rfl,rfl⟩ | ⟨z,_⟩
   rotate_left
   ·cases z
   walk_at "rd"
   refine ⟨_,_,s1D _ _ hls,V0 _ _ (by decide +kernel) (by decide +kernel),ls,dx,d,b',b,.w lo,[],rfl,by omega,.inl rfl,s1D _ _ hls,hd.keep (Wn s1D) (s1D _ _ hd.at_),by simp,s1D _ _ hb',fun _ pw Z H2 xs' fr mw hz hd2 hlf2 hl2=>?_,fun p z=>by cases z⟩
   obtain ⟨cw,rfl,dw,m1,m2⟩:=mw
   have e2:=hlf2 rfl
   subst e2
   have hcw:=hz cw (.head _)
   have hD2:=fr D _ nDd Yc
   have npD:pw≠D:=Yq m1 hD2 (by intro z;cases z)
   have ncD:cw≠D:=fun z=>by rw [z,Yc] at hcw;cases hcw
   have tk:WM H2 (upd H2 D (.lst [.ref pw])):=VA (fun b o hb e=>by rw [Yb hb];exact e) hD2 (by intro xs z;cases z) (by intro o v z;cases z)
   refine ⟨hD2,by decide,?_⟩
   unfold PvM
   exact ⟨⟨_,rfl⟩,Yc,by rw [Yb nLD];exact fr L _ nLd (sD _ _ hL),.inr ⟨rfl,pw,cw,rfl,fun b o hb e=>by rw [Yb (Ye e hgD)];exact fr b o hb (s1D _ _ e),⟨dw,(Yb npD).trans m1,(Yb ncD).trans m2⟩,s1.free (Y6 hcw),hd2.keep tk ((Yb (Ne.symm nDd)).trans hd2.at_)⟩⟩
  ·rintro zs σ' H5 ⟨_,h1,h2,h3⟩
   rcases h3 with ⟨z,_⟩ | ⟨_,pw,cw,rfl,fr,⟨dw,m1,m2⟩,gcw,hd5⟩
   ·cases z
   refine ⟨Y0 _ _,YL (by decide +kernel) ⟨Y0 _ _,YL (by decide +kernel) ⟨Y0 _ _,Xs rfl ⟨D,rfl,_,SqL.of h1,_,rfl,fun x dx' hx hdx hne=>⟨x,dx',pw,rfl,Yc,fun cl H4 hcl sb hp4 hcl4=>⟨rfl,?_⟩⟩⟩⟩⟩⟩
   have s4:=XL hx hdx sb
   have free5:∀ z,H5 z=none→H z=none:=fun z hz=>by
    cases h:H z with
    | none=>rfl
    | some o =>
     exfalso
     by_cases c:z=d
     ·subst c;rw [hd5.at_] at hz;cases hz
     ·rw [fr z o c h] at hz;cases hz
   have hcl5:=Y6 (Y6 hcl)
   refine q x [cl,cw] H4 _ (fun z o hz e=>s4 _ _ (fr z o hz e)) ⟨pw,cl,cw,dx',dw,0,rfl,by decide,⟨hp4,hcl4,s4 _ _ m1,s4 _ _ m2,Ne.symm (Ye m2 hcl5)⟩⟩ (fun z hz=>?_) (hd5.keep (Wn s4) (s4 _ _ hd5.at_)) (fun z=>by cases z) (by simp) fun _=>?_
   ·simp only [List.mem_cons,List.not_mem_nil,or_false] at hz
    rcases hz with rfl | rfl
    ·exact free5 _ hcl5
    ·exact gcw
   ·have:=Wh [] (kW6 lo) (kd6 (.m lo)) b' pw rfl
    rw [List.nil_append] at this
    rw [this,if_neg (by simp [kd6,kW6])]
    rfl
 | r s1 s2 =>
  obtain ⟨b',a1,a2,ha1,hb',⟨hk1,hA1⟩,hk2,hA2⟩:=ha
  obtain ⟨hl3,rfl⟩:3≤m+1∧xs=[]:=by rcases hlf with z | z;cases z;exact z
  refine ⟨_,SqT.of ha1,_,rfl,Y0 _ _,YL (by decide +kernel) ⟨Y0 _ _,YL (by decide +kernel) ?_⟩⟩
  refine Yar (K:=g.K) (fun L ys H1=>ys=[.ref a1,.ref a2]∧Yk H H1∧H L=none∧H1 L=some (.lst [.ref a1,.ref a2])) (fun R r=>by walk_at "rd";exact ⟨a,rfl,.inr ⟨b',a1,a2,ha1,hb',fun D hD=>r D _ _ (SqL.of Yc) ⟨rfl,.upd_new hD _,hD,Yc⟩⟩⟩) ?_
  rintro L ys H1 D hS ⟨rfl,s1',hLn,hL⟩ hD
  have sD:=Yk.upd_new hD (.lst [])
  have s1D:=s1'.trans sD
  have nDd:D≠d:=Ne.symm (Ye (s1' _ _ hd.at_) hD)
  have nLd:L≠d:=Ne.symm (Ye hd.at_ hLn)
  have nLD:L≠D:=Ye hL hD
  have hgD:H D=none:=s1'.free hD
  have look1:∀ (p:Addr) (e:PyData),lookD [(kT6 s1,a1,p)] e=if e=kT6 s1 then some p else none:=fun p e=>Wh [] (kT6 s1) e a1 p rfl
  have kdn:∀ sg,kd6 (.r s1 s2)≠kT6 sg:=fun sg=>by simp [kd6,kT6]
  have nld:ls≠d:=Yq hls hd.at_ (by intro z;cases z)
  refine ⟨PvR g Z0 Z1 H H1 ls d D L a1 a2 s1 s2,⟨⟨_,rfl⟩,Yc,sD _ _ hL,.inl ⟨rfl,rfl,rfl⟩⟩,fun i zs σ' H' h=>⟨SqL.of h.2.2.1,h.2.1⟩,?_,?_⟩
  ·rintro i zs σ' H' x hx ⟨⟨o,rfl⟩,h1,h2,h3⟩
   have hi:i<2:=(List.getElem?_eq_some_iff.mp hx).1
   have upk:∀ {H2:Hp} {zs zs':List V},H2 D=some (.lst zs)→WM H2 (upd H2 D (.lst zs')):=fun hD2=>VA (fun b o hb e=>by rw [Yb hb];exact e) hD2 (by intro xs z;cases z) (by intro o v z;cases z)
   rcases h3 with ⟨rfl,rfl,rfl⟩ | ⟨rfl,p1,c1,rfl,fr,⟨d1,m1,m2⟩,gc1,nc1,hd1⟩ | ⟨rfl,_⟩
   ·cases hx
    walk_at "rd"
    refine ⟨_,_,s1D _ _ hls,V0 _ _ (by decide +kernel) (by decide +kernel),ls,dx,d,a1,b,.t s1,[],rfl,by omega,.inl rfl,s1D _ _ hls,hd.keep (Wn s1D) (s1D _ _ hd.at_),by simp,⟨hk1,s1D _ _ hA1⟩,fun _ p1 Z H2 xs' fr mw hz hd2 hlf2 hl2=>?_,fun p z=>by cases z⟩
    obtain ⟨c1,rfl,d1,m1,m2⟩:=mw
    have e2:=hlf2 rfl
    subst e2
    have hc1:=hz c1 (.head _)
    have hD2:=fr D _ nDd Yc
    have npD:p1≠D:=Yq m1 hD2 (by intro z;cases z)
    have ncD:c1≠D:=fun z=>by rw [z,Yc] at hc1;cases hc1
    refine ⟨hD2,by decide,?_⟩
    unfold PvR
    exact ⟨⟨_,rfl⟩,Yc,by rw [Yb nLD];exact fr L _ nLd (sD _ _ hL),.inr (.inl ⟨rfl,p1,c1,rfl,fun b o hb e=>by rw [Yb (Ye e hgD)];exact fr b o hb (s1D _ _ e),⟨d1,(Yb npD).trans m1,(Yb ncD).trans m2⟩,s1'.free (Y6 hc1),ncD,hd2.keep (upk hD2) ((Yb (Ne.symm nDd)).trans hd2.at_)⟩)⟩
   ·cases hx
    have npD:p1≠D:=Yq m1 h1 (by intro z;cases z)
    walk_at "rd"
    refine ⟨_,_,fr _ _ nld hls,V0 _ _ (by decide +kernel) (by decide +kernel),ls,dx,d,a2,b,.t s2,_,rfl,by omega,.inl rfl,fr _ _ nld hls,hd1,by simp,⟨hk2,fr _ _ (Yq hA2 hd.at_ (by intro z;cases z)) hA2⟩,fun hno p2 Z H2 xs' fr2 mw hz hd2 hlf2 hl2=>?_,fun p hp=>?_⟩
    ·obtain ⟨c2,rfl,d2,k1,k2⟩:=mw
     have e2:=hlf2 rfl
     subst e2
     have hc2:=hz c2 (.head _)
     have hD2:=fr2 D _ nDd h1
     have np2:p2≠D:=Yq k1 hD2 (by intro z;cases z)
     have ncD:c2≠D:=fun z=>by rw [z,h1] at hc2;cases hc2
     have ncd:∀ {z:Addr} {u:HO},(∀ φ,u ≠ .ext φ)→H' z=some u→z≠d:=fun no e=>Yq e hd1.at_ (fun y=>no _ y)
     have fre:H c2=none:=by
      cases h:H c2 with
      | none=>rfl
      | some o=>exact (by
       by_cases c:c2=d
       ·subst c;rw [hd1.at_] at hc2;cases hc2
       ·rw [fr c2 o c h] at hc2;cases hc2)
     refine ⟨hD2,by decide,?_⟩
     unfold PvR
     refine ⟨⟨_,rfl⟩,Yc,by rw [Yb nLD];exact fr2 L _ nLd h2,.inr (.inr ⟨rfl,p1,c1,p2,c2,_,rfl,fun b o hb e=>by rw [Yb (Ye e hgD)];exact fr2 b o hb (fr b o hb e),⟨d1,(Yb npD).trans (fr2 _ _ (ncd (by intro φ z;cases z) m1) m1),(Yb nc1).trans (fr2 _ _ (ncd (by intro φ z;cases z) m2) m2)⟩,⟨d2,(Yb np2).trans k1,(Yb ncD).trans k2⟩,gc1,fre,nc1,ncD,(fun z=>by rw [← z,m2] at hc2;cases hc2),hd2.keep (upk hD2) ((Yb (Ne.symm nDd)).trans hd2.at_),by simp,?_⟩)⟩
     rw [Wh _ _ _ _ _ hno,if_neg (show ¬ kd6 (.r s1 s2)=kd6 (.t s2) from kdn s2),look1,if_neg (kdn s1)]
    ·have hp:lookD [(kT6 s1,a1,p1)] (kT6 s2)=some p:=hp
     rw [look1] at hp
     by_cases e:kT6 s2=kT6 s1
     ·rw [if_pos e] at hp
      cases hp
      have es:s1=s2:=by
       have:S s2=S s1:=by simpa [kT6] using e
       exact (S_inj this).symm
      refine ⟨h1,by decide,?_⟩
      unfold PvR
      refine ⟨⟨_,rfl⟩,Yc,by rw [Yb nLD];exact h2,.inr (.inr ⟨rfl,p1,c1,p1,c1,_,rfl,fun b o hb e=>by rw [Yb (Ye e hgD)];exact fr b o hb e,⟨d1,(Yb npD).trans m1,(Yb nc1).trans m2⟩,⟨d1,by rw [← es];exact (Yb npD).trans m1,by rw [← es];exact (Yb nc1).trans m2⟩,gc1,gc1,nc1,nc1,fun _=>es,hd1.keep (upk h1) ((Yb (Ne.symm nDd)).trans hd1.at_),by simp,?_⟩)⟩
      rw [look1,if_neg (kdn s1)]
     ·rw [if_neg e] at hp
      cases hp
   ·omega
  ·rintro zs σ' H5 ⟨_,h1,h2,h3⟩
   rcases h3 with ⟨z,_⟩ | ⟨z,_⟩ | ⟨_,p1,c1,p2,c2,xs',rfl,fr,⟨d1,m1,m2⟩,⟨d2,k1,k2⟩,gc1,gc2,nc1,nc2,ec,hd5,hxl',hlk⟩
   ·cases z
   ·cases z
   refine ⟨Y0 _ _,Xs rfl fun x dx' hx hdx hne=>⟨x,dx',D,[p1,p2],rfl,Yc,?_,by simp,fun c T dt W ws H4 gc gT gW gws hnd hwl sb hp4 hc4 hT4 hW4 hws4=>⟨rfl,?_⟩⟩⟩
   ·rw [Yb (Ye h1 hx),Yb (Ye h1 hdx)];exact h1
   have s4:=XL hx hdx sb
   have free5:∀ z,H5 z=none→H z=none:=fun z hz=>by
    cases h:H z with
    | none=>rfl
    | some o =>
     exfalso
     by_cases c:z=d
     ·subst c;rw [hd5.at_] at hz;cases hz
     ·rw [fr z o c h] at hz;cases hz
   obtain ⟨l0,l1,l2,rfl⟩:∃ a b c,ws=[a,b,c]:=by match ws,(show ws.length=3 from hwl) with | [a,b,c],_=>exact ⟨a,b,c,rfl⟩
   have f5:∀ {z:Addr},upd (upd H5 dx' (.own x)) x (.ins Z3 dx' []) z=none→H5 z=none:=fun h=>Y6 (Y6 h)
   have e0:=f5 (gws l0 (by simp))
   have e1:=f5 (gws l1 (by simp))
   have e2:=f5 (gws l2 (by simp))
   have ec0:=f5 gc
   have eW:=f5 gW
   have eT:=f5 gT
   have q0:=hws4 l0 (by simp)
   have q1:=hws4 l1 (by simp)
   have q2:=hws4 l2 (by simp)
   simp only [List.nodup_cons,List.mem_cons,List.not_mem_nil,or_false,not_or] at hnd
   obtain ⟨⟨u1,u2,u3⟩,⟨v1,v2⟩,v3,_⟩:=hnd
   have ne5:∀ {y z:Addr} {u:HO},H5 y=some u→H5 z=none→y≠z:=fun a b=>Ye a b
   have nWl:∀ {z:Addr},H4 z=some (.lst [])→W≠z:=fun h e=>by rw [e,h] at hW4;cases hW4
   have hM:RM Z1 Z3 Z4 H4 x c ⟨T,D,W,p1,p2,c1,c2,l0,l1,l2⟩ s1 s2 0:=by
    refine ⟨⟨dx',hp4⟩,hc4,⟨⟨dt,hT4⟩,s4 _ _ h1,hW4,⟨d1,0,by decide,s4 _ _ m1,s4 _ _ m2⟩,⟨d2,0,by decide,s4 _ _ k1,s4 _ _ k2⟩,q0,q1,q2,⟨v1,v2,v3⟩,fun z hz=>?_,fun z hz=>?_,ec⟩,?_⟩
    ·simp only [List.mem_cons,List.not_mem_nil,or_false] at hz
     rcases hz with rfl | rfl | rfl | rfl | rfl
     ·exact ⟨Ne.symm (ne5 m2 e0),Ne.symm (ne5 k2 e0)⟩
     ·exact ⟨Ne.symm (ne5 m2 e1),Ne.symm (ne5 k2 e1)⟩
     ·exact ⟨Ne.symm (ne5 m2 e2),Ne.symm (ne5 k2 e2)⟩
     ·exact ⟨Ne.symm nc1,Ne.symm nc2⟩
     ·exact ⟨Ne.symm (ne5 m2 eW),Ne.symm (ne5 k2 eW)⟩
    ·simp only [List.mem_cons,List.not_mem_nil,or_false] at hz
     rcases hz with rfl | rfl
     ·exact ⟨ne5 h1 e0,ne5 h1 e1,ne5 h1 e2⟩
     ·exact ⟨nWl q0,nWl q1,nWl q2⟩
    ·simp only [Ra.ads,List.mem_cons,List.not_mem_nil,or_false,not_or]
     exact ⟨Yq hc4 hT4 (by intro z;cases z),Ne.symm (ne5 h1 ec0),Ne.symm (nWl hc4),Ne.symm (ne5 m1 ec0),Ne.symm (ne5 k1 ec0),Ne.symm (ne5 m2 ec0),Ne.symm (ne5 k2 ec0),u1,u2,u3⟩
   refine q x _ H4 _ (fun z o hz e=>s4 _ _ (fr z o hz e)) ⟨c,_,rfl,hM⟩ (fun z hz=>?_) (hd5.keep (Wn s4) (s4 _ _ hd5.at_)) (fun z=>by cases z) (by simpa using hxl') fun _=>hlk
   simp only [Ra.zs,List.mem_cons,List.not_mem_nil,or_false] at hz
   rcases hz with rfl | rfl | rfl | rfl | rfl | rfl
   ·exact free5 _ ec0
   ·exact gc1
   ·exact gc2
   ·exact free5 _ e0
   ·exact free5 _ e1
   ·exact free5 _ e2
theorem Yex {H:Hp} {a:Addr} {sh:Q6} (h:XH H a sh):∃ (mk:Str) (r:List V),H a=some (.tup (.str mk::r))∧¬ (V.str mk=V.str "use"):=by
 cases sh with
 | w lo=>exact ⟨_,_,h,by decide +kernel⟩
 | t sg=>exact ⟨_,_,h.2,by decide +kernel⟩
 | m lo=>obtain ⟨b,h1,_⟩:=h;exact ⟨_,_,h1,by decide +kernel⟩
 | r s1 s2=>obtain ⟨b,a1,a2,h1,_⟩:=h;exact ⟨_,_,h1,by decide +kernel⟩
theorem Z0c {k:Nat} {Z5 Zb Z7 Za Z8 Z6 Zc Z9 Z2 Z3 Z4 Z1 Z0:Addr} {c_law_asked P_law_asked:Addr} (R:g.RawM Z9 "maker_of" "Lister.maker_of" Z14 ["self","shape"]) (Z3F:g.Me k Z9 "new_maker" ["self","shape"] (Uo g.P g.w g.K Z9 Z0 Z1 Z2 Z3 Z4 m)) (Zx:Cls g.K Z9) (Zy:Yg g.K Z9 "book") (Zr:Yg g.K Z9 "makers"):g.Me (k+1) Z9 "maker_of" ["self","shape"] (V3 g.P g.w g.K Z9 Z0 Z1 Z2 Z3 Z4 (m+1)):=by
 refine R.me Z3B (fun vs H Q E h=>by obtain ⟨ls,dx,d,a,b,sh,xs,rfl,hl,hlf,hls,hd,hxl,ha,q1,q2⟩:=h;rfl) fun f_ cdv A outer s H vs Q E hr h=>?_
 obtain ⟨ls,dx,d,a,b,sh,xs,rfl,hl,hlf,hls,hd,hxl,ha,q1,q2⟩:=h
 refine ⟨_,(@Yf _ _ _ _ _ (@YO _ _ _ _ _ _ _ _ (@Yr _ _ _ _ _ _ _ _ (Ya4 hr) (pv 1) (@Yo _ _ _ _ _ (pv 0) rfl) rfl) (@Yh _ _ _ (@YO _ _ _ _ _ _ _ _ (@Yr _ _ _ _ _ _ _ _ Xd (@YA _ _ _ _ _ _ _ Y2 (pv 1) Yj (fun _ _=>rfl)) YF (Yv _)) (@Yh _ _ _ XE) (@Yh _ _ _ (@YcE _ _ _ _ _ _ _ _ _ _ hr (@Yo _ _ _ _ _ (pv 0) rfl) (pv 1) (@YU _ _ _ _ _ _ _ _ _ _ _ _ _ _ _ _ Z3F Zx hr (pv 0) (@Ya _ _ _ _ _ (pv 1) Yd (by rfl)) (by omega) (by rfl) (by rfl) (by rfl) (by rfl)) rfl)))) Yt) (@Yh _ _ _ (@Yl _ _ _ _ (@YcD _ _ _ _ _ _ _ hr (@Yo _ _ _ _ _ (pv 0) rfl) (pv 1) (fun _ _=>rfl))))),?_⟩
 walk_at "rd"
 obtain ⟨mk,rr',htup,hnu⟩:=Yex ha
 have nld:ls≠d:=Yq hls hd.at_ (by intro z;cases z)
 cases hno:lookD xs (kd6 sh) with
 | some p =>
  refine ⟨_,_,_,hls,Zx,Zr,_,X9 _ _,d,rfl,xs,hd,kd6 sh,dk6 ha,YL (by rw [hno];simp) ?_⟩
  unfold Qd
  walk_at "rd"
  exact ⟨_,_,_,hls,Zx,Zr,_,X9 _ _,d,rfl,_,hd,kd6 sh,dk6 ha,p,hno,q2 p hno⟩
 | none =>
  refine ⟨_,_,_,hls,Zx,Zr,_,X9 _ _,d,rfl,xs,hd,kd6 sh,dk6 ha,Xs (by rw [hno];rfl) ⟨_,SqT.of htup,_,Xm (j:=0) rfl,Y0 _ _,YL hnu ?_⟩⟩
  unfold YbT
  walk_at "rd"
  refine ⟨_,_,hls,V0 _ _ (by decide +kernel) (by decide +kernel),ls,dx,d,a,b,sh,xs,rfl,by omega,?_,hls,hd,hxl,ha,fun p Z H' xs' fr mk' hz hd' hlf' hl' hlk=>?_⟩
  ·rcases hlf with h | ⟨h,h'⟩
   ·exact .inl h
   ·exact .inr ⟨by omega,h'⟩
  have ntd:∀ {z:Addr} {xs:List V},H z=some (.tup xs)→z≠d:=fun e=>Yq e hd.at_ (by intro z;cases z)
  have ha':XH H' a sh:=ha.kt fun z xs e=>fr _ _ (ntd e) e
  have hls':=fr _ _ nld hls
  have hlk':lookD xs' (kd6 sh)=none:=by
   cases hh:sh.leaf with
   | true=>rw [hlf' hh];exact hno
   | false=>exact hlk hh
  have kk:∀ z o,z≠d→H' z=some o→upd H' d (DDi g.P g.w d (xs'++[(kd6 sh,a,p)])) z=some o:=fun z o hz e=>by rw [Yb hz];exact e
  have put:=hd'.put (b:=a) (p:=p) (dk6 ha') hlk' (by omega)
  refine ⟨_,_,_,hls',Zx,Zr,_,X9 _ _,d,a,xs',kd6 sh,p,rfl,rfl,rfl,hd',dk6 ha',hlk',by omega,?_⟩
  unfold Qd
  walk_at "rd"
  refine ⟨_,_,_,(Yb nld).trans hls',Zx,Zr,_,X9 _ _,d,rfl,_,put,kd6 sh,dk6 (ha'.kt fun z xs e=>kk _ _ (Yq e hd'.at_ (by intro z;cases z)) e),p,by rw [Wh _ _ _ _ _ hlk',if_pos rfl],?_⟩
  refine q1 hno p Z _ _ (fun z o hz e=>by rw [Yb hz];exact fr z o hz e) (mk'.keep fun z o no e=>kk z o (Yq e hd'.at_ (fun y=>no _ y)) e) hz put (fun e=>by rw [hlf' e]) (by rw [List.length_append,List.length_singleton];omega)
def UD (K:PySem.W.Frag) (CW CT CM CR CB:Addr):Sp:=fun vs H Q _=>∃ (a:Addr) (b:V) (sh:Q6),vs=[b,.ref a]∧XH H a sh∧∀ p Z H',Yk H H'→MS CW CT CM CR CB H' p Z 0 sh→(∀ z∈Z,H z=none)→Q (.ref p) H'
theorem Qy {k:Nat} {Z5 Zb Z7 Za Z8 Z6 Zc Z9 Z2 Z3 Z4 Z1 Z0:Addr} {c_law_asked P_law_asked:Addr} (R:g.Raw "maker_for" "maker_for" Z1I ["book","shape"]) {j_Lister___init__:Nat} (Z3X:g.Ma j_Lister___init__ "Lister" Z9 ["self","book"] (Z4e g.P g.w Z9)) (h_Lister___init__:j_Lister___init__+1≤k) (Z15:g.Me k Z9 "maker_of" ["self","shape"] (V3 g.P g.w g.K Z9 Z0 Z1 Z2 Z3 Z4 4)) (Zx:Cls g.K Z9) (Zy:Yg g.K Z9 "book") (Zr:Yg g.K Z9 "makers"):g.Fn (k+1) "maker_for" ["book","shape"] (UD g.K Z0 Z1 Z2 Z3 Z4):=by
 refine R.fn Qi (fun vs H Q E h=>by obtain ⟨a,b,sh,rfl,ha,q⟩:=h;rfl) fun f_ cdv A outer s H vs Q E hr h=>?_
 obtain ⟨a,b,sh,rfl,ha,q⟩:=h
 refine ⟨_,(@Yh _ _ _ (@Yl _ _ _ _ (@YU _ _ _ _ _ _ _ _ _ _ _ _ _ _ _ _ Z15 Zx hr (@WU _ _ _ _ _ _ _ _ _ _ _ _ _ Z3X hr (@Ya _ _ _ _ _ (pv 0) Yd (by rfl)) (by omega) (by rfl) (by rfl) (by decide) (by rfl) (by rfl)) (@Ya _ _ _ _ _ (pv 1) Yd (by rfl)) (by omega) (by rfl) (by rfl) (by rfl) (by rfl)))),?_⟩
 walk_at "rd"
 intro x dx hx hdx hne
 refine ⟨x,dx,b,rfl,Yc,fun d H1 hd sb h1 h2=>?_⟩
 have s1:=XL hx hdx sb
 have gd:H d=none:=Y6 (Y6 hd)
 refine ⟨rfl,_,_,h1,V0 _ _ (by decide +kernel) (by decide +kernel),x,dx,d,a,b,sh,[],rfl,by decide,.inr ⟨by decide,rfl⟩,h1,YbU h2,by simp,ha.kt fun z xs e=>s1 _ _ e,fun _ p Z H2 xs' fr mk hz _ _ _=>?_,fun p z=>by cases z⟩
 exact q p Z H2 (fun z o e=>fr z o (Ye e gd) (s1 _ _ e)) mk fun z hz'=>s1.free (hz z hz')
theorem wc0:wc (0:Nat) 0=1:=by decide
theorem wcS (j:Nat):wc (0:Nat) (j+1)=0:=by
 unfold wc
 have e1:(1*2^(j+1):Int)=2*2^j:=by rw [Int.pow_succ];omega
 have p:(0:Int)<2^j:=Int.pow_pos (by decide)
 rw [e1,show (2^1:Int)=2 from rfl]
 generalize (2:Int)^j=x at p
 split<;>split<;>omega
theorem VE:∀ {l:List Int},(∀ x∈l,x=0)→l.sum=0
 | [],_=>rfl
 | x::l,h=>by rw [List.sum_cons,h x (.head _),VE fun y hy=>h y (.tail _ hy)];rfl
theorem mc1:∀ k,mc 0 k=1
 | 0=>Uk 0
 | k+1=>by
  have ih:=mc1 k
  rw [Ul,List.range_succ_eq_map,List.map_cons,List.sum_cons,List.map_map]
  have z:((List.range k).map ((fun j=>wc (0:Nat) j*mc 0 (k - j)) ∘ Nat.succ)).sum=0:=VE fun x hx=>by
   obtain ⟨j,_,rfl⟩:=List.mem_map.mp hx
   show wc (0:Nat) (j+1)*_=0
   rw [wcS,Int.zero_mul]
  rw [z,wc0,Nat.sub_zero,ih]
  rfl
theorem big0:∀ i≤40,∀ j≤40,big (wc (0:Nat) i) (mc 0 j):=fun i _ j _=>⟨2,by decide,by
 match i with
 | 0=>rw [wc0];decide
 | i+1=>rw [wcS];decide,by rw [mc1];decide⟩
theorem Yb9 (lo:Int) (span:Nat):∀ (l:Nat) (r:Int),∃ zs:List Int,mv lo span l r=zs.map V.int
 | 0,r=>⟨[],by rw [mv];rfl⟩
 | l+1,r=>by
  obtain ⟨zs,h⟩:=Yb9 lo span (l - (fnd (blk span (l+1)) r).1) (fnd (blk span (l+1)) r).2.2
  exact ⟨_::zs,by rw [mv,h];rfl⟩
termination_by l=>l
decreasing_by omega
inductive Bu
 | t (cl:Addr)
 | m (pw cm cw:Addr)
 | r (cr:Addr) (r:Ra)
def Bu.ads:Bu→List Addr
 | .t cl=>[cl]
 | .m pw cm cw=>[pw,cm,cw]
 | .r cr r=>cr::r.ads
def Bu.zs:Bu→List Addr
 | .t cl=>[cl]
 | .m _ cm cw=>[cm,cw]
 | .r cr r=>cr::r.zs
theorem Bu.za {B:Bu}:∀ z∈B.zs,z∈B.ads:=fun z hz=>by
 cases B with
 | t cl=>exact hz
 | m pw cm cw=>exact .tail _ hz
 | r cr r =>
  rcases List.mem_cons.mp hz with rfl | hz
  ·exact .head _
  ·exact .tail _ (Ra.z_a z hz)
def MB (CW CT CM CR CB:Addr) (H:Hp) (p:Addr) (m:Nat):Q6→Bu→Prop
 | .t sg,.t cl=>Wi CW CT H p (.t sg) cl m
 | .m lo,.m pw cm cw=>∃ dm dw n,n≤50∧MM CW CM H p pw cm cw dm dw lo 0 m n
 | .r s1 s2,.r cr r=>RM CT CR CB H p cr r s1 s2 m
 | _,_=>False
def okq:Q6→Prop
 | .t sg=>0<sg.length∧sg.length≤62
 | .m _=>True
 | .r s1 s2=>Ok2 s1 s2
 | .w _=>False
def cn:Q6→Nat→Int
 | .t sg=>cnt (.t sg)
 | .m _=>mc 0
 | .r s1 s2=>r0 s1 s2
 | .w _=>fun _=>0
theorem V4 (sh:Q6) (k:Nat):0≤cn sh k:=by
 cases sh with
 | t sg=>exact Vp sg k
 | m lo=>exact WG 0 k
 | r s1 s2=>exact Yb7 s1 s2 0 k
 | w lo=>exact Int.le_refl _
section
variable {K:PySem.W.Frag} {CW CT CM CR CB p:Addr} {H H':Hp} {m:Nat} {sh:Q6} {B:Bu} {Z:List Addr}
theorem MS.mb (h:MS CW CT CM CR CB H p Z m sh) (ho:okq sh):∃ B,Z=B.zs∧MB CW CT CM CR CB H p m sh B:=by
 cases sh with
 | w lo=>exact ho.elim
 | t sg=>obtain ⟨cl,rfl,h⟩:=h;exact ⟨.t cl,rfl,h⟩
 | m lo=>obtain ⟨pw,cm,cw,dm,dw,n,rfl,hn,h⟩:=h;exact ⟨.m pw cm cw,rfl,dm,dw,n,hn,h⟩
 | r s1 s2=>obtain ⟨cr,r,rfl,h⟩:=h;exact ⟨.r cr r,rfl,h⟩
theorem MB.keepB (h:MB CW CT CM CR CB H p m sh B) (k:∀ b o,b=p∨b∈B.ads→H b=some o→H' b=some o):MB CW CT CM CR CB H' p m sh B:=by
 cases sh with
 | w lo=>cases B<;>exact h.elim
 | t sg =>
  cases B with
  | t cl=>obtain ⟨dx,h1,h2⟩:=h;exact ⟨dx,k _ _ (.inl rfl) h1,k _ _ (.inr (.head _)) h2⟩
  | m=>exact h.elim
  | r=>exact h.elim
 | m lo =>
  cases B with
  | t=>exact h.elim
  | m pw cm cw=>obtain ⟨dm,dw,n,hn,h⟩:=h;exact ⟨dm,dw,n,hn,k _ _ (.inl rfl) h.hm,k _ _ (.inr (by simp [Bu.ads])) h.hc,k _ _ (.inr (by simp [Bu.ads])) h.hw,k _ _ (.inr (by simp [Bu.ads])) h.hv,h.ne⟩
  | r=>exact h.elim
 | r s1 s2 =>
  cases B with
  | t=>exact h.elim
  | m=>exact h.elim
  | r cr r=>obtain ⟨⟨dx,h1⟩,h2,h3,h4⟩:=h;exact ⟨⟨dx,k _ _ (.inl rfl) h1⟩,k _ _ (.inr (.head _)) h2,h3.keepB fun b o hb e=>k b o (.inr (.tail _ hb)) e,h4⟩
theorem MB.keep (h:MB CW CT CM CR CB H p m sh B) (s:Yk H H'):MB CW CT CM CR CB H' p m sh B:=h.keepB fun b o _ e=>s b o e
theorem MB.new (h:MB CW CT CM CR CB H p m sh B) {D:Addr} (hD:H D=none):D≠p∧D∉B.ads:=by
 have ne:∀ {z:Addr} {o:HO},H z=some o→D≠z:=fun e z=>by rw [z,e] at hD;cases hD
 cases sh with
 | w lo=>cases B<;>exact h.elim
 | t sg =>
  cases B with
  | t cl=>obtain ⟨dx,h1,h2⟩:=h;exact ⟨ne h1,by simpa [Bu.ads] using ne h2⟩
  | m=>exact h.elim
  | r=>exact h.elim
 | m lo =>
  cases B with
  | t=>exact h.elim
  | m pw cm cw=>obtain ⟨dm,dw,n,hn,h⟩:=h;exact ⟨ne h.hm,by simpa [Bu.ads] using ⟨ne h.hw,ne h.hc,ne h.hv⟩⟩
  | r=>exact h.elim
 | r s1 s2 =>
  cases B with
  | t=>exact h.elim
  | m=>exact h.elim
  | r cr r=>obtain ⟨⟨dx,h1⟩,h2,h3,h4⟩:=h;exact ⟨ne h1,fun z=>by
    rcases List.mem_cons.mp z with z | z
    ·exact ne h2 z
    ·exact h3.new hD z⟩
theorem Yas {k:Nat} {Q:VK} (h:MB CW CT CM CR CB H p m sh B) (ho:okq sh) (hk:k≤20) (hm:m≤21) (q:∀ H',Bz B.zs H H'→MB CW CT CM CR CB H' p (max m (k+1)) sh B→Q (.int (cn sh k)) H') :
  (∃ dx fs,H p=some (.ins CT dx fs)∧fs.lookup ("count_at":Str)=none∧Z0d K CW CT 3 [.ref p,.int (k:Nat)] H Q E0)∨(∃ dx fs,H p=some (.ins CM dx fs)∧fs.lookup ("count_at":Str)=none∧Z1i K CW CM 4 [.ref p,.int (k:Nat)] H Q E0)∨∃ dx fs,H p=some (.ins CR dx fs)∧fs.lookup ("count_at":Str)=none∧Z1G K CT CR CB [.ref p,.int (k:Nat)] H Q E0:=by
 cases sh with
 | w lo=>exact ho.elim
 | t sg =>
  cases B with
  | t cl =>
   obtain ⟨dx,h1,h2⟩:=h
   refine .inl ⟨dx,_,h1,WY _ _,p,dx,cl,sg,m,k,rfl,by decide,.inr (by decide),by omega,by omega,ho.2,h1,h2,fun H' sb h'=>q H' (fun b o n e=>sb _ _ (fun z=>n (by rw [z];exact .head _)) e) ⟨dx,sb _ _ (Yq h1 h2 (by intro z;cases z)) h1,h'⟩⟩
  | m=>exact h.elim
  | r=>exact h.elim
 | m lo =>
  cases B with
  | t=>exact h.elim
  | m pw cm cw =>
   obtain ⟨dm,dw,n,hn,h⟩:=h
   refine .inr (.inl ⟨dm,_,h.hm,WR _ _ (by decide +kernel) (by decide +kernel),p,pw,cm,cw,dm,dw,lo,0,m,n,k,rfl,by decide,h,by omega,hn,fun z=>q H (.refl _ _) ⟨dm,dw,n,hn,by rw [show max m (k+1)=m by omega];exact h⟩,fun z=>⟨by decide,by omega,big0,fun H' n' fr hn' h'=>q H' (fun b o nb e=>fr b o (fun z=>nb (by rw [z];exact .tail _ (.head _))) (fun z=>nb (by rw [z];exact .head _)) e) ⟨dm,dw,n',hn',by rw [show max m (k+1)=k+1 by omega];exact h'⟩⟩⟩)
  | r=>exact h.elim
 | r s1 s2 =>
  cases B with
  | t=>exact h.elim
  | m=>exact h.elim
  | r cr r =>
   have h':=h
   obtain ⟨⟨dx,h1⟩,_⟩:=h'
   exact .inr (.inr ⟨dx,_,h1,Qt _ _ _ (by decide +kernel) (by decide +kernel) (by decide +kernel),p,cr,r,s1,s2,m,k,rfl,hk,hm,ho,h,fun H' bz h'=>q H' bz h'⟩)
def Val (H:Hp) (u:V):Prop:=(∃ x:Str,u = .str x)∨(∃ (a:Addr) (zs:List Int),u = .ref a∧H a=some (.lst (zs.map V.int))∧zs.length≤1000)∨∃ (a:Addr) (x y:Str),u = .ref a∧H a=some (.tup [.str x,.str y])
theorem Val.keep {u:V} (h:Val H u) (k:∀ z o,u = .ref z→H z=some o→H' z=some o):Val H' u:=by
 rcases h with h | ⟨a,zs,rfl,h,hl⟩ | ⟨a,x,y,rfl,h⟩
 ·exact .inl h
 ·exact .inr (.inl ⟨a,zs,rfl,k _ _ rfl h,hl⟩)
 ·exact .inr (.inr ⟨a,x,y,rfl,k _ _ rfl h⟩)
theorem YdW {k:Nat} {j:Int} {Q:VK} (h:MB CW CT CM CR CB H p m sh B) (ho:okq sh) (hk:k<m) (hm:m≤21) (h0:0≤j) (h1:j<cn sh k) (q:∀ u H',Bz B.zs H H'→MB CW CT CM CR CB H' p m sh B→Val H' u→(∀ z,u = .ref z→H z=none)→Q u H') :
  (∃ dx fs,H p=some (.ins CT dx fs)∧fs.lookup ("value_at":Str)=none∧Z1q K CW CT [.ref p,.int (k:Nat),.int j] H Q E0)∨(∃ dx fs,H p=some (.ins CM dx fs)∧fs.lookup ("value_at":Str)=none∧Z1Y K CW CM [.ref p,.int (k:Nat),.int j] H Q E0)∨∃ dx fs,H p=some (.ins CR dx fs)∧fs.lookup ("value_at":Str)=none∧Z3E K CT CR CB [.ref p,.int (k:Nat),.int j] H Q E0:=by
 cases sh with
 | w lo=>exact ho.elim
 | t sg =>
  cases B with
  | t cl =>
   have h':=h
   obtain ⟨dx,e1,e2⟩:=h'
   exact .inl ⟨dx,_,e1,Yb0 _ _,p,dx,cl,j,sg,k,rfl,by omega,ho.1,ho.2,e1,fun H' s=>q _ H' (.of s) (MB.keep (sh := .t sg) (B := .t cl) h s) (.inl ⟨_,rfl⟩) (fun z e=>by cases e)⟩
  | m=>exact h.elim
  | r=>exact h.elim
 | m lo =>
  cases B with
  | t=>exact h.elim
  | m pw cm cw =>
   obtain ⟨dm,dw,n,hn,h⟩:=h
   refine .inr (.inl ⟨dm,_,h.hm,WR _ _ (by decide +kernel) (by decide +kernel),p,pw,cm,cw,dm,dw,lo,0,m,n,k,j,rfl,h,by omega,by omega,hn,big0,h0,h1,fun D H' n' gD fr hn' hv hD=>?_⟩)
   obtain ⟨zs,hz⟩:=Yb9 lo 0 k j
   have hl:=Yb3 lo 0 k j
   rw [hz] at hD hl
   rw [List.length_map] at hl
   have nc:∀ {z:Addr} {o:HO},(∀ xs,o ≠ .lst xs)→H z=some o→z≠cw:=fun no e=>Yq e h.hv (no _)
   exact q _ H' (fun b o nb e=>fr b o (fun z=>nb (by rw [z];exact .tail _ (.head _))) e) ⟨dm,dw,n',hn',fr _ _ (nc (by intro xs z;cases z) h.hm) h.hm,fr _ _ h.ne h.hc,fr _ _ (nc (by intro xs z;cases z) h.hw) h.hw,hv,h.ne⟩ (.inr (.inl ⟨D,zs,rfl,hD,by omega⟩)) fun z e=>by cases e;exact gD
  | r=>exact h.elim
 | r s1 s2 =>
  cases B with
  | t=>exact h.elim
  | m=>exact h.elim
  | r cr r =>
   have h':=h
   obtain ⟨⟨dx,e1⟩,_⟩:=h'
   exact .inr (.inr ⟨dx,_,e1,Qt _ _ _ (by decide +kernel) (by decide +kernel) (by decide +kernel),p,cr,r,s1,s2,m,k,j,rfl,hk,hm,ho,h,h0,h1,fun t x y H' gt ht bz h'=>q _ H' (bz.mono fun z hz => .tail _ (Ra.c_z z hz)) h' (.inr (.inr ⟨t,x,y,rfl,ht⟩)) fun z e=>by cases e;exact gt⟩)
end
section
variable {src:List (Option Nat)} {te:TE} {σ:St} {H:Hp} {Q:VK}
theorem Ybc {ta:TA} {n:Nat} (G:Hp→Prop) (ha:∀ R:List V→Hp→Prop,(∀ H1,G H1→R [.int n] H1)→ta σ H R) (hlen:n≤100000)
  (hb:∀ H1,G H1→∃ I:Addr→Nat→List V→Hp→Prop,(∀ D,H1 D=none→I D 0 [] (upd H1 D (.lst [])))∧(∀ D i zs H',I D i zs H'→zs.length=i∧H' D=some (.lst zs)) ∧
   (∀ D (i:Nat) zs H',H1 D=none→i<n→I D i zs H'→∀ R:VK,(∀ y H'',H'' D=some (.lst zs)→I D (i+1) (zs++[y]) (upd H'' D (.lst (zs++[y])))→R y H'')→te (some (.int i)::YS src σ) H' R)∧∀ D zs H',H1 D=none→I D n zs H'→Q (.ref D) H'):tLC (none::src) (VG ta) (YM 0) Wt te σ H Q:=by
 refine ha _ fun H1 hG=>⟨n,rfl,by omega,by omega,fun D hD=>?_⟩
 obtain ⟨I,i0,dl,step,fin⟩:=hb H1 hG
 have h6:100000<sizeLine:=by decide
 refine VR (WK (lo:=0) (n:=n) (P:=fun _=>True)) (fun i zs σ' H'=>(∃ o,σ'=o::YS src σ)∧i≤n∧I D i zs H') ⟨⟨none,rfl⟩,Nat.zero_le _,i0 D hD⟩ (fun i zs σ' H' q=>⟨trivial,(dl _ _ _ _ q.2.2).2⟩) (Wf 0) ?_ ?_
 ·rintro i zs σ' H' x hx ⟨⟨o,rfl⟩,_,hI⟩
  have hi:i<n:=by have:=(List.getElem?_eq_some_iff.mp hx).1;simpa using this
  rw [List.getElem?_map,List.getElem?_range hi] at hx
  have e:V.int (0+(i:Int))=x:=Option.some.inj hx
  rw [Int.zero_add] at e
  subst e
  have hl:=(dl _ _ _ _ hI).1
  show te (some (.int i)::YS src σ) H' _
  exact step D i zs H' hD hi hI _ fun y H'' hd hI'=>⟨hd,by omega,⟨_,rfl⟩,hi,hI'⟩
 ·rintro zs σ' H' ⟨_,_,hI⟩
  exact fin D zs H' hD (by simpa using hI)
end
def Z3G (K:PySem.W.Frag) (CW CT CM CR CB:Addr):Sp:=fun vs H Q _=>∃ (p:Addr) (B:Bu) (sh:Q6) (m k:Nat),vs=[.ref p,.int (k:Nat)]∧MB CW CT CM CR CB H p m sh B∧okq sh∧k<m∧m≤21∧cn sh k≤40∧∀ D us H',H D=none→H' D=some (.lst us)→us.length=(cn sh k).toNat→Bz B.zs H H'→MB CW CT CM CR CB H' p m sh B→(∀ u∈us,Val H' u∧∀ z,u = .ref z→H z=none)→Q (.ref D) H'
def PvA (CW CT CM CR CB:Addr) (H H1:Hp) (p:Addr) (B:Bu) (sh:Q6) (m:Nat) (D:Addr) (i:Nat) (zs:List V) (H':Hp):Prop:=zs.length=i∧H' D=some (.lst zs)∧(∀ b o,b∉B.zs→b≠D→H b=some o→H' b=some o)∧(H D=none∧D≠p∧D∉B.ads)∧MB CW CT CM CR CB H' p m sh B∧∀ u∈zs,Val H' u∧∀ z,u = .ref z→H z=none∧z≠D∧z∉B.zs
theorem QV {k:Nat} {Z5 Zb Z7 Za Z8 Z6 Zc Z9 Z2 Z3 Z4 Z1 Z0:Addr} {c_law_asked P_law_asked:Addr} (R:g.Raw "all_made" "all_made" Z2J ["maker","size"]) (Z0B:g.Me k Z1 "value_at" ["self","size","number"] (Z1q g.K Z0 Z1)) (Z33:g.Me k Z2 "value_at" ["self","size","number"] (Z1Y g.K Z0 Z2)) (Z3q:g.Me k Z3 "value_at" ["self","size","number"] (Z3E g.K Z1 Z3 Z4)) (ZG:g.Me k Z1 "count_at" ["self","size"] (Z0d g.K Z0 Z1 3)) (ZW:g.Me k Z2 "count_at" ["self","size"] (Z1i g.K Z0 Z2 4)) (Z0Q:g.Me k Z3 "count_at" ["self","size"] (Z1G g.K Z1 Z3 Z4)) (Zu:g.mg "range"=none) (Zi:Cls g.K Z2) (Zd:Yg g.K Z2 "counts") (Zj:Yg g.K Z2 "part") (Zs:Cls g.K Z3) (Zp:Yg g.K Z3 "counts") (Zv:Yg g.K Z3 "parts") (Zt:Yg g.K Z3 "table") (Zg:Cls g.K Z1) (Ze:Yg g.K Z1 "counts") (Zf:Yg g.K Z1 "signs"):g.Fn (k+1) "all_made" ["maker","size"] (Z3G g.K Z0 Z1 Z2 Z3 Z4):=by
 refine R.fn QR (fun vs H Q E h=>by obtain ⟨p,B,sh,m,k,rfl,M,ho,hk,hm,hc,q⟩:=h;rfl) fun f_ cdv A outer s H vs Q E hr h=>?_
 obtain ⟨p,B,sh,m,k,rfl,M,ho,hk,hm,hc,q⟩:=h
 refine ⟨_,(@Yh _ _ _ (@Yl _ _ _ _ (@Wc _ _ _ _ _ _ _ ([none,some 1,some 0]) ((["number","size","maker"]:List Str)) _ (YM 0) _ _ (.own (.cap (i:=1) rfl rfl (by first | exact .inl rfl | exact .inr rfl) (.cap (i:=0) rfl rfl (by first | exact .inl rfl | exact .inr rfl) .nil))) rfl (@Xc _ _ _ _ _ _ rfl Zu (@Ya _ _ _ _ _ (@XJ _ _ _ _ (@YU _ _ _ _ _ _ _ _ _ _ _ _ _ _ _ _ ZG Zg hr (pv 0) (@Ya _ _ _ _ _ (pv 1) Yd (by rfl)) (by omega) (by rfl) (by rfl) (by rfl) (by rfl)) (@XJ _ _ _ _ (@YU _ _ _ _ _ _ _ _ _ _ _ _ _ _ _ _ ZW Zi hr (pv 0) (@Ya _ _ _ _ _ (pv 1) Yd (by rfl)) (by omega) (by rfl) (by rfl) (by rfl) (by rfl)) (@YU _ _ _ _ _ _ _ _ _ _ _ _ _ _ _ _ Z0Q Zs hr (pv 0) (@Ya _ _ _ _ _ (pv 1) Yd (by rfl)) (by omega) (by rfl) (by rfl) (by rfl) (by rfl)))) Yd (by rfl)) (by rfl)) (fun cl C s₀ H₀ fp pn=>(@YJ _ _ (0) _ (show List.Nodup (["number","size","maker"]:List Str) by decide +kernel) rfl (.inl rfl) (.inr rfl))) (fun cl C s₀ H₀ fp pn=>Xn) (fun cl C s₀ H₀ fp pn=>(@XJ _ _ _ _ (@YU _ _ _ _ _ _ _ _ _ _ _ _ _ _ _ _ Z0B Zg hr (pv 2) (@Ya _ _ _ _ _ (pv 1) (@Ya _ _ _ _ _ (pv 0) Yd (by rfl)) (by rfl)) (by omega) (by rfl) (by rfl) (by rfl) (by rfl)) (@XJ _ _ _ _ (@YU _ _ _ _ _ _ _ _ _ _ _ _ _ _ _ _ Z33 Zi hr (pv 2) (@Ya _ _ _ _ _ (pv 1) (@Ya _ _ _ _ _ (pv 0) Yd (by rfl)) (by rfl)) (by omega) (by rfl) (by rfl) (by rfl) (by rfl)) (@YU _ _ _ _ _ _ _ _ _ _ _ _ _ _ _ _ Z3q Zs hr (pv 2) (@Ya _ _ _ _ _ (pv 1) (@Ya _ _ _ _ _ (pv 0) Yd (by rfl)) (by rfl)) (by omega) (by rfl) (by rfl) (by rfl) (by rfl))))) (by intro x hx;simp at hx;first | (subst hx;exact .inl rfl) | (rcases hx with rfl | rfl<;>exact .inl rfl) | (rcases hx with rfl | rfl | rfl<;>exact .inl rfl) | (rcases hx with rfl | rfl | rfl | rfl<;>exact .inl rfl) | (rcases hx with rfl | rfl | rfl | rfl | rfl<;>exact .inl rfl)) (by rfl) (by decide) (by decide +kernel) (by intro _;rfl)))),?_⟩
 have c0:=V4 sh k
 walk_at "rd"
 refine Ybc (n:=(cn sh k).toNat) (fun H1=>Bz B.zs H H1∧MB Z0 Z1 Z2 Z3 Z4 H1 p m sh B) (fun R r=>?_) (by omega) ?_
 ·walk_at "rd"
  refine Yas M ho (by omega) hm fun H' bz M'=>?_
  rw [show max m (k+1)=m by omega] at M'
  have:=r H' ⟨bz,M'⟩
  rw [Int.toNat_of_nonneg c0] at this
  exact this
 ·rintro H1 ⟨bz1,M1⟩
  refine ⟨PvA Z0 Z1 Z2 Z3 Z4 H H1 p B sh m,fun D hD=>?_,fun D i zs H' h=>⟨h.1,h.2.1⟩,?_,?_⟩
  ·have n1:=M1.new hD
   refine ⟨rfl,Yc,fun b o hb hbD e=>by rw [Yb hbD];exact bz1 b o hb e,⟨?_,n1⟩,M1.keep (.upd_new hD _),fun u hu=>by cases hu⟩
   cases e:H D with
   | none=>rfl
   | some o =>
    have:D∉B.zs:=fun z=>n1.2 (Bu.za _ z)
    rw [bz1 D o this e] at hD
    cases hD
  ·rintro D i zs H' hD1 hi ⟨hz,hd,fr,⟨hD,n1⟩,M',hv⟩ R r
   walk_at "rd"
   refine YdW M' ho hk hm (by omega) (by omega) fun u H2 bz2 M2 hu hn=>?_
   have nDz:D∉B.zs:=fun z=>n1.2 (Bu.za _ z)
   have hd2:=bz2 _ _ nDz hd
   have fre:∀ z,H' z=none→H z=none∧z≠D∧z∉B.zs:=fun z hz'=>by
    have h1:z≠D:=fun e=>by rw [e,hd] at hz';cases hz'
    have h2:z∉B.zs:=fun e=>(M'.new hz').2 (Bu.za _ e)
    refine ⟨?_,h1,h2⟩
    cases e:H z with
    | none=>rfl
    | some o=>rw [fr z o h2 h1 e] at hz';cases hz'
   refine r u H2 hd2 ⟨by rw [List.length_append,hz];rfl,Yc,fun b o hb hbD e=>by rw [Yb hbD];exact bz2 _ _ hb (fr b o hb hbD e),⟨hD,n1⟩,M2.keepB fun b o hb e=>by rw [Yb (fun z:b=D=>by rcases hb with h | h;exact n1.1 (z▸h);exact n1.2 (z▸h))];exact e,fun v hv'=>?_⟩
   rcases List.mem_append.mp hv' with h | h
   ·obtain ⟨v1,v2⟩:=hv v h
    exact ⟨v1.keep fun z o e ez=>by rw [Yb (v2 z e).2.1];exact bz2 _ _ (v2 z e).2.2 ez,v2⟩
   ·rw [List.mem_singleton.mp h]
    have v2:∀ z,u = .ref z→H z=none∧z≠D∧z∉B.zs:=fun z e=>fre z (hn z e)
    exact ⟨hu.keep fun z o e ez=>by rw [Yb (v2 z e).2.1];exact ez,v2⟩
  ·rintro D zs H' hD1 ⟨hz,hd,fr,⟨hD,n1⟩,M',hv⟩
   exact q D zs H' hD hd hz (fun b o hb e=>fr b o hb (Ye e hD) e) M' fun u hu=>⟨(hv u hu).1,fun z e=>((hv u hu).2 z e).1⟩
def Qz (K:PySem.W.Frag) (fv vs:List V) (H:Hp) (Q:VK):Prop:=∃ (A:Addr) (xs:List V) (x:V),fv=[.ref A]∧vs=[x]∧H A=some (.lst xs)∧xs.length≤10000∧Q (.bl true) (upd H A (.lst (xs++[x])))
theorem Z1C {k:Nat} {Z5 Zb Z7 Za Z8 Z6 Zc Z9 Z2 Z3 Z4 Z1 Z0:Addr} {f_ c_:Addr} {doc pm ctv:Value} {l:Yu}  (hl:l.map (·.1)=(["_law_asked_here"]:List Str)) (hnd:l.as.Nodup):FnOk g.P g.w g.K g.mg g.base CX0 (k+1) f_ (ZF l.cl c_ doc pm ctv) ["_law_thing"] (fun vs H Q _=>ClZ H f_ c_ (ZF l.cl c_ doc pm ctv) ZB l∧(Qz g.K) l.vs vs (off H l.as) fun v H'=>(∀ c∈l.as,H' c=none)→Q v (on H' H l.as)):=by
 refine YcN (N:=["_law_thing","_law_asked_here"]) (by rw [hl];exact Z1B) hnd (fun vs H Q h=>by obtain ⟨A,xs,x,hfv,rfl,hA,hl,q⟩:=h;rfl) fun A outer s H vs Q hr h=>?_
 obtain ⟨A,xs,x,hfv,rfl,hA,hl,q⟩:=h
 refine ⟨_,(@Yf _ _ _ _ _ (@YV _ _ _ _ (@Xx _ _ _ _ _ _ _ _ _ _ _ _ PySem.F.plainAttrs_list PySem.F.slot_list_append PySem.F.type_list_append Y4 (pv 1) (@Ya _ _ _ _ _ (pv 0) Yd (by rfl)) (by rfl) (by rfl) (by rfl) (by rfl) (by rfl)) (by rfl)) (@Yh _ _ _ (@Yl _ _ _ _ WA))),?_⟩
 rw [hfv]
 show (_:TS) _ [some x,some (.ref A)] H
 walk_at "rd"
 exact ⟨.inl ⟨rfl,_,SqL.of hA⟩,_,hA,Nat.lt_of_le_of_lt hl (by decide),q⟩
def Up (c m:Int):List (Str×V):=[("count",.int c),("most",.int m)]
def UE (C:Addr):Sp:=fun vs H Q E=>∃ c m:Int,vs=[.int c,.int m]∧(c≤m→Q .non H)∧(m<c→∀ d,H d=none→E (.ref C) (some d) (upd H d (Xg d (Up c m))))
theorem Z3H {k:Nat} {Z5 Zb Z7 Za Z8 Z6 Zc Z9 Z2 Z3 Z4 Z1 Z0:Addr} {c_law_asked P_law_asked:Addr} (R:g.Raw "refuse_too_many" "refuse_too_many" Z12 ["count","most"]) (Z3I:g.MaX "TooMany" Z6 ["self","count","most"] ["count","most"]) (hki:2≤k):g.FnX (k+1) "refuse_too_many" ["count","most"] (UE Z6):=by
 refine R.fnX Z3y (fun vs H Q E h=>by obtain ⟨c,m,rfl,q,qe⟩:=h;rfl) fun f_ cdv A outer s H vs Q E hr h=>?_
 obtain ⟨c,m,rfl,q,qe⟩:=h
 refine ⟨_,(@Yh _ _ _ (@YO _ _ _ _ _ _ _ _ (@Yr _ _ _ _ _ _ _ _ UN (pv 0) (pv 1) (Yv _)) (@Yh _ _ _ (@YbW _ _ _ _ _ _ _ _ _ _ _ _ _ _ Z3I hr Yet (@Ya _ _ _ _ _ (pv 0) (@Ya _ _ _ _ _ (pv 1) Yd (by rfl)) (by rfl)) (by omega) (by rfl) (by rfl) (by rfl) (by decide) (by rfl) (by rfl))) Yt)),?_⟩
 walk_at "rd"
 refine Vy (fun z=>?_) (fun z=>q (by omega))
 unfold Yah
 walk_at "rd"
 exact ⟨by decide,fun d hd=>qe z d hd⟩
def Z1H (m:Nat):Sp:=fun vs H Q _=>∃ v,vs=[v]∧((∃ i:Int,v = .int i∧1≤m∧Q (.int i) H)∨(∃ x:Str,v = .str x∧1≤m∧Q (.str x) H)∨(∃ (a:Addr) (zs:List Int),v = .ref a∧H a=some (.lst (zs.map V.int))∧zs.length≤1000∧2≤m∧∀ D H',Yk H H'→Q (.ref D) H')∨∃ (a:Addr) (x y:Str),v = .ref a∧H a=some (.tup [.str x,.str y])∧2≤m∧∀ D H',Yk H H'→Q (.ref D) H')
theorem Yca {vs:List V} {H:Hp} {Q:VK} {E:XK} (h:Z1H 0 vs H Q E):False:=by
 obtain ⟨v,_,⟨i,_,h,_⟩ | ⟨x,_,h,_⟩ | ⟨a,zs,_,_,_,h,_⟩ | ⟨a,x,y,_,_,h,_⟩⟩:=h<;>omega
theorem UF {k:Nat} {Z5 Zb Z7 Za Z8 Z6 Zc Z9 Z2 Z3 Z4 Z1 Z0:Addr} {c_law_asked P_law_asked:Addr} (R:g.Raw "copied" "copied" VC ["thing"]) (Z34:g.Fn k "copied" ["thing"] (Z1H m)) (b_dict:g.mg "dict"=none) (Zw:g.mg "isinstance"=none) (b_list:g.mg "list"=none) (Z08:g.mg "tuple"=none):g.Fn (k+1) "copied" ["thing"] (Z1H (m+1)):=by
 refine R.fn YbY (fun vs H Q E h=>by obtain ⟨v,rfl,h⟩:=h;rfl) fun f_ cdv A outer s H vs Q E hr h=>?_
 obtain ⟨v,rfl,h⟩:=h
 refine ⟨_,(@Yf _ _ _ _ _ (@YO _ _ _ _ _ _ _ _ (@Y7 _ _ _ (@YD _ _ _ _ _ _ _ _ _ _ Zw Xo (@Ya _ _ _ _ _ (pv 0) (@Ya _ _ _ _ _ (@WV _ _ _ _ ("list") b_list (by decide +kernel) (by rfl) (by rfl) (by decide) (by decide)) Yd (by rfl)) (by rfl)) (by decide +kernel) (by rfl) (by rfl) (by decide) (by decide) (by rfl) (by rfl)) (by intro _;rfl)) (@Yh _ _ _ (@Yl _ _ _ _ (@Wc _ _ _ _ _ _ _ ([none]) ((["each"]:List Str)) _ (YM 0) _ _ (.own .nil) rfl (@XV _ _ _ _ (pv 0)) (fun cl C s₀ H₀ fp pn=>(@YJ _ _ (0) _ (show List.Nodup (["each"]:List Str) by decide +kernel) rfl (.inl rfl) (.inr rfl))) (fun cl C s₀ H₀ fp pn=>Xn) (fun cl C s₀ H₀ fp pn=>(@YK _ _ _ _ _ _ _ _ _ _ _ _ Z34 hr (@Ya _ _ _ _ _ (pv 0) Yd (by rfl)) (by omega) (by rfl) (by rfl) (by decide) (by rfl) (by rfl))) (by intro x hx;simp at hx) (by rfl) (by decide) (by decide +kernel) (by intro _;rfl)))) Yt) (@Yf _ _ _ _ _ (@YO _ _ _ _ _ _ _ _ (@Y7 _ _ _ (@YD _ _ _ _ _ _ _ _ _ _ Zw Xo (@Ya _ _ _ _ _ (pv 0) (@Ya _ _ _ _ _ (@WV _ _ _ _ ("tuple") Z08 (by decide +kernel) (by rfl) (by rfl) (by decide) (by decide)) Yd (by rfl)) (by rfl)) (by decide +kernel) (by rfl) (by rfl) (by decide) (by decide) (by rfl) (by rfl)) (by intro _;rfl)) (@Yh _ _ _ (@Yl _ _ _ _ (@YaK _ _ _ _ _ _ _ _ _ _ Z08 W1 (@Ya _ _ _ _ _ (@Wc _ _ _ _ _ _ _ ([none]) ((["each"]:List Str)) _ (YM 0) _ _ (.own .nil) rfl (@Yd6 _ _ _ _ (pv 0)) (fun cl C s₀ H₀ fp pn=>(@YJ _ _ (0) _ (show List.Nodup (["each"]:List Str) by decide +kernel) rfl (.inl rfl) (.inr rfl))) (fun cl C s₀ H₀ fp pn=>Xn) (fun cl C s₀ H₀ fp pn=>(@YK _ _ _ _ _ _ _ _ _ _ _ _ Z34 hr (@Ya _ _ _ _ _ (pv 0) Yd (by rfl)) (by omega) (by rfl) (by rfl) (by decide) (by rfl) (by rfl))) (by intro x hx;simp at hx) (by rfl) (by decide) (by decide +kernel) (by intro _;rfl)) Yd (by rfl)) (by decide +kernel) (by rfl) (by rfl) (by decide) (by decide) (by rfl) (by rfl)))) Yt) (@Yf _ _ _ _ _ (@YO _ _ _ _ _ _ _ _ (@Y7 _ _ _ (@YD _ _ _ _ _ _ _ _ _ _ Zw Xo (@Ya _ _ _ _ _ (pv 0) (@Ya _ _ _ _ _ (@WV _ _ _ _ ("dict") b_dict (by decide +kernel) (by rfl) (by rfl) (by decide) (by decide)) Yd (by rfl)) (by rfl)) (by decide +kernel) (by rfl) (by rfl) (by decide) (by decide) (by rfl) (by rfl)) (by intro _;rfl)) (@Yh _ _ _ XE) Yt) (@Yh _ _ _ (@Yl _ _ _ _ (pv 0)))))),?_⟩
 rcases h with ⟨i,rfl,_,q⟩ | ⟨z,rfl,_,q⟩ | ⟨a,zs,rfl,ha,hl,hm,q⟩ | ⟨a,z1,z2,rfl,ha,hm,q⟩
 ·walk_at "rd"
  exact ⟨_,rfl,_,.int i,false,rfl,YL (by decide) ⟨_,rfl,_,.int i,false,rfl,YL (by decide) ⟨_,rfl,_,.int i,false,rfl,YL (by decide) q⟩⟩⟩
 ·walk_at "rd"
  exact ⟨_,rfl,_,.str z,false,rfl,YL (by decide) ⟨_,rfl,_,.str z,false,rfl,YL (by decide) ⟨_,rfl,_,.str z,false,rfl,YL (by decide) q⟩⟩⟩
 ·walk_at "rd"
  refine ⟨_,rfl,_,.lst ha,true,rfl,Xs rfl ?_⟩
  refine Ycp (K:=g.K) (a:=a) (xs:=zs.map V.int) (zs.map V.int) (fun R r=>by walk_at "rd";exact r) (SqL.of ha) rfl (by rw [List.length_map];omega) ?_ (fun D H' hD sm hd=>q D H' sm)
  intro i x y H' hx hy sm R r
  rw [hx] at hy
  cases hy
  rw [List.getElem?_map] at hx
  obtain ⟨z,hz,rfl⟩:=Option.map_eq_some_iff.mp hx
  walk_at "rd"
  exact ⟨_,rfl,.inl ⟨z,rfl,by omega,r _ (.refl _)⟩⟩
 ·walk_at "rd"
  refine ⟨_,rfl,_,.tup ha,false,rfl,YL (by decide) ⟨_,rfl,_,.tup ha,true,rfl,Xs rfl ?_⟩⟩
  refine Ycw (K:=g.K) (xs:=[.str z1,.str z2]) [.str z1,.str z2] (fun R r=>by walk_at "rd";exact r a H (.refl _) (SqT.of ha)) rfl (by simp) ?_ (fun D H' hD sm hd=>⟨D,rfl,_,.inl ⟨SqL.of hd,fun l gl=>q l _ (sm.trans (.upd_new gl _))⟩⟩)
  intro i x y H' hx hy sm R r
  rw [hx] at hy
  cases hy
  obtain ⟨z,rfl⟩:∃ z,x = .str z:=by
   have:=List.mem_of_getElem? hx
   simp only [List.mem_cons,List.not_mem_nil,or_false] at this
   rcases this with rfl | rfl<;>exact ⟨_,rfl⟩
  walk_at "rd"
  exact ⟨_,rfl,.inr (.inl ⟨z,rfl,by omega,r _ (.refl _)⟩)⟩
def NL (H H':Hp):Prop:=(∀ b xs,H b=some (.tup xs)→H' b=some (.tup xs))∧(∀ b φ,H b=some (.ext φ)→H' b=some (.ext φ))∧∀ b o u,H b=some (.frz o u)→H' b=some (.frz o u)
theorem NL.trans {H H1 H2:Hp} (a:NL H H1) (b:NL H1 H2):NL H H2:=⟨fun c o e=>b.1 c o (a.1 c o e),fun c o e=>b.2.1 c o (a.2.1 c o e),fun c o u e=>b.2.2 c o u (a.2.2 c o u e)⟩
theorem Ydf {H H':Hp} (s:Yk H H'):NL H H':=⟨fun b o e=>s b _ e,fun b o e=>s b _ e,fun b o u e=>s b _ e⟩
theorem Yey {H H':Hp} {P:Addr} {xs:List V} (hk:∀ a o,a≠P→H a=some o→H' a=some o) (hP:H P=some (.lst xs)):NL H H' :=
 ⟨fun c o e=>hk c _ (Yq e hP (by intro z;cases z)) e,fun c o e=>hk c _ (Yq e hP (by intro z;cases z)) e,fun c o u e=>hk c _ (Yq e hP (by intro z;cases z)) e⟩
abbrev Okf (g:Gx) (f:Addr) (fd:FuncData) (ps:List Str) (sp:Sp):Prop:=FnOk g.P g.w g.K g.mg g.base CX0 2 f fd ps sp∧∀ us:List Value,us.length=ps.length→bindArgs fd ⟨us,[]⟩=pure (ps.zip us)
def Vi (g:Gx) (H:Hp) (f asked:Addr):Prop:=∃ fd sp,Okf g f fd ["_law_thing"] sp∧H f=some (FnO f fd) ∧
 ∀ (H1:Hp) (x:V) (xs:List V) (Q:VK),NL H H1→H1 asked=some (.lst xs)→xs.length≤10000→Q (.bl true) (upd H1 asked (.lst (xs++[x])))→H1 f=some (FnO f fd)∧sp [x] H1 Q E0
theorem Vi.nl {g:Gx} {H H':Hp} {f asked:Addr} (h:Vi g H f asked) (n:NL H H'):Vi g H' f asked:=by
 obtain ⟨fd,sp,h1,h2,h3⟩:=h
 exact ⟨fd,sp,h1,n.2.1 _ _ h2,fun H1 x xs Q n1=>h3 H1 x xs Q (n.trans n1)⟩
def QA (g:Gx):Sp:=fun vs H Q _=>∃ (f asked:Addr) (u:V) (xs:List V),vs=[.ref f,u]∧Val H u∧Vi g H f asked∧H asked=some (.lst xs)∧xs.length≤10000∧∀ v H',(∀ b o,b≠asked→H b=some o→H' b=some o)→H' asked=some (.lst (xs++[v]))→Q (.bl true) H'
theorem YcT {k:Nat} {Z5 Zb Z7 Za Z8 Z6 Zc Z9 Z2 Z3 Z4 Z1 Z0:Addr} {c_law_asked P_law_asked:Addr} (R:g.Raw "holds" "holds" Ui ["judge","value"]) (Z34:g.Fn k "copied" ["thing"] (Z1H 2)) (hkc:2≤k):g.Fn (k+1) "holds" ["judge","value"] (QA g):=by
 refine R.fn YcP (fun vs H Q E h=>by obtain ⟨f,asked,u,xs,rfl,hu,⟨fd1,sp1,ok1,hf1,hf1c⟩,ha,hl,q⟩:=h;rfl) fun f_ cdv A outer s H vs Q E hr h=>?_
 obtain ⟨f,asked,u,xs,rfl,hu,⟨fd1,sp1,ok1,hf1,hf1c⟩,ha,hl,q⟩:=h
 refine ⟨_,(@Yh _ _ _ (@Yl _ _ _ _ (@Vl _ _ _ _ _ _ _ _ Yeh (@Ycy _ (g) _ (2) _ _ _ _ _ _ 0 hr (@Ya _ _ _ _ _ (@YK _ _ _ _ _ _ _ _ _ _ _ _ Z34 hr (@Ya _ _ _ _ _ (pv 1) Yd (by rfl)) (by omega) (by rfl) (by rfl) (by decide) (by rfl) (by rfl)) Yd (by rfl)) (by omega) (by rfl) (by rfl) (by first | exact .inl rfl | exact .inr (.inl rfl) | exact .inr (.inr rfl)) (by decide) (by decide) (by rfl) (by rfl)) WA (Yv _)))),?_⟩
 walk_at "rd"
 refine ⟨f,fd1,_,sp1,rfl,ok1.1,ok1.2,hf1,?_⟩
 walk_at "rd"
 have fin:∀ v H',Yk H H'→H' f=some (FnO f fd1)∧sp1 [v] H' (fun x H1=>∃ a,x=V.bl a∧Q (V.bl (a==true)) H1) E0:=fun v H' s=>hf1c H' v xs _ (Ydf s) (s _ _ ha) hl ⟨_,rfl,q v _ (fun b o nb e=>by rw [Yb nb];exact s _ _ e) Yc⟩
 rcases hu with ⟨x,rfl⟩ | ⟨a,zs,rfl,h1,h2⟩ | ⟨a,x,y,rfl,h1⟩
 ·exact ⟨_,rfl,.inr (.inl ⟨x,rfl,by decide,fin _ _ (.refl _)⟩)⟩
 ·exact ⟨_,rfl,.inr (.inr (.inl ⟨a,zs,rfl,h1,h2,by decide,fun D H' s=>fin _ _ s⟩))⟩
 ·exact ⟨_,rfl,.inr (.inr (.inr ⟨a,x,y,rfl,h1,by decide,fun D H' s=>fin _ _ s⟩))⟩
def Z46 (g:Gx):Sp:=fun vs H Q _=>∃ (f asked D:Addr) (us xs:List V),vs=[.ref f,.ref D]∧H D=some (.lst us)∧us.length≤1000∧D≠asked∧(∀ u∈us,Val H u∧u ≠ .ref asked)∧Vi g H f asked∧H asked=some (.lst xs)∧xs.length≤1000∧∀ t ys H',(∀ b o,b≠asked→H b=some o→H' b=some o)→H' asked=some (.lst ys)→ys.length=xs.length+us.length→H' t=some (.tup [.str "held",.int ((us.length:Nat):Int),.non])→Q (.ref t) H'
theorem QW {k:Nat} {Z5 Zb Z7 Za Z8 Z6 Zc Z9 Z2 Z3 Z4 Z1 Z0:Addr} {c_law_asked P_law_asked:Addr} (R:g.Raw "tried_on" "tried_on" Z2K ["judge","values"]) (F_holds:g.Fn k "holds" ["judge","value"] (QA g)) (Z07:g.mg "enumerate"=none) (b_len:g.mg "len"=none):g.Fn (k+1) "tried_on" ["judge","values"] (Z46 g):=by
 refine R.fn Z1J (fun vs H Q E h=>by obtain ⟨f,asked,D,us,xs,rfl,hD,hul,hne,hus,hj,hA,hxl,q⟩:=h;rfl) fun f_ cdv A outer s H vs Q E hr h=>?_
 obtain ⟨f,asked,D,us,xs,rfl,hD,hul,hne,hus,hj,hA,hxl,q⟩:=h
 refine ⟨_,(@Yf _ _ _ _ _ (@Xz _ _ _ _ _ _ _ _ PassesOwn.never rfl (@Yct _ _ _ _ _ _ _ _ _ _ _ rfl Z07 (@Ya _ _ _ _ _ (pv 1) Yd (by rfl)) (by rfl)) (@U0 _ _ _ _ _ (2) rfl (@XT _ _ _ _ _ (@YJ _ _ (2) _ Z1J.nd rfl (.inl rfl) (by first | exact .inl rfl | exact .inr rfl | assumption)) (@XT _ _ _ _ _ (@YJ _ _ (3) _ Z1J.nd rfl (.inl rfl) (by first | exact .inl rfl | exact .inr rfl | assumption)) V6 (by rfl)) (by rfl)) (by rfl) (by rfl)) (@Yh _ _ _ (@YO _ _ _ _ _ _ _ _ (@Xp _ _ _ _ (@Y7 _ _ _ (@YK _ _ _ _ _ _ _ _ _ _ _ _ F_holds hr (@Ya _ _ _ _ _ (pv 0) (@Ya _ _ _ _ _ (pv 3) Yd (by rfl)) (by rfl)) (by omega) (by rfl) (by rfl) (by decide) (by rfl) (by rfl)) (by intro _;rfl))) (@Yh _ _ _ (@Yl _ _ _ _ (@YZ _ _ _ _ _ (@Ya _ _ _ _ _ YF (@Ya _ _ _ _ _ (pv 2) (@Ya _ _ _ _ _ (pv 3) Yd (by rfl)) (by rfl)) (by rfl))))) Yt)) (by intro _;rfl)) (@Yh _ _ _ (@Yl _ _ _ _ (@YZ _ _ _ _ _ (@Ya _ _ _ _ _ YF (@Ya _ _ _ _ _ (@YD _ _ _ _ _ _ _ _ _ _ b_len Yx (@Ya _ _ _ _ _ (pv 1) Yd (by rfl)) (by decide +kernel) (by rfl) (by rfl) (by decide) (by decide) (by rfl) (by rfl)) (@Ya _ _ _ _ _ X6 Yd (by rfl)) (by rfl)) (by rfl)))))),?_⟩
 walk_at "rd"
 refine YaT (K:=g.K) (a:=D) (xs:=us) (fun i σ H'=>∃ (o2 o3:Option V) (ys:List V),σ=[some (.ref f),some (.ref D),o2,o3]∧(∀ b o,b≠asked→H b=some o→H' b=some o)∧H' asked=some (.lst ys)∧ys.length=xs.length+i) (fun R r=>by walk_at "rd";exact r) ⟨_,_,xs,rfl,fun b o _ e=>e,hA,rfl⟩ (fun i σ H' _ ⟨_,_,_,_,h,_⟩=>SqL.of (h _ _ hne hD)) ?_ ?_
 ·rintro i u σ H' T hx ⟨o2,o3,ys,rfl,fr,hA',hyl⟩ hT
  have hi:=(List.getElem?_eq_some_iff.mp hx).1
  have sT:=Yk.upd_new hT (.tup [.int ((i+1:Nat):Int),u])
  obtain ⟨v1,v2⟩:=hus u (List.mem_of_getElem? hx)
  have fr2:∀ b o,b≠asked→H b=some o→upd H' T (.tup [.int ((i+1:Nat):Int),u]) b=some o:=fun b o nb e=>sT _ _ (fr b o nb e)
  walk_at "rd"
  refine ⟨_,SqT.of Yc,rfl,_,_,rfl,_,_,rfl,rfl,f,asked,u,ys,rfl,v1.keep (fun z o e ez=>fr2 z o (fun y=>v2 (by rw [e,y])) ez),hj.nl (Yey fr2 hA),sT _ _ hA',by omega,fun v H3 fr3 hA3=>⟨_,rfl,YL (by decide) ⟨fun b o nb e=>fr3 _ _ nb (fr2 b o nb e),_,hA3,by rw [List.length_append,List.length_singleton];omega⟩⟩⟩
 ·rintro σ H' ⟨o2,o3,ys,rfl,fr,hA',hyl⟩
  walk_at "rd"
  refine ⟨_,.inl (SqL.of (fr _ _ hne hD)),few (by decide),fun t ht=>?_⟩
  have st:=Yk.upd_new ht (.tup [.str "held",.int (us.length:Int),.non])
  exact q t ys _ (fun b o nb e=>st _ _ (fr b o nb e)) (st _ _ hA') hyl Yc
def tot (sh:Q6) (n:Nat):Int:=((List.range n).map fun k=>cn sh k).sum
theorem WZ (sh:Q6) (n:Nat):tot sh (n+1)=tot sh n+cn sh n:=by
 unfold tot
 rw [List.range_succ,List.map_append,List.sum_append]
 simp
theorem Uq (sh:Q6) (n:Nat):0≤tot sh n:=Wk _ fun x hx=>by
 obtain ⟨j,_,rfl⟩:=List.mem_map.mp hx
 exact V4 sh j
theorem Ycb (sh:Q6) (m:Nat):∀ n:Nat,m≤n→tot sh m≤tot sh n
 | 0,h=>by rw [show m=0 by omega];exact Int.le_refl _
 | n+1,h=>by
  by_cases c:m=n+1
  ·rw [c];exact Int.le_refl _
  ·have h1:=Ycb sh m n (by omega)
   have h2:=V4 sh n
   rw [WZ];omega
def PvT (CW CT CM CR CB:Addr) (H2:Hp) (p:Addr) (B:Bu) (sh:Q6) (D:Addr) (i:Nat) (zs:List V) (H':Hp):Prop:=zs=YH (cn sh) i∧H' D=some (.lst zs)∧(∀ q o,q∉B.zs→q≠D→H2 q=some o→H' q=some o)∧(D≠p∧D∉B.ads)∧MB CW CT CM CR CB H' p i sh B
def PvV (CW CT CM CR CB:Addr) (H3:Hp) (p:Addr) (B:Bu) (sh:Q6) (asked Vs:Addr) (n i:Nat) (H':Hp):Prop:=(∀ q o,q∉B.zs→q≠Vs→H3 q=some o→H' q=some o)∧MB CW CT CM CR CB H' p n sh B∧∃ us,H' Vs=some (.lst us)∧us.length=(tot sh i).toNat∧∀ u∈us,Val H' u∧∀ z,u = .ref z→z≠asked∧z≠Vs∧z∉B.zs
def Z3J (g:Gx) (C:Addr):Sp:=fun vs H Q E=>∃ (b:V) (a f asked:Addr) (sh:Q6) (size:Nat) (most:Int) (xs:List V),vs=[b,.ref a,.ref f,.int (size:Nat),.int most]∧XH H a sh∧okq sh∧size≤16∧Vi g H f asked∧H asked=some (.lst xs)∧xs.length≤1000 ∧
 (tot sh (size+1)≤most→tot sh (size+1)≤40∧∀ t ys H',(∀ b o,b≠asked→H b=some o→H' b=some o)→H' asked=some (.lst ys)→ys.length=xs.length+(tot sh (size+1)).toNat→H' t=some (.tup [.str "held",.int (tot sh (size+1)),.non])→Q (.ref t) H') ∧
 (most<tot sh (size+1)→∀ H' d,Yk H H'→H' d=none→E (.ref C) (some d) (upd H' d (Xg d (Up (tot sh (size+1)) most))))
theorem YcU {k:Nat} {Z5 Zb Z7 Za Z8 Z6 Zc Z9 Z2 Z3 Z4 Z1 Z0:Addr} {c_law_asked P_law_asked:Addr} (R:g.RawDX "tried" "tried" Uj ["book","shape","judge","size","most"] [.int 400]) (F_maker_for:g.Fn k "maker_for" ["book","shape"] (UD g.K Z0 Z1 Z2 Z3 Z4)) (Z3Y:g.FnX k "refuse_too_many" ["count","most"] (UE Z6)) (F_all_made:g.Fn k "all_made" ["maker","size"] (Z3G g.K Z0 Z1 Z2 Z3 Z4)) (F_tried_on:g.Fn k "tried_on" ["judge","values"] (Z46 g)) (ZG:g.Me k Z1 "count_at" ["self","size"] (Z0d g.K Z0 Z1 3)) (ZW:g.Me k Z2 "count_at" ["self","size"] (Z1i g.K Z0 Z2 4)) (Z0Q:g.Me k Z3 "count_at" ["self","size"] (Z1G g.K Z1 Z3 Z4)) (b_list:g.mg "list"=none) (Zu:g.mg "range"=none) (b_sum:g.mg "sum"=none) (Zi:Cls g.K Z2) (Zd:Yg g.K Z2 "counts") (Zj:Yg g.K Z2 "part") (Zs:Cls g.K Z3) (Zp:Yg g.K Z3 "counts") (Zv:Yg g.K Z3 "parts") (Zt:Yg g.K Z3 "table") (Zg:Cls g.K Z1) (Ze:Yg g.K Z1 "counts") (Zf:Yg g.K Z1 "signs"):g.FnDX (k+1) "tried" ["book","shape","judge","size","most"] [.int 400] (Z3J g Z6):=by
 refine R.fnDX Z1x (fun vs H Q E h=>by obtain ⟨b,a,f,asked,sh,size,most,xs,rfl,ha,ho,hsz,hj,hA,hxl,q,qe⟩:=h;rfl) fun f_ cdv A outer s H vs Q E hr h=>?_
 obtain ⟨b,a,f,asked,sh,size,most,xs,rfl,ha,ho,hsz,hj,hA,hxl,q,qe⟩:=h
 refine ⟨_,(@Yf _ _ _ _ _ (PS.nox (@Yp _ _ (5) _ _ _ _ Z1x.nd rfl (.inr rfl) (@YK _ _ _ _ _ _ _ _ _ _ _ _ F_maker_for hr (@Ya _ _ _ _ _ (pv 0) (@Ya _ _ _ _ _ (pv 1) Yd (by rfl)) (by rfl)) (by omega) (by rfl) (by rfl) (by decide) (by rfl) (by rfl)) (by rfl) (by first | exact .inl rfl | exact .inr rfl | assumption))) (@Yf _ _ _ _ _ (PS.nox (@Yp _ _ (6) _ _ _ _ Z1x.nd rfl (.inl rfl) (@UK _ _ _ _ _ _ _ rfl b_list rfl Zu (@Ya _ _ _ _ _ (@Yn _ _ _ _ _ _ _ _ Y1 (pv 3) Yj) Yd (by rfl)) (by rfl) (by rfl)) (by rfl) (by first | exact .inl rfl | exact .inr rfl | assumption))) (@Yf _ _ _ _ _ (@YV _ _ _ _ (@Qa _ _ _ _ _ _ _ _ _ _ _ _ _ Z3Y hr passF (@Ya _ _ _ _ _ (@YD _ _ _ _ _ _ _ _ _ _ b_sum W2 (@Ya _ _ _ _ _ (@Wc _ _ _ _ _ _ _ ([none,some 5]) ((["each","maker"]:List Str)) _ (YM 0) _ _ (.own (.cap (i:=5) rfl rfl (by first | exact .inl rfl | exact .inr rfl) .nil)) rfl (@XV _ _ _ _ (pv 6)) (fun cl C s₀ H₀ fp pn=>(@YJ _ _ (0) _ (show List.Nodup (["each","maker"]:List Str) by decide +kernel) rfl (.inl rfl) (.inr rfl))) (fun cl C s₀ H₀ fp pn=>Xn) (fun cl C s₀ H₀ fp pn=>(@XJ _ _ _ _ (@YU _ _ _ _ _ _ _ _ _ _ _ _ _ _ _ _ ZG Zg hr (pv 1) (@Ya _ _ _ _ _ (pv 0) Yd (by rfl)) (by omega) (by rfl) (by rfl) (by rfl) (by rfl)) (@XJ _ _ _ _ (@YU _ _ _ _ _ _ _ _ _ _ _ _ _ _ _ _ ZW Zi hr (pv 1) (@Ya _ _ _ _ _ (pv 0) Yd (by rfl)) (by omega) (by rfl) (by rfl) (by rfl) (by rfl)) (@YU _ _ _ _ _ _ _ _ _ _ _ _ _ _ _ _ Z0Q Zs hr (pv 1) (@Ya _ _ _ _ _ (pv 0) Yd (by rfl)) (by omega) (by rfl) (by rfl) (by rfl) (by rfl))))) (by intro x hx;simp at hx;first | (subst hx;exact .inl rfl) | (rcases hx with rfl | rfl<;>exact .inl rfl) | (rcases hx with rfl | rfl | rfl<;>exact .inl rfl) | (rcases hx with rfl | rfl | rfl | rfl<;>exact .inl rfl) | (rcases hx with rfl | rfl | rfl | rfl | rfl<;>exact .inl rfl)) (by rfl) (by decide) (by decide +kernel) (by intro _;rfl)) Yd (by rfl)) (by decide +kernel) (by rfl) (by rfl) (by decide) (by decide) (by rfl) (by rfl)) (@Ya _ _ _ _ _ (pv 4) Yd (by rfl)) (by rfl)) (by omega) (by rfl) (by rfl) (by decide) (by rfl) (by rfl)) (by rfl)) (@Yf _ _ _ _ _ (PS.nox (@Yp _ _ (7) _ _ _ _ Z1x.nd rfl (.inl rfl) (@Xq _ _ _ _ Yd) (by rfl) (by first | exact .inl rfl | exact .inr rfl | assumption))) (@Yf _ _ _ _ _ (PS.nox (@Xz _ _ _ _ _ _ _ _ PassesOwn.never rfl (@XV _ _ _ _ (pv 6)) (@YJ _ _ (8) _ Z1x.nd rfl (.inl rfl) (by first | exact .inl rfl | exact .inr rfl | assumption)) (@Yh _ _ _ (@YV _ _ _ _ (@Xx _ _ _ _ _ _ _ _ _ _ _ _ PySem.F.plainAttrs_list PySem.F.slot_list_extend PySem.F.type_list_extend Ybz (pv 7) (@Ya _ _ _ _ _ (@YK _ _ _ _ _ _ _ _ _ _ _ _ F_all_made hr (@Ya _ _ _ _ _ (pv 5) (@Ya _ _ _ _ _ (pv 8) Yd (by rfl)) (by rfl)) (by omega) (by rfl) (by rfl) (by decide) (by rfl) (by rfl)) Yd (by rfl)) (by rfl) (by rfl) (by rfl) (by rfl) (by rfl)) (by rfl))) (by intro _;rfl))) (@Yh _ _ _ (PS.nox (@Yl _ _ _ _ (@YK _ _ _ _ _ _ _ _ _ _ _ _ F_tried_on hr (@Ya _ _ _ _ _ (pv 2) (@Ya _ _ _ _ _ (pv 7) Yd (by rfl)) (by rfl)) (by omega) (by rfl) (by rfl) (by decide) (by rfl) (by rfl)))))))))),?_⟩
 walk_at "rd"
 refine ⟨a,b,sh,rfl,ha,fun p Z H1 s1 hMS hZ=>?_⟩
 obtain ⟨B,rfl,M⟩:=hMS.mb ho
 unfold tLR
 walk_at "rd"
 refine ⟨size+1,by omega,by omega,fun Sz gS=>?_⟩
 have sS:=Yk.upd_new gS (.lst ((List.range (size+1)).map fun (i:Nat)=>V.int (i:Int)))
 obtain ⟨H2,eH2⟩:∃ H2,H2=upd H1 Sz (.lst ((List.range (size+1)).map fun (i:Nat)=>V.int (i:Int))):=⟨_,rfl⟩
 rw [← eH2] at sS ⊢
 have hSz:H2 Sz=some (.lst ((List.range (size+1)).map fun (i:Nat)=>V.int (i:Int))):=by rw [eH2,Yc]
 have nSz:=M.new gS
 have M2:=M.keep sS
 have nSzz:Sz∉B.zs:=fun z=>nSz.2 (Bu.za _ z)
 refine YbR (K:=g.K) (b:=Sz) (xs:=(List.range (size+1)).map fun (i:Nat)=>V.int (i:Int)) (PvT Z0 Z1 Z2 Z3 Z4 H2 p B sh) (fun R r=>by walk_at "rd";exact r) (SqL.of hSz) (by simp;omega) ?_ ?_ ?_ ?_
 ·intro D hD
  exact ⟨rfl,Yc,fun x o _ h2 h=>by rw [Yb h2];exact h,M2.new hD,M2.keep (.upd_new hD _)⟩
 ·rintro D i zs H' hD ⟨rfl,h,fr,_⟩
  exact ⟨YI _ _,h,SqL.of (fr _ _ nSzz (Ye hSz hD) hSz)⟩
 ·rintro D i x zs H' hD hx ⟨rfl,hd,fr,n1,M'⟩ R r
  have hi:i<size+1:=by have:=(List.getElem?_eq_some_iff.mp hx).1;simpa using this
  rw [List.getElem?_map,List.getElem?_range hi] at hx
  have ex:V.int (i:Int)=x:=Option.some.inj hx
  subst ex
  have nDz:D∉B.zs:=fun z=>n1.2 (Bu.za _ z)
  walk_at "rd"
  refine Yas M' ho (by omega) (by omega) fun H3 bz M3=>?_
  rw [show max i (i+1)=i+1 by omega] at M3
  exact r _ _ (bz _ _ nDz hd) ⟨(Xf _ _).symm,Yc,fun x o h1 h3 h=>by rw [Yb h3];exact bz _ _ h1 (fr _ _ h1 h3 h),n1,M3.keepB fun x o hx e=>by rw [Yb (fun z:x=D=>by rcases hx with h | h;exact n1.1 (z▸h);exact n1.2 (z▸h))];exact e⟩
 ·rintro D zs H3 hD ⟨rfl,hd,fr,n1,M3⟩
  rw [List.length_map,List.length_range] at hd M3
  have hS3:=fr _ _ nSzz (Ye hSz hD) hSz
  have sH3:Yk H H3:=fun q o e=>fr q o (fun z=>by rw [hZ q z] at e;cases e) (Ye (sS _ _ (s1 _ _ e)) hD) (sS _ _ (s1 _ _ e))
  refine ⟨D,rfl,(List.range (size+1)).map fun k=>cn sh k,SqL.of (by rw [hd,YH,List.map_map];rfl),_,_,rfl,fun hle=>⟨few (by decide),fun Vs gV=>?_⟩,fun hlt d gd=>qe hlt H3 d sH3 gd⟩
  obtain ⟨h40,q⟩:=q hle
  have sV:=Yk.upd_new gV (.lst [])
  have nV:=M3.new gV
  have nVz:Vs∉B.zs:=fun z=>nV.2 (Bu.za _ z)
  have nVA:Vs≠asked:=Ne.symm (Ye (sH3 _ _ hA) gV)
  have nAz:asked∉B.zs:=fun z=>by rw [hZ asked z] at hA;cases hA
  refine WW (K:=g.K) (xs:=(List.range (size+1)).map fun (i:Nat)=>V.int (i:Int)) (fun c i σ H'=>c=Sz∧(∃ o,σ=[some b,some (.ref a),some (.ref f),some (.int size),some (.int most),some (.ref p),some (.ref Sz),some (.ref Vs),o])∧PvV Z0 Z1 Z2 Z3 Z4 H3 p B sh asked Vs (size+1) i H') (fun R r=>by walk_at "rd";exact r Sz _ ⟨rfl,⟨_,rfl⟩,fun q o _ _ e=>sV _ _ e,M3.keep sV,[],Yc,rfl,fun u hu=>by cases hu⟩) (fun c i σ H' _ ⟨e,_,s,_⟩=>by subst e;exact SqL.of (s _ _ nSzz (Ye hS3 gV) hS3)) ?_ ?_
  ·rintro c i x σ H' hx ⟨rfl,⟨o,rfl⟩,sm,M',us,hV,hul,hus⟩
   have hi:i<size+1:=by have:=(List.getElem?_eq_some_iff.mp hx).1;simpa using this
   rw [List.getElem?_map,List.getElem?_range hi] at hx
   have ex:V.int (i:Int)=x:=Option.some.inj hx
   subst ex
   have t1:=WZ sh i
   have t2:=Ycb sh (i+1) (size+1) (by omega)
   have t3:=Uq sh i
   have t4:=V4 sh i
   have hA':∀ {o:HO},H asked=some o→H' asked=some o:=fun e=>sm _ _ nAz (Ne.symm nVA) (sH3 _ _ e)
   walk_at "rd"
   refine ⟨.inl ⟨rfl,_,SqL.of hV⟩,p,B,sh,size+1,i,rfl,M',ho,hi,by omega,by omega,fun D' ws H'' gD' hD' hwl bz M'' hws=>?_⟩
   refine ⟨Vs,D',_,_,rfl,rfl,bz _ _ nVz hV,hD',few (by omega),?_⟩
   unfold PvV
   have nu:∀ u∈ws,∀ z,u = .ref z→z≠asked∧z≠Vs∧z∉B.zs:=fun u hu z e=>by
    have hz:=(hws u hu).2 z e
    exact ⟨Ne.symm (Ye (hA' hA) hz),Ne.symm (Ye hV hz),fun y=>(M'.new hz).2 (Bu.za _ y)⟩
   refine ⟨fun z u h1 h2 e=>by rw [Yb h2];exact bz _ _ h1 (sm _ _ h1 h2 e),M''.keepB fun x o hx e=>by rw [Yb (fun z:x=Vs=>by rcases hx with h | h;exact nV.1 (z▸h);exact nV.2 (z▸h))];exact e,us++ws,Yc,by rw [List.length_append,hul,hwl,t1];omega,fun u hu=>?_⟩
   rcases List.mem_append.mp hu with h | h
   ·obtain ⟨v1,v2⟩:=hus u h
    exact ⟨v1.keep fun z o e ez=>by rw [Yb (v2 z e).2.1];exact bz _ _ (v2 z e).2.2 ez,v2⟩
   ·exact ⟨(hws u h).1.keep fun z o e ez=>by rw [Yb (nu u h z e).2.1];exact ez,nu u h⟩
  ·rintro c σ H' ⟨rfl,⟨o,rfl⟩,sm,M',us,hV,hul,hus⟩
   walk_at "rd"
   rw [List.length_map,List.length_range] at hul
   have hh:Yk H H':=fun z u e=>sm _ _ (fun y=>by rw [hZ z y] at e;cases e) (Ye (sH3 _ _ e) gV) (sH3 _ _ e)
   have t3:=Uq sh (size+1)
   refine ⟨f,asked,Vs,us,xs,rfl,hV,by omega,nVA,fun u hu=>⟨(hus u hu).1,fun e=>((hus u hu).2 asked e).1 rfl⟩,hj.nl (Ydf hh),hh _ _ hA,hxl,fun t ys H4 fr4 hA4 hyl ht4=>q t ys H4 (fun b o nb e=>fr4 _ _ nb (hh _ _ e)) hA4 (by rw [hyl,hul]) ?_⟩
   rw [ht4,hul,Int.toNat_of_nonneg t3]
def W0:List Nat:=[97,98,99,100,101,102,103,104,105,106,107,108,109,110,111,112,113,114,115,116,117,118,119,120,121,122,65,66,67,68,69,70,71,72,73,74,75,76,77,78,79,80,81,82,83,84,85,86,87,88,89,90,48,49,50,51,52,53,54,55,56,57]
theorem YcV:Str.ofString "abcdefghijklmnopqrstuvwxyzABCDEFGHIJKLMNOPQRSTUVWXYZ0123456789"=S W0:=by decide +kernel
def sgn (c:Int) (n:Nat):List Nat:=(List.range n).map fun k:Nat=>W0.getD ((c+5*(k:Int))%62).toNat 0
theorem Xb (c:Int) (n:Nat):(sgn c n).length=n:=by simp [sgn]
theorem QB (c:Int) (n:Nat):oks (sgn c n):=by
 have h:∀ x∈W0,x<1000:=by decide
 have hs:∀ x∈sgn c n,x<1000:=fun x hx=>by
  obtain ⟨k,_,rfl⟩:=List.mem_map.mp hx
  have h1:((c+5*(k:Int))%62).toNat<W0.length:=by show _<62;omega
  rw [List.getD_eq_getElem?_getD,List.getElem?_eq_getElem h1]
  exact h _ (List.getElem_mem _)
 unfold oks
 simp only [PyData.strOk,S,Array.all_eq_true',decide_eq_true_eq]
 intro x hx
 have:=hs x (by simpa using hx)
 omega
def Z3K:Sp:=fun vs H Q _=>∃ (c:Int) (n:Nat),vs=[.int c,.int (n:Nat)]∧n≤62∧∀ H',Yk H H'→Q (.str (S (sgn c n))) H'
theorem QC {Z5 Zb Z7 Za Z8 Z6 Zc Z9 Z2 Z3 Z4 Z1 Z0:Addr} {c_law_asked P_law_asked:Addr} (R:g.Raw "_law_signs" "_law_signs" Z1L ["_law_cell","_law_many"]) (Zu:g.mg "range"=none):g.Fn (1) "_law_signs" ["_law_cell","_law_many"] (Z3K):=by
 refine R.fn Z3z (fun vs H Q E h=>by obtain ⟨c,n,rfl,hn,q⟩:=h;rfl) fun f_ cdv A outer s H vs Q E hr h=>?_
 obtain ⟨c,n,rfl,hn,q⟩:=h
 refine ⟨_,(@Yf _ _ _ _ _ (@Yp _ _ (2) _ _ _ _ Z3z.nd rfl (.inr rfl) YF (by rfl) (by first | exact .inl rfl | exact .inr rfl | assumption)) (@Yh _ _ _ (@Yl _ _ _ _ (@Xx _ _ _ _ _ _ _ _ _ _ _ _ PySem.F.plainAttrs_str PySem.F.slot_str_join PySem.F.type_str_join Q8 YF (@Ya _ _ _ _ _ (@Wc _ _ _ _ _ _ _ ([none,some 2,some 0]) ((["_law_k","_law_some","_law_cell"]:List Str)) _ (YM 0) _ _ (.own (.cap (i:=2) rfl rfl (by first | exact .inl rfl | exact .inr rfl) (.cap (i:=0) rfl rfl (by first | exact .inl rfl | exact .inr rfl) .nil))) rfl (@Xc _ _ _ _ _ _ rfl Zu (@Ya _ _ _ _ _ (pv 1) Yd (by rfl)) (by rfl)) (fun cl C s₀ H₀ fp pn=>(@YJ _ _ (0) _ (show List.Nodup (["_law_k","_law_some","_law_cell"]:List Str) by decide +kernel) rfl (.inl rfl) (.inr rfl))) (fun cl C s₀ H₀ fp pn=>Xn) (fun cl C s₀ H₀ fp pn=>(@YA _ _ _ _ _ _ _ Ybv (pv 1) (@Yn _ _ _ _ _ _ _ _ Y9 (@Yn _ _ _ _ _ _ _ _ Y1 (pv 2) (@Yn _ _ _ _ _ _ _ _ XX Yj (pv 0))) Yj) (fun _ _=>rfl))) (by intro x hx;simp at hx;first | (subst hx;exact .inl rfl) | (rcases hx with rfl | rfl<;>exact .inl rfl) | (rcases hx with rfl | rfl | rfl<;>exact .inl rfl) | (rcases hx with rfl | rfl | rfl | rfl<;>exact .inl rfl) | (rcases hx with rfl | rfl | rfl | rfl | rfl<;>exact .inl rfl)) (by rfl) (by decide) (by decide +kernel) (by intro _;rfl)) Yd (by rfl)) (by rfl) (by rfl) (by rfl) (by rfl) (by rfl))))),?_⟩
 walk_at "rd"
 refine ⟨rfl,?_⟩
 rw [YcV]
 refine YaO (n:=n) ((sgn c n).map fun x=>V.str (S [x])) (fun R r=>by walk_at "rd";exact r) (by rw [List.length_map,Xb]) (by omega) ?_ ?_
 ·intro k y H' hk hy sm R r
  have hx:(sgn c n)[k]?=some (W0.getD ((c+5*(k:Int))%62).toNat 0):=by rw [sgn,List.getElem?_map,List.getElem?_range hk];rfl
  rw [List.getElem?_map,hx] at hy
  have:V.str (S [W0.getD ((c+5*(k:Int))%62).toNat 0])=y:=Option.some.inj hy
  subst this
  walk_at "rd"
  have h1:((c+5*(k:Int))%62).toNat<W0.length:=by show _<62;omega
  refine ⟨.inr (.inl ⟨by decide,by decide⟩),by decide,S W0,_,W0.getD ((c+5*(k:Int))%62).toNat 0,rfl,rfl,by rw [Xy];exact few (by decide),?_,r H' (.refl H')⟩
  rw [U8,show (c+5*(k:Int))%62=((((c+5*(k:Int))%62).toNat:Nat):Int) by omega]
  refine Xm ?_
  rw [Int.toNat_natCast,List.getD_eq_getElem?_getD,List.getElem?_eq_getElem h1]
  rfl
 ·intro D H' hD sm hd
  refine ⟨"",D,(sgn c n).map fun x=>S [x],rfl,rfl,by rw [List.map_map];exact SqL.of hd,?_,?_⟩
  ·rw [List.map_map,List.length_map,Xb]
   have:((fun x:Str=>x.length) ∘ fun c=>S [c])=fun _=>1:=by funext c;simp [Xy]
   rw [this,List.map_const',List.sum_replicate_nat,Xb]
   have:("":Str).length=0:=by decide +kernel
   rw [this]
   have h6:10000<sizeLine:=by decide
   omega
  ·rw [Yam]
   exact q H' sm
def sh6 (k:Nat) (c:Int):Q6:=match k with
 | 0 => .t (sgn c (1+c%62).toNat)
 | 1 => .m (c%10^60)
 | _ => .r (sgn c (1+c%5).toNat) (sgn (c / 5) (1+c / 5%5).toNat)
theorem Yez (k:Nat) (c:Int):okq (sh6 k c):=by
 match k with
 | 0=>exact ⟨by rw [Xb];omega,by rw [Xb];omega⟩
 | 1=>trivial
 | _+2=>exact ⟨⟨by rw [Xb];omega,by rw [Xb];omega⟩,by rw [Xb];omega,by rw [Xb];omega⟩
def Z3L:Sp:=fun vs H Q _=>∃ (k:Nat) (c:Int),vs=[.int (k:Nat),.int c]∧k≤2∧0≤c∧c<10^61∧∀ a H',Yk H H'→XH H' a (sh6 k c)→Q (.ref a) H'
theorem QD {k:Nat} {Z5 Zb Z7 Za Z8 Z6 Zc Z9 Z2 Z3 Z4 Z1 Z0:Addr} {c_law_asked P_law_asked:Addr} (R:g.Raw "_law_shape" "_law_shape" Z1M ["_law_kind","_law_cell"]) (Z1Z:g.Fn k "_law_signs" ["_law_cell","_law_many"] (Z3K)):g.Fn (k+1) "_law_shape" ["_law_kind","_law_cell"] (Z3L):=by
 refine R.fn Qk (fun vs H Q E h=>by obtain ⟨k,c,rfl,hk,c0,c1,q⟩:=h;rfl) fun f_ cdv A outer s H vs Q E hr h=>?_
 obtain ⟨k,c,rfl,hk,c0,c1,q⟩:=h
 refine ⟨_,(@Yf _ _ _ _ _ (@YO _ _ _ _ _ _ _ _ (@Yr _ _ _ _ _ _ _ _ Xd (pv 0) Yj (Yv _)) (@Yh _ _ _ (@Yl _ _ _ _ (@YZ _ _ _ _ _ (@Ya _ _ _ _ _ YF (@Ya _ _ _ _ _ (@YK _ _ _ _ _ _ _ _ _ _ _ _ Z1Z hr (@Ya _ _ _ _ _ (pv 1) (@Ya _ _ _ _ _ (@Yn _ _ _ _ _ _ _ _ Y1 Yj (@Yn _ _ _ _ _ _ _ _ Y9 (pv 1) Yj)) Yd (by rfl)) (by rfl)) (by omega) (by rfl) (by rfl) (by decide) (by rfl) (by rfl)) Yd (by rfl)) (by rfl))))) Yt) (@Yf _ _ _ _ _ (@YO _ _ _ _ _ _ _ _ (@Yr _ _ _ _ _ _ _ _ Xd (pv 0) Yj (Yv _)) (@Yh _ _ _ (@Yl _ _ _ _ (@YZ _ _ _ _ _ (@Ya _ _ _ _ _ YF (@Ya _ _ _ _ _ (@YZ _ _ _ _ _ (@Ya _ _ _ _ _ YF (@Ya _ _ _ _ _ (@Yn _ _ _ _ _ _ _ _ Y9 (pv 1) (@Yn _ _ _ _ _ _ _ _ U2 Yj Yj)) (@Ya _ _ _ _ _ (@Yn _ _ _ _ _ _ _ _ Y9 (pv 1) (@Yn _ _ _ _ _ _ _ _ U2 Yj Yj)) Yd (by rfl)) (by rfl)) (by rfl))) Yd (XG _ _ _ _ _)) (by rfl))))) Yt) (@Yh _ _ _ (@Yl _ _ _ _ (@YZ _ _ _ _ _ (@Ya _ _ _ _ _ YF (@Ya _ _ _ _ _ (@YZ _ _ _ _ _ (@Ya _ _ _ _ _ (@YZ _ _ _ _ _ (@Ya _ _ _ _ _ YF (@Ya _ _ _ _ _ (@YK _ _ _ _ _ _ _ _ _ _ _ _ Z1Z hr (@Ya _ _ _ _ _ (pv 1) (@Ya _ _ _ _ _ (@Yn _ _ _ _ _ _ _ _ Y1 Yj (@Yn _ _ _ _ _ _ _ _ Y9 (pv 1) Yj)) Yd (by rfl)) (by rfl)) (by omega) (by rfl) (by rfl) (by decide) (by rfl) (by rfl)) Yd (by rfl)) (by rfl))) (@Ya _ _ _ _ _ (@YZ _ _ _ _ _ (@Ya _ _ _ _ _ YF (@Ya _ _ _ _ _ (@YK _ _ _ _ _ _ _ _ _ _ _ _ Z1Z hr (@Ya _ _ _ _ _ (@Yn _ _ _ _ _ _ _ _ Wu (pv 1) Yj) (@Ya _ _ _ _ _ (@Yn _ _ _ _ _ _ _ _ Y1 Yj (@Yn _ _ _ _ _ _ _ _ Y9 (@Yn _ _ _ _ _ _ _ _ Wu (pv 1) Yj) Yj)) Yd (by rfl)) (by rfl)) (by omega) (by rfl) (by rfl) (by decide) (by rfl) (by rfl)) Yd (by rfl)) (by rfl))) Yd (XG _ _ _ _ _)) (XG _ _ _ _ _))) Yd (XG _ _ _ _ _)) (by rfl))))))),?_⟩
 have:k=0∨k=1∨k=2:=by omega
 walk_at "rd"
 rcases this with rfl | rfl | rfl
 ·refine Xs rfl ⟨by decide,c,(1+c%62).toNat,by rw [Int.toNat_of_nonneg (by omega)],by omega,fun H1 s1=>⟨few (by decide),fun p hp=>q p _ (s1.trans (.upd_new hp _)) ⟨QB _ _,Yc⟩⟩⟩
 ·refine YL (by decide) (Xs rfl ⟨cpow,by decide,cpow,by decide,few (by decide),fun p hp=>⟨few (by decide),fun p2 hp2=>?_⟩⟩)
  have u1:=Yk.upd_new hp (.tup [V.str (Str.ofString "whole"),V.int (c%10^Int.toNat 60),V.int (c%10^Int.toNat 60)])
  have u2:=Yk.upd_new hp2 (.tup [V.str (Str.ofString "many"),V.ref p])
  exact q p2 _ (u1.trans u2) ⟨p,Yc,u2 _ _ Yc⟩
 ·refine YL (by decide) (YL (by decide) ⟨by decide,c,(1+c%5).toNat,by rw [Int.toNat_of_nonneg (by omega)],by omega,fun H1 s1=>⟨few (by decide),fun p hp=>⟨WD (by decide) (by decide),WD (by decide) (by decide),by decide,c / 5,(1+c / 5%5).toNat,by rw [Int.toNat_of_nonneg (by omega)],by omega,fun H2 s2=>⟨few (by decide),fun p1 hp1=>⟨few (by decide),fun p2 hp2=>⟨few (by decide),fun p3 hp3=>?_⟩⟩⟩⟩⟩⟩)
  have u0:=Yk.upd_new hp (.tup [V.str (Str.ofString "text"),V.str (S (sgn c (1+c%5).toNat))])
  have u1:=Yk.upd_new hp1 (.tup [V.str (Str.ofString "text"),V.str (S (sgn (c / 5) (1+c / 5%5).toNat))])
  have u2:=Yk.upd_new hp2 (.tup [V.ref p,V.ref p1])
  have u3:=Yk.upd_new hp3 (.tup [V.str (Str.ofString "row"),V.ref p2])
  exact q p3 _ (((s1.trans u0).trans s2).trans ((u1.trans u2).trans u3)) ⟨p2,p,p1,Yc,u3 _ _ Yc,⟨QB _ _,(s2.trans ((u1.trans u2).trans u3)) _ _ Yc⟩,QB _ _,(u2.trans u3) _ _ Yc⟩
def Z3M:Sp:=fun vs H Q _=>∃ (n t:Nat),vs=[.int (n:Nat),.int (t:Nat)]∧n≤62∧t≤20∧Q (.int ((n:Int)^t)) H
theorem QE {Z5 Zb Z7 Za Z8 Z6 Zc Z9 Z2 Z3 Z4 Z1 Z0:Addr} {c_law_asked P_law_asked:Addr} (R:g.Raw "_law_power" "_law_power" Z1N ["_law_number","_law_times"]) (Zu:g.mg "range"=none):g.Fn (1) "_law_power" ["_law_number","_law_times"] (Z3M):=by
 refine R.fn Z1j (fun vs H Q E h=>by obtain ⟨n,t,rfl,hn,ht,q⟩:=h;rfl) fun f_ cdv A outer s H vs Q E hr h=>?_
 obtain ⟨n,t,rfl,hn,ht,q⟩:=h
 refine ⟨_,(@Yf _ _ _ _ _ (@Yp _ _ (2) _ _ _ _ Z1j.nd rfl (.inl rfl) Yj (by rfl) (by first | exact .inl rfl | exact .inr rfl | assumption)) (@Yf _ _ _ _ _ (@Xz _ _ _ _ _ _ _ _ PassesOwn.never rfl (@Xc _ _ _ _ _ _ rfl Zu (@Ya _ _ _ _ _ (pv 1) Yd (by rfl)) (by rfl)) (@YJ _ _ (3) _ Z1j.nd rfl (.inl rfl) (by first | exact .inl rfl | exact .inr rfl | assumption)) (@Yh _ _ _ (@Yp _ _ (2) _ _ _ _ Z1j.nd rfl (.inl rfl) (@Yn _ _ _ _ _ _ _ _ XX (pv 2) (pv 0)) (by rfl) (by first | exact .inl rfl | exact .inr rfl | assumption))) (by intro _;rfl)) (@Yh _ _ _ (@Yl _ _ _ _ (pv 2))))),?_⟩
 walk_at "rd"
 refine X5 (n:=t) (fun i σ H'=>H'=H∧∃ o,σ=[some (.int n),some (.int t),some (.int ((n:Int)^i)),o]) (fun R r=>by walk_at "rd";exact r) (by omega) ⟨rfl,none,rfl⟩ ?_ ?_
 ·rintro i σ H' hi ⟨rfl,o,rfl⟩
  walk_at "rd"
  refine ⟨.inl (cm (m:=6*i+1) (n:=6) (VZ hn i) (by omega) (by omega)),?_⟩
  rw [Int.pow_succ]
 ·rintro σ H' ⟨rfl,o,rfl⟩
  walk_at "rd"
  exact q
theorem Ydg (s2:List Nat) (k:Nat):r1 s2 k=cnt (.t s2) k:=by
 unfold r1
 rw [List.range_succ,List.map_append,List.sum_append]
 have z:((List.range k).map fun j=>cnt (.t s2) j*r2 (k - j)).sum=0:=VE fun x hx=>by
  obtain ⟨j,hj,rfl⟩:=List.mem_map.mp hx
  have hj:=List.mem_range.mp hj
  rw [r2,if_neg (by omega),Int.mul_zero]
 rw [z]
 simp [r2]
def Z3N:Sp:=fun vs H Q _=>∃ (k:Nat) (c:Int) (n:Nat),vs=[.int (k:Nat),.int c,.int (n:Nat)]∧k≤2∧0≤c∧n≤16∧Q (.int (cn (sh6 k c) n)) H
theorem QF {k:Nat} {Z5 Zb Z7 Za Z8 Z6 Zc Z9 Z2 Z3 Z4 Z1 Z0:Addr} {c_law_asked P_law_asked:Addr} (R:g.Raw "_law_count" "_law_count" Z1O ["_law_kind","_law_cell","_law_size"]) (Z20:g.Fn k "_law_power" ["_law_number","_law_times"] (Z3M)) (Zu:g.mg "range"=none):g.Fn (k+1) "_law_count" ["_law_kind","_law_cell","_law_size"] (Z3N):=by
 refine R.fn Z1k (fun vs H Q E h=>by obtain ⟨k,c,n,rfl,hk,c0,hn,q⟩:=h;rfl) fun f_ cdv A outer s H vs Q E hr h=>?_
 obtain ⟨k,c,n,rfl,hk,c0,hn,q⟩:=h
 refine ⟨_,(@Yf _ _ _ _ _ (@YO _ _ _ _ _ _ _ _ (@Yr _ _ _ _ _ _ _ _ Xd (pv 0) Yj (Yv _)) (@Yh _ _ _ (@Yl _ _ _ _ (@YK _ _ _ _ _ _ _ _ _ _ _ _ Z20 hr (@Ya _ _ _ _ _ (@Yn _ _ _ _ _ _ _ _ Y1 Yj (@Yn _ _ _ _ _ _ _ _ Y9 (pv 1) Yj)) (@Ya _ _ _ _ _ (pv 2) Yd (by rfl)) (by rfl)) (by omega) (by rfl) (by rfl) (by decide) (by rfl) (by rfl)))) Yt) (@Yf _ _ _ _ _ (@YO _ _ _ _ _ _ _ _ (@Yr _ _ _ _ _ _ _ _ Xd (pv 0) Yj (Yv _)) (@Yh _ _ _ (@Yl _ _ _ _ Yj)) Yt) (@Yf _ _ _ _ _ (@Yp _ _ (3) _ _ _ _ Z1k.nd rfl (.inl rfl) Yj (by rfl) (by first | exact .inl rfl | exact .inr rfl | assumption)) (@Yf _ _ _ _ _ (@Xz _ _ _ _ _ _ _ _ PassesOwn.never rfl (@Xc _ _ _ _ _ _ rfl Zu (@Ya _ _ _ _ _ (@Yn _ _ _ _ _ _ _ _ Y1 (pv 2) Yj) Yd (by rfl)) (by rfl)) (@YJ _ _ (4) _ Z1k.nd rfl (.inl rfl) (by first | exact .inl rfl | exact .inr rfl | assumption)) (@Yh _ _ _ (@Yp _ _ (3) _ _ _ _ Z1k.nd rfl (.inl rfl) (@Yn _ _ _ _ _ _ _ _ Y1 (pv 3) (@Yn _ _ _ _ _ _ _ _ XX (@YK _ _ _ _ _ _ _ _ _ _ _ _ Z20 hr (@Ya _ _ _ _ _ (@Yn _ _ _ _ _ _ _ _ Y1 Yj (@Yn _ _ _ _ _ _ _ _ Y9 (pv 1) Yj)) (@Ya _ _ _ _ _ (pv 4) Yd (by rfl)) (by rfl)) (by omega) (by rfl) (by rfl) (by decide) (by rfl) (by rfl)) (@YK _ _ _ _ _ _ _ _ _ _ _ _ Z20 hr (@Ya _ _ _ _ _ (@Yn _ _ _ _ _ _ _ _ Y1 Yj (@Yn _ _ _ _ _ _ _ _ Y9 (@Yn _ _ _ _ _ _ _ _ Wu (pv 1) Yj) Yj)) (@Ya _ _ _ _ _ (@Yn _ _ _ _ _ _ _ _ XA (pv 2) (pv 4)) Yd (by rfl)) (by rfl)) (by omega) (by rfl) (by rfl) (by decide) (by rfl) (by rfl)))) (by rfl) (by first | exact .inl rfl | exact .inr rfl | assumption))) (by intro _;rfl)) (@Yh _ _ _ (@Yl _ _ _ _ (pv 3))))))),?_⟩
 have:k=0∨k=1∨k=2:=by omega
 rcases this with rfl | rfl | rfl
 ·walk_at "rd"
  have e:cn (sh6 0 c) n=(((1+c%62).toNat:Nat):Int)^n:=by
   show ((sgn c (1+c%62).toNat).length:Int)^n=_
   rw [Xb]
  rw [e] at q
  exact Xs rfl ⟨by decide,(1+c%62).toNat,n,by rw [Int.toNat_of_nonneg (by omega)],by omega,by omega,q⟩
 ·walk_at "rd"
  have e:cn (sh6 1 c) n=1:=mc1 n
  rw [e] at q
  exact YL (by decide) (Xs rfl q)
 ·have e:cn (sh6 2 c) n=((List.range (n+1)).map fun j=>(((1+c%5).toNat:Nat):Int)^j*(((1+c / 5%5).toNat:Nat):Int)^(n - j)).sum:=by
   show r0 _ _ n=_
   unfold r0
   refine congrArg List.sum (List.map_congr_left fun j _=>?_)
   rw [Ydg]
   show ((sgn c (1+c%5).toNat).length:Int)^j*((sgn (c / 5) (1+c / 5%5).toNat).length:Int)^(n - j)=_
   rw [Xb,Xb]
  rw [e] at q
  walk_at "rd"
  refine YL (by decide) (YL (by decide) ?_)
  refine X5 (n:=n+1) (fun i σ H'=>H'=H∧∃ o,σ=[some (.int (2:Nat)),some (.int c),some (.int n),some (.int ((List.range i).map fun j=>(((1+c%5).toNat:Nat):Int)^j*(((1+c / 5%5).toNat:Nat):Int)^(n - j)).sum),o]) (fun R r=>by walk_at "rd";exact r) (by omega) ⟨rfl,none,rfl⟩ ?_ ?_
  ·rintro i σ H' hi ⟨rfl,o,rfl⟩
   walk_at "rd"
   refine ⟨by decide,(1+c%5).toNat,i,by rw [Int.toNat_of_nonneg (by omega)],by omega,by omega,WD (by decide) (by decide),by decide,(1+c / 5%5).toNat,n - i,by rw [Int.toNat_of_nonneg (by omega),show (n:Int) - (i:Int)=((n - i:Nat):Int) by omega],by omega,by omega,_,rfl,_,rfl,.inl (cm (VZ (by omega) i) (VZ (by omega) (n - i)) (by omega)),rfl,?_⟩
   rw [List.range_succ,List.map_append,List.sum_append]
   simp
  ·rintro σ H' ⟨rfl,o,rfl⟩
   walk_at "rd"
   exact q
theorem YcW {K:PySem.W.Frag} {cv:Value} {t:TBd} {j:Nat} {ts:TS} {D:Ends} {σ:St} {H:Hp} (h:∀ E:XK,(∀ cls dc H2,(PySem.W.exmOne K cls cv=some true∧∀ a,H2 a=none→ts (D.gone j) (σ.set j (some (.ref a))) (upd H2 a (Wa a cls dc)))→E cls dc H2)→t D.nx E σ H):Ydb K cv t j ts D σ H:=h _ fun _ _ _ z=>z
theorem jd_ok {g:Gx} {H:Hp} {f c cell A:Addr} {doc pm ctv:Value} (h:ClZ H f c (ZF [("_law_asked_here",cell)] c doc pm ctv) ZB [("_law_asked_here",cell,.ref A)]):Vi g H f A:=by
 have F:=Z1C (g:=g) (k:=1) (Z5:=0) (Zb:=0) (Z7:=0) (Za:=0) (Z8:=0) (Z6:=0) (Zc:=0) (Z9:=0) (Z2:=0) (Z3:=0) (Z4:=0) (Z1:=0) (Z0:=0) (f_:=f) (c_:=c) (doc:=doc) (pm:=pm) (ctv:=ctv) (l:=[("_law_asked_here",cell,.ref A)]) rfl (by simp [Yu.as])
 refine ⟨_,_,⟨F,fun us hl=>?_⟩,h.1,fun H1 x xs Q n hA hl q=>?_⟩
 ·match us,hl with
  | [_],_=>rfl
 ·obtain ⟨o,hz⟩:=h.2.2 _ (.head _)
  have hz1:=n.2.2 _ _ _ hz
  have hne:A≠cell:=Yq hA hz1 (by intro z;cases z)
  have hc:ClZ H1 f c (ZF [("_law_asked_here",cell)] c doc pm ctv) ZB [("_law_asked_here",cell,.ref A)]:=⟨n.2.1 _ _ h.1,n.2.1 _ _ h.2.1,fun p hp=>by
   obtain ⟨o',z⟩:=h.2.2 p hp
   exact ⟨o',n.2.2 _ _ _ z⟩⟩
  have nin:A∉Yu.as [("_law_asked_here",cell,V.ref A)]:=fun z=>hne (by simpa [Yu.as] using z)
  refine ⟨hc.1,hc,A,xs,x,rfl,rfl,by rw [YT nin];exact hA,hl,fun _=>?_⟩
  have e:on (upd (off H1 (Yu.as [("_law_asked_here",cell,V.ref A)])) A (.lst (xs++[x]))) H1 (Yu.as [("_law_asked_here",cell,V.ref A)])=upd H1 A (.lst (xs++[x])):=by
   funext b
   by_cases hb:b∈Yu.as [("_law_asked_here",cell,V.ref A)]
   ·rw [YaX hb,Yb (fun z:b=A=>nin (z▸hb))]
   ·rw [X8 hb]
    by_cases hbA:b=A
    ·subst hbA;rw [Yc,Yc]
    ·rw [Yb hbA,Yb hbA,YT hb]
  rw [e]
  exact q
def XI (H:Hp) (P:Addr):Prop:=H P=some (.tbl #[])∨∃ c,H P=some (.tbl #[rawInt 430,rawInt 4,.ref c])∧H c=some (CdO c ZB)
theorem XI.keep {H H':Hp} {P:Addr} (h:XI H P) (s:Yk H H'):XI H' P:=by
 rcases h with h | ⟨c,h1,h2⟩
 ·exact .inl (s _ _ h)
 ·exact .inr ⟨c,s _ _ h1,s _ _ h2⟩
def bnd (mo:V) (m:Int):Prop:=(mo = .non∧m=400)∨mo = .int m
def QG (g:Gx) (P:Addr):Sp:=fun vs H Q _=>∃ (b:V) (a:Addr) (sh:Q6) (n:Nat) (mo:V) (m:Int),vs=[b,.ref a,.int (n:Nat),mo]∧XH H a sh∧okq sh∧n≤16∧bnd mo m∧(tot sh (n+1)≤m→tot sh (n+1)≤40)∧XI H P∧∀ t H',XI H' P→(∀ q o,q≠P→H q=some o→H' q=some o)→(m<tot sh (n+1)→H' t=some (.tup [.str "refused",.int (tot sh (n+1)),.int m]))→(tot sh (n+1)≤m→∃ u,H' t=some (.tup [.ref u,.int (tot sh (n+1)),.int 0])∧H' u=some (.tup [.str "held",.int (tot sh (n+1)),.non]))→Q (.ref t) H'
theorem QH {k:Nat} {Z5 Zb Z7 Za Z8 Z6 Zc Z9 Z2 Z3 Z4 Z1 Z0:Addr} {c_law_asked P_law_asked:Addr} (R:g.RawT "_law_asked" "_law_asked" Z18 ["_law_book","_law_shape_here","_law_size","_law_most"] c_law_asked) (bm:Bm g.mg g.base) (Cd_law_asked:PySem.W.CodeHd g.base c_law_asked P_law_asked) (F_tried:g.FnDX k "tried" ["book","shape","judge","size","most"] [.int 400] (Z3J g Z6)) (Z1r:g.Fn k "_law_whole" ["_law_found"] (Z1y)) (xn_TooMany_count:PySem.W.findIn g.K (.ref Z6) "count"=some none) (xn_TooMany_most:PySem.W.findIn g.K (.ref Z6) "most"=some none) (Z10:g.mg "ValueError"=none) (Zw:g.mg "isinstance"=none) (b_len:g.mg "len"=none) (x_CountError:g.mg "CountError"=some (.ref Z5)) (x_NoBreach:g.mg "NoBreach"=some (.ref Z8)) (x_NoDraw:g.mg "NoDraw"=some (.ref Zb)) (x_NoNumber:g.mg "NoNumber"=some (.ref Z7)) (x_NoValue:g.mg "NoValue"=some (.ref Za)) (x_TooMany:g.mg "TooMany"=some (.ref Z6)) (t_TooMany:ExcT g.K Z6) (i_TooMany_CountError:PySem.W.kitOne g.K (.ref Z6) (.ref Z5)=some true) (i_TooMany_ValueError:PySem.W.kitOne g.K (.ref Z6) (.type "ValueError")=some true) (i_TooMany_NoDraw:PySem.W.kitOne g.K (.ref Z6) (.ref Zb)=some false) (i_TooMany_NoNumber:PySem.W.kitOne g.K (.ref Z6) (.ref Z7)=some false) (i_TooMany_NoValue:PySem.W.kitOne g.K (.ref Z6) (.ref Za)=some false) (i_TooMany_NoBreach:PySem.W.kitOne g.K (.ref Z6) (.ref Z8)=some false) (m_TooMany_TooMany:PySem.W.exmOne g.K (.ref Z6) (.ref Z6)=some true):g.FnX (k+1) "_law_asked" ["_law_book","_law_shape_here","_law_size","_law_most"] (QG g P_law_asked):=by
 refine R.fnX ZT (fun vs H Q E h=>by obtain ⟨b,a,sh,n,mo,m,rfl,ha,ho,hn,hb,h40,hT,q⟩:=h;rfl) fun f_ A outer s H vs Q E hr h=>?_
 obtain ⟨b,a,sh,n,mo,m,rfl,ha,ho,hn,hb,h40,hT,q⟩:=h
 refine ⟨_,(@Yf _ _ _ _ _ (PS.nox (@Yp _ _ (4) _ _ _ _ ZT.nd rfl (.inr rfl) (@Xq _ _ _ _ Yd) (by rfl) (by first | exact .inl rfl | exact .inr rfl | assumption))) (@Yf _ _ _ _ _ (PS.nox (@Yep _ _ _ _ _ _ _ _ _ _ 5 bm Cd_law_asked rfl rfl ZT.nd rfl (.inl rfl) (Eq.trans rfl Wz) rfl rfl rfl (.inr rfl))) (@Yf _ _ _ _ _ (PS.nox (@Yp _ _ (6) _ _ _ _ ZT.nd rfl (.inl rfl) X6 (by rfl) (by first | exact .inl rfl | exact .inr rfl | assumption))) (@Yf _ _ _ _ _ (PS.nox (@Yp _ _ (7) _ _ _ _ ZT.nd rfl (.inl rfl) X6 (by rfl) (by first | exact .inl rfl | exact .inr rfl | assumption))) (@Yf _ _ _ _ _ (PS.nox (@YdO _ _ (8) _ _ _ _ _ _ _ _ _ _ _ (@pb_if _ _ _ _ _ _ _ _ (@Yr _ _ _ _ _ _ _ _ Ybp (pv 3) X6 (Yv _)) (YcO (i:=6) F_tried hr ZT.nd rfl (.inl rfl) (@Ya _ _ _ _ _ (pv 0) (@Ya _ _ _ _ _ (pv 1) (@Ya _ _ _ _ _ (pv 5) (@Ya _ _ _ _ _ (pv 2) Yd (by rfl)) (by rfl)) (by rfl)) (by rfl))) (YdP (i:=6) F_tried.full hr ZT.nd rfl (.inl rfl) (@Ya _ _ _ _ _ (pv 0) (@Ya _ _ _ _ _ (pv 1) (@Ya _ _ _ _ _ (pv 5) (@Ya _ _ _ _ _ (pv 2) (@Ya _ _ _ _ _ (pv 3) Yd (by rfl)) (by rfl)) (by rfl)) (by rfl)) (by rfl)))) ZT.nd rfl rfl x_TooMany (fun _=>(@Yh _ _ _ (@Yp _ _ (7) _ _ _ _ ZT.nd rfl (.inl rfl) (pv 8) (by rfl) (by first | exact .inl rfl | exact .inr rfl | assumption)))) (by rfl) (by rfl) (by rfl) (by rfl) (by decide))) (@Yf _ _ _ _ _ (PS.nox (@YO _ _ _ _ _ _ _ _ (@Yr _ _ _ _ _ _ _ _ Ybp (pv 7) X6 (Yv _)) (@Yh _ _ _ (@Yl _ _ _ _ (@YZ _ _ _ _ _ (@Ya _ _ _ _ _ (pv 6) (@Ya _ _ _ _ _ (@YD _ _ _ _ _ _ _ _ _ _ b_len Yx (@Ya _ _ _ _ _ (pv 4) Yd (by rfl)) (by decide +kernel) (by rfl) (by rfl) (by decide) (by decide) (by rfl) (by rfl)) (@Ya _ _ _ _ _ Yj Yd (by rfl)) (by rfl)) (by rfl))))) Yt)) (@Yf _ _ _ _ _ (PS.nox (@YO _ _ _ _ _ _ _ _ (PW.pt (@WT _ _ _ _ _ _ _ (@Xp _ _ _ _ (@Y7 _ _ _ (@YD _ _ _ _ _ _ _ _ _ _ Zw (Xa (K:=g.K) t_TooMany) (@Ya _ _ _ _ _ (pv 7) (@Ya _ _ _ _ _ (@Ww _ _ _ _ _ x_CountError (by rfl) (by rfl) (by decide)) Yd (by rfl)) (by rfl)) (by decide +kernel) (by rfl) (by rfl) (by decide) (by decide) (by rfl) (by rfl)) (by intro _;rfl))) (@WT _ _ _ _ _ _ _ (@Xp _ _ _ _ (@Y7 _ _ _ (@YD _ _ _ _ _ _ _ _ _ _ Zw (Xa (K:=g.K) t_TooMany) (@Ya _ _ _ _ _ (pv 7) (@Ya _ _ _ _ _ (@WV _ _ _ _ ("ValueError") Z10 (by decide +kernel) (by rfl) (by rfl) (by decide) (by decide)) Yd (by rfl)) (by rfl)) (by decide +kernel) (by rfl) (by rfl) (by decide) (by decide) (by rfl) (by rfl)) (by intro _;rfl))) (@W5 _ _ _ _ (@Yr _ _ _ _ _ _ _ _ (Yeg hr.units) (pv 4) (@Xq _ _ _ _ Yd) (Yv _)))))) (@Yh _ _ _ (@Yl _ _ _ _ (@YZ _ _ _ _ _ (@Ya _ _ _ _ _ YF (@Ya _ _ _ _ _ Yj (@Ya _ _ _ _ _ Yj Yd (by rfl)) (by rfl)) (by rfl))))) Yt)) (@Yf _ _ _ _ _ (PS.nox (@Xz _ _ _ _ _ _ _ _ PassesOwn.never rfl (@XV _ _ _ _ (@Xq _ _ _ _ (@Ya _ _ _ _ _ (@YD _ _ _ _ _ _ _ _ _ _ Zw (Xa (K:=g.K) t_TooMany) (@Ya _ _ _ _ _ (pv 7) (@Ya _ _ _ _ _ (@Ww _ _ _ _ _ x_NoDraw (by rfl) (by rfl) (by decide)) Yd (by rfl)) (by rfl)) (by decide +kernel) (by rfl) (by rfl) (by decide) (by decide) (by rfl) (by rfl)) (@Ya _ _ _ _ _ (@YD _ _ _ _ _ _ _ _ _ _ Zw (Xa (K:=g.K) t_TooMany) (@Ya _ _ _ _ _ (pv 7) (@Ya _ _ _ _ _ (@Ww _ _ _ _ _ x_NoNumber (by rfl) (by rfl) (by decide)) Yd (by rfl)) (by rfl)) (by decide +kernel) (by rfl) (by rfl) (by decide) (by decide) (by rfl) (by rfl)) (@Ya _ _ _ _ _ (@YD _ _ _ _ _ _ _ _ _ _ Zw (Xa (K:=g.K) t_TooMany) (@Ya _ _ _ _ _ (pv 7) (@Ya _ _ _ _ _ (@Ww _ _ _ _ _ x_NoValue (by rfl) (by rfl) (by decide)) Yd (by rfl)) (by rfl)) (by decide +kernel) (by rfl) (by rfl) (by decide) (by decide) (by rfl) (by rfl)) Yd (by rfl)) (by rfl)) (by rfl)))) (@YJ _ _ (9) _ ZT.nd rfl (.inl rfl) (by first | exact .inl rfl | exact .inr rfl | assumption)) (@Yh _ _ _ (@YO _ _ _ _ _ _ _ _ (PW.pt (@WT _ _ _ _ _ _ _ (@Y7 _ _ _ (pv 9) (by intro _;rfl)) (@W5 _ _ _ _ (@Y7 _ _ _ (@YD _ _ _ _ _ _ _ _ _ _ Zw (Xa (K:=g.K) t_TooMany) (@Ya _ _ _ _ _ (pv 7) (@Ya _ _ _ _ _ (@Ww _ _ _ _ _ x_NoBreach (by rfl) (by rfl) (by decide)) Yd (by rfl)) (by rfl)) (by decide +kernel) (by rfl) (by rfl) (by decide) (by decide) (by rfl) (by rfl)) (by intro _;rfl))))) (@Yh _ _ _ (@Yl _ _ _ _ (@YZ _ _ _ _ _ (@Ya _ _ _ _ _ YF (@Ya _ _ _ _ _ Yj (@Ya _ _ _ _ _ Yj Yd (by rfl)) (by rfl)) (by rfl))))) Yt)) (by intro _;rfl))) (@Yf _ _ _ _ _ (PS.nox (@YO _ _ _ _ _ _ _ _ (PW.pt (@WT _ _ _ _ _ _ _ (@Xp _ _ _ _ (@Y7 _ _ _ (@YK _ _ _ _ _ _ _ _ _ _ _ _ Z1r hr (@Ya _ _ _ _ _ (@UU _ _ _ _ _ _ _ t_TooMany xn_TooMany_count (pv 7) (by rfl) (by rfl)) Yd (by rfl)) (by omega) (by rfl) (by rfl) (by decide) (by rfl) (by rfl)) (by intro _;rfl))) (@W5 _ _ _ _ (@Xp _ _ _ _ (@Y7 _ _ _ (@YK _ _ _ _ _ _ _ _ _ _ _ _ Z1r hr (@Ya _ _ _ _ _ (@UU _ _ _ _ _ _ _ t_TooMany xn_TooMany_most (pv 7) (by rfl) (by rfl)) Yd (by rfl)) (by omega) (by rfl) (by rfl) (by decide) (by rfl) (by rfl)) (by intro _;rfl)))))) (@Yh _ _ _ (@Yl _ _ _ _ (@YZ _ _ _ _ _ (@Ya _ _ _ _ _ YF (@Ya _ _ _ _ _ Yj (@Ya _ _ _ _ _ Yj Yd (by rfl)) (by rfl)) (by rfl))))) Yt)) (@Yh _ _ _ (PS.nox (@Yl _ _ _ _ (@YZ _ _ _ _ _ (@Ya _ _ _ _ _ YF (@Ya _ _ _ _ _ (@UU _ _ _ _ _ _ _ t_TooMany xn_TooMany_count (pv 7) (by rfl) (by rfl)) (@Ya _ _ _ _ _ (@UU _ _ _ _ _ _ _ t_TooMany xn_TooMany_most (pv 7) (by rfl) (by rfl)) Yd (by rfl)) (by rfl)) (by rfl))))))))))))))),?_⟩
 obtain ⟨ps,hps⟩:∃ ps,H P_law_asked=some (.tbl ps):=by
  rcases hT with h | ⟨c,h,_⟩<;>exact ⟨_,h⟩
 refine YaM (fun σ H'=>∃ (As f c:Addr) (doc pm ctv:Value),σ=[some b,some (.ref a),some (.int n),some mo,some (.ref As),some (.ref f),none,none,none,none]∧H' As=some (.lst [])∧H' f=some (FnO f (ZF [("_law_asked_here",s.heap.objs.size+1)] c doc pm ctv))∧H' c=some (CdO c ZB)∧XI H' P_law_asked∧H As=none∧∀ q o,q≠P_law_asked→H q=some o→H' q=some o) ?_ ?_
 rotate_left
 ·intro N hN
  walk_at "rd"
  refine ⟨few (by decide),fun As hA=>?_⟩
  have w:=Yk.upd_new hA (.lst [])
  have nAP:As≠P_law_asked:=Ne.symm (Ye hps hA)
  rcases hT with hT | ⟨c0,hT,hc0⟩
  ·have hT':=w _ _ hT
   refine ⟨_,hT',trivial,.inl ⟨rfl,fun f c fd g1 g2 g3 ⟨doc,pm,ctv,e⟩=>?_⟩⟩
   subst e
   have fP:=Ye hT' g1
   have cP:=Ye hT' g2
   have fA:=Ye (Yc (H:=H) (a:=As) (o := .lst [])) g1
   have cA:=Ye (Yc (H:=H) (a:=As) (o := .lst [])) g2
   refine hN _ _ ⟨As,f,c,doc,pm,ctv,rfl,?_,by rw [Yc];rfl,by rw [Yb (Ne.symm g3),Yc],.inr ⟨c,by rw [Yb fP,Yb cP,Yc];rfl,by rw [Yb (Ne.symm g3),Yc]⟩,hA,fun x o nx e=>?_⟩
   ·rw [Yb fA,Yb cA,Yb nAP,Yc]
   ·rw [Yb (Ye (w _ _ e) g1),Yb (Ye (w _ _ e) g2),Yb nx]
    exact w _ _ e
  ·have hT':=w _ _ hT
   have hc':=w _ _ hc0
   refine ⟨_,hT',trivial,.inr ⟨c0,rfl,fun f fd g1 ⟨doc,pm,ctv,e⟩=>?_⟩⟩
   subst e
   have w2:=Yk.upd_new g1 (FnO f (ZF [("_law_asked_here",s.heap.objs.size+1)] c0 doc pm ctv))
   exact hN _ _ ⟨As,f,c0,doc,pm,ctv,rfl,w2 _ _ Yc,by rw [Yc];rfl,w2 _ _ hc',.inr ⟨c0,w2 _ _ hT',w2 _ _ hc'⟩,hA,fun x o nx e=>w2 _ _ (w _ _ e)⟩
 rintro σ H1 ⟨As,f,c,doc,pm,ctv,rfl,hA,hf,hc,hT1,hAn,hk1⟩
 refine YaM (fun σ H'=>H'=H1∧σ=[some b,some (.ref a),some (.int n),some mo,some (.ref As),some (.ref f),some .non,some .non,none,none]) ?_ ?_
 rotate_left
 ·intro N hN
  walk_at "rd"
  exact hN _ _ ⟨rfl,rfl⟩
 rintro σ H2 ⟨rfl,rfl⟩
 have nAold:∀ {b:Addr} {o:HO},H b=some o→b≠As:=fun e=>Ye e hAn
 have nPA:P_law_asked≠As:=Ye hps hAn
 have tabk:∀ H6,(∀ b o,b≠As→H2 b=some o→H6 b=some o)→XI H6 P_law_asked:=fun H6 k6=>by
  rcases hT1 with h | ⟨c1,h1,h2⟩
  ·exact .inl (k6 _ _ nPA h)
  ·exact .inr ⟨c1,k6 _ _ nPA h1,k6 _ _ (Yq h2 hA (by intro z;cases z)) h2⟩
 have kold:∀ {H6:Hp},(∀ b o,b≠As→H2 b=some o→H6 b=some o)→∀ q o,q≠P_law_asked→H q=some o→H6 q=some o:=fun k6 x o nx e=>k6 _ _ (nAold e) (hk1 _ _ nx e)
 refine cut1 (fun σ H3=>(∀ b o,b≠As→H2 b=some o→H3 b=some o)∧((tot sh (n+1)≤m∧∃ (t:Addr) (ys:List V),σ=[some b,some (.ref a),some (.int n),some mo,some (.ref As),some (.ref f),some (.ref t),some .non,none,none]∧H3 t=some (.tup [.str "held",.int (tot sh (n+1)),.non])∧H3 As=some (.lst ys)∧ys.length=(tot sh (n+1)).toNat)∨(m<tot sh (n+1)∧∃ (x d:Addr),σ=[some b,some (.ref a),some (.int n),some mo,some (.ref As),some (.ref f),some .non,some (.ref x),none,none]∧H3 x=some (Wa x (.ref Z6) (some d))∧H3 d=some (Xg d (Up (tot sh (n+1)) m))∧H3 As=some (.lst [])))) ?_ ?_
 rotate_left
 ·intro N hN
  refine YcW fun E' hE'=>?_
  have key:∀ (vs:List V),vs=[b,.ref a,.ref f,.int n,.int m]→(∀ c∈Yu.as [("_law_asked_here",s.heap.objs.size+1,V.ref As)],H2 c=none)→∀ Hz,UV H2 Hz [("_law_asked_here",s.heap.objs.size+1,V.ref As)]→Z3J g Z6 vs Hz (fun v H'=>N [some b,some (.ref a),some (.int n),some mo,some (.ref As),some (.ref f),some v,some .non,none,none] (off H' (Yu.as [("_law_asked_here",s.heap.objs.size+1,V.ref As)]))) fun c d H'=>E' c d (off H' (Yu.as [("_law_asked_here",s.heap.objs.size+1,V.ref As)])):=fun vs hvs hcell Hz hL=>by
   obtain ⟨L1,L2'⟩:=hL
   have hcn:H2 (s.heap.objs.size+1)=none:=hcell _ (by simp [Yu.as])
   obtain ⟨oz,hoz,_⟩:=L1 _ (.head _)
   have hoz:Hz (s.heap.objs.size+1)=some (.frz oz (WE (s.heap.objs.size+1) (.ref As))):=hoz
   have nC:∀ {z:Addr} {o:HO},H2 z=some o→z∉Yu.as [("_law_asked_here",s.heap.objs.size+1,V.ref As)]:=fun {z o} e y=>by
    have e1:z=s.heap.objs.size+1:=by simpa [Yu.as] using y
    rw [e1,hcn] at e;cases e
   have nF:∀ {H5:Hp} {z:Addr} {o:HO},H5 (s.heap.objs.size+1)=some (.frz oz (WE (s.heap.objs.size+1) (.ref As)))→(∀ x u,o ≠ .frz x u)→H5 z=some o→z∉Yu.as [("_law_asked_here",s.heap.objs.size+1,V.ref As)]:=fun {H5 z o} h5 no e y=>by
    have e1:z=s.heap.objs.size+1:=by simpa [Yu.as] using y
    rw [e1,h5] at e
    exact no _ _ (Option.some.inj e).symm
   have sz:Yk H2 Hz:=fun z o e=>by rw [L2' z (nC e)];exact e
   have jd:Vi g Hz f As:=jd_ok ⟨sz _ _ hf,sz _ _ hc,fun p hp=>by
    cases List.mem_singleton.mp hp
    exact ⟨oz,hoz⟩⟩
   have hAz:=sz _ _ hA
   have ha2:XH Hz a sh:=ha.kt fun z xs e=>sz _ _ (hk1 _ _ (Yq e hps (by intro z;cases z)) e)
   subst hvs
   refine ⟨b,a,f,As,sh,n,m,[],rfl,ha2,ho,hn,jd,hAz,by simp,fun hle=>⟨h40 hle,fun t ys H5 fr5 hA5 hyl ht5=>?_⟩,fun hlt H5 d s5 hd=>?_⟩
   ·have hc5:=fr5 _ _ (fun z=>by rw [z,hAz] at hoz;cases hoz) hoz
    refine hN _ _ ⟨fun z o nb e=>by rw [YT (nC e)];exact fr5 _ _ nb (sz _ _ e),.inl ⟨hle,t,ys,rfl,?_,?_,by simpa using hyl⟩⟩
    ·rw [YT (nF hc5 (by intro x u z;cases z) ht5)];exact ht5
    ·rw [YT (nF hc5 (by intro x u z;cases z) hA5)];exact hA5
   ·have hc5:=s5 _ _ hoz
    refine hE' _ _ _ ⟨m_TooMany_TooMany,fun x hx=>?_⟩
    walk_at "rd"
    have dC:d∉Yu.as [("_law_asked_here",s.heap.objs.size+1,V.ref As)]:=fun y=>by
     have e1:d=s.heap.objs.size+1:=by simpa [Yu.as] using y
     rw [e1,hc5] at hd;cases hd
    have old:∀ {z:Addr} {o:HO},H2 z=some o→off (upd H5 d (Xg d (Up (tot sh (n+1)) m))) (Yu.as [("_law_asked_here",s.heap.objs.size+1,V.ref As)]) z=some o:=fun e=>by
     have e5:=s5 _ _ (sz _ _ e)
     rw [YT (nC e),Yb (Ye e5 hd)];exact e5
    have hdx:off (upd H5 d (Xg d (Up (tot sh (n+1)) m))) (Yu.as [("_law_asked_here",s.heap.objs.size+1,V.ref As)]) d=some (Xg d (Up (tot sh (n+1)) m)):=by rw [YT dC];exact Yc
    exact hN _ _ ⟨fun z o nb e=>by rw [Yb (Ye (old e) hx)];exact old e,.inr ⟨hlt,x,d,rfl,Yc,by rw [Yb (Ye hdx hx)];exact hdx,by rw [Yb (Ye (old hA) hx)];exact old hA⟩⟩
  have cells:∀ (X:Cx),X=(g.cxX ["_law_book","_law_shape_here","_law_size","_law_most","_law_asked_here","_law_holds","_law_found","_law_error","e","_law_one"] "_law_asked" Z18 f_ (.ref c_law_asked) A outer s H E).nox→X0 X [some b,some (.ref a),some (.int n),some mo,some (.ref As),some (.ref f),some .non,some .non,none,none] [("_law_asked_here",s.heap.objs.size+1,.ref As)]:=fun X e=>by
   subst e
   refine ⟨by simp [Yu.as],fun z hz=>?_⟩
   cases List.mem_singleton.mp hz
   exact ⟨4,rfl,rfl,rfl,rfl⟩
  unfold tBif Qh
  walk_at "rd"
  rcases hb with ⟨rfl,rfl⟩ | rfl
  ·exact Xs rfl ⟨_,cells _ rfl,fun h Hz hL=>key _ rfl h Hz hL⟩
  ·exact YL (by intro z;cases z) ⟨_,cells _ rfl,fun h Hz hL=>key _ rfl h Hz hL⟩
 rintro σ H3 ⟨fr3,h3⟩
 have hap:∀ {H6:Hp},Yk H3 H6→(∀ b o,b≠As→H2 b=some o→H6 b=some o):=fun s6 b o nb e=>s6 _ _ (fr3 _ _ nb e)
 rcases h3 with ⟨hle,t,ys,rfl,ht,hA3,hyl⟩ | ⟨hlt,x,d,rfl,hx,hd,hA3⟩
 ·walk_at "rd"
  refine ⟨_,.inl (SqL.of hA3),few (by decide),fun r hr=>?_⟩
  have w:=Yk.upd_new hr (.tup [.ref t,.int (ys.length:Nat),.int 0])
  refine q r _ (tabk _ (hap w)) (kold (hap w)) (fun z=>absurd hle (by omega)) fun _=>⟨t,?_,w _ _ ht⟩
  rw [Yc,hyl,Int.toNat_of_nonneg (Uq _ _)]
 ·walk_at "rd"
  refine YL (by intro z;cases z) ⟨_,rfl,true,_,hx,i_TooMany_CountError,YL (by decide) ⟨_,rfl,true,_,hx,i_TooMany_ValueError,YL (by decide) ⟨few (by decide),fun p hp=>?_⟩⟩⟩
  have w1:=Yk.upd_new hp (.lst [])
  refine ⟨_,.lst (SqL.of (w1 _ _ hA3)) .nil,_,.lst (SqL.of Yc) .nil,by simp [PyData.depth,PyData.depthAll],?_⟩
  have e0:PyData.eqv (.list []) (.list [])=true:=by simp [PyData.eqv,PyData.eqvAll]
  rw [e0]
  refine YL (by decide) ?_
  refine WW (K:=g.K) (xs:=[.bl false,.bl false,.bl false]) (fun c i σ' H'=>∃ o,σ'=[some b,some (.ref a),some (.int n),some mo,some (.ref As),some (.ref f),some .non,some (.ref x),none,o]∧Yk H3 H'∧H' c=some (.lst [.bl false,.bl false,.bl false])) (fun R r=>?_) (fun c i σ' H' _ h=>by obtain ⟨o,_,_,h⟩:=h;exact SqL.of h) ?_ ?_
  ·walk_at "rd"
   refine ⟨_,rfl,false,_,w1 _ _ hx,i_TooMany_NoDraw,_,rfl,false,_,w1 _ _ hx,i_TooMany_NoNumber,_,rfl,false,_,w1 _ _ hx,i_TooMany_NoValue,few (by decide),fun c hc=>r _ _ ⟨none,rfl,w1.trans (.upd_new hc _),Yc⟩⟩
  ·rintro c i y σ' H' hy ⟨o,rfl,s',hc⟩
   have hy:y = .bl false:=by
    have:=List.mem_of_getElem? hy
    simpa using this
   subst hy
   walk_at "rd"
   exact ⟨_,rfl,false,_,s' _ _ hx,i_TooMany_NoBreach,YL (by decide) ⟨s',hc⟩⟩
  ·rintro c σ' H' ⟨o,rfl,s',hc⟩
   have hx':=s' _ _ hx
   have hd':=s' _ _ hd
   walk_at "rd"
   refine ⟨_,rfl,x,d,_,_,rfl,hx',hd',rfl,_,rfl,_,rfl,YL (by decide) ⟨_,rfl,x,d,_,_,rfl,hx',hd',rfl,_,rfl,_,rfl,YL (by decide) ⟨_,rfl,x,d,_,_,rfl,hx',hd',rfl,⟨_,rfl,x,d,_,_,rfl,hx',hd',rfl,few (by decide),fun r hr=>?_⟩⟩⟩⟩
   have w:=s'.trans (.upd_new hr (.tup [.str "refused",.int (tot sh (n+1)),.int m]))
   exact q r _ (tabk _ (hap w)) (kold (hap w)) (fun _=>Yc) fun z=>absurd hlt (by omega)
def Vr (g:Gx) (P:Addr):Sp:=fun vs H Q _=>∃ (b:V) (a:Addr) (sh:Q6) (n:Nat) (mo:V) (m:Int),vs=[b,.ref a,.int (n:Nat),mo,.int (tot sh (n+1))]∧XH H a sh∧okq sh∧n≤16∧bnd mo m∧XI H P∧∀ H',XI H' P→(∀ q o,q≠P→H q=some o→H' q=some o)→Q (.bl true) H'
theorem QX {k:Nat} {Z5 Zb Z7 Za Z8 Z6 Zc Z9 Z2 Z3 Z4 Z1 Z0:Addr} {c_law_asked P_law_asked:Addr} (R:g.Raw "_law_good" "_law_good" Z2L ["_law_book","_law_shape_here","_law_size","_law_most","_law_total"]) (Z1r:g.Fn k "_law_whole" ["_law_found"] (Z1y)) (Z47:g.FnX k "_law_asked" ["_law_book","_law_shape_here","_law_size","_law_most"] (QG g P_law_asked)) (Zw:g.mg "isinstance"=none) (b_len:g.mg "len"=none) (Z08:g.mg "tuple"=none):g.Fn (k+1) "_law_good" ["_law_book","_law_shape_here","_law_size","_law_most","_law_total"] (Vr g P_law_asked):=by
 refine R.fn Z1p (fun vs H Q E h=>by obtain ⟨b,a,sh,n,mo,m,rfl,ha,ho,hn,hb,hT,q⟩:=h;rfl) fun f_ cdv A outer s H vs Q E hr h=>?_
 obtain ⟨b,a,sh,n,mo,m,rfl,ha,ho,hn,hb,hT,q⟩:=h
 refine ⟨_,(@Yf _ _ _ _ _ (@Yp _ _ (5) _ _ _ _ Z1p.nd rfl (.inl rfl) Yj (by rfl) (by first | exact .inl rfl | exact .inr rfl | assumption)) (@Yf _ _ _ _ _ (@YO _ _ _ _ _ _ _ _ (@Yr _ _ _ _ _ _ _ _ Ydk (pv 3) X6 (Yv _)) (@Yh _ _ _ (@Yp _ _ (5) _ _ _ _ Z1p.nd rfl (.inl rfl) (pv 3) (by rfl) (by first | exact .inl rfl | exact .inr rfl | assumption))) Yt) (@Yf _ _ _ _ _ (@YO _ _ _ _ _ _ _ _ (@Yr _ _ _ _ _ _ _ _ UN (pv 4) (pv 5) (Yv _)) (@Yh _ _ _ (@Yl _ _ _ _ (@Vl _ _ _ _ _ _ _ _ (YbG hr.units) (@Qa _ _ _ _ _ _ _ _ _ _ _ _ _ Z47 hr YbN (@Ya _ _ _ _ _ (pv 0) (@Ya _ _ _ _ _ (pv 1) (@Ya _ _ _ _ _ (pv 2) (@Ya _ _ _ _ _ (pv 3) Yd (by rfl)) (by rfl)) (by rfl)) (by rfl)) (by omega) (by rfl) (by rfl) (by decide) (by rfl) (by rfl)) (@YZ _ _ _ _ _ (@Ya _ _ _ _ _ YF (@Ya _ _ _ _ _ (pv 4) (@Ya _ _ _ _ _ (pv 5) Yd (by rfl)) (by rfl)) (by rfl))) (Yv _)))) Yt) (@Yf _ _ _ _ _ (@YO _ _ _ _ _ _ _ _ (@Yr _ _ _ _ _ _ _ _ UN (pv 4) Yj (Yv _)) (@Yh _ _ _ (@Yl _ _ _ _ WA)) Yt) (@Yf _ _ _ _ _ (@Yp _ _ (6) _ _ _ _ Z1p.nd rfl (.inl rfl) (@Qa _ _ _ _ _ _ _ _ _ _ _ _ _ Z47 hr YbN (@Ya _ _ _ _ _ (pv 0) (@Ya _ _ _ _ _ (pv 1) (@Ya _ _ _ _ _ (pv 2) (@Ya _ _ _ _ _ (pv 3) Yd (by rfl)) (by rfl)) (by rfl)) (by rfl)) (by omega) (by rfl) (by rfl) (by decide) (by rfl) (by rfl)) (by rfl) (by first | exact .inl rfl | exact .inr rfl | assumption)) (@Yf _ _ _ _ _ (@YO _ _ _ _ _ _ _ _ (@WT _ _ _ _ _ _ _ (@Xp _ _ _ _ (@Y7 _ _ _ (@YD _ _ _ _ _ _ _ _ _ _ Zw Xo (@Ya _ _ _ _ _ (@YA _ _ _ _ _ _ _ Y2 (pv 6) Yj (fun _ _=>rfl)) (@Ya _ _ _ _ _ (@WV _ _ _ _ ("tuple") Z08 (by decide +kernel) (by rfl) (by rfl) (by decide) (by decide)) Yd (by rfl)) (by rfl)) (by decide +kernel) (by rfl) (by rfl) (by decide) (by decide) (by rfl) (by rfl)) (by intro _;rfl))) (@WT _ _ _ _ _ _ _ (@Yr _ _ _ _ _ _ _ _ op_ne (@YD _ _ _ _ _ _ _ _ _ _ b_len Yx (@Ya _ _ _ _ _ (@YA _ _ _ _ _ _ _ Y2 (pv 6) Yj (fun _ _=>rfl)) Yd (by rfl)) (by decide +kernel) (by rfl) (by rfl) (by decide) (by decide) (by rfl) (by rfl)) Yj (Yv _)) (@W5 _ _ _ _ (@Xp _ _ _ _ (@Y7 _ _ _ (@YK _ _ _ _ _ _ _ _ _ _ _ _ Z1r hr (@Ya _ _ _ _ _ (@YA _ _ _ _ _ _ _ Y2 (@YA _ _ _ _ _ _ _ Y2 (pv 6) Yj (fun _ _=>rfl)) Yj (fun _ _=>rfl)) Yd (by rfl)) (by omega) (by rfl) (by rfl) (by decide) (by rfl) (by rfl)) (by intro _;rfl)))))).pt (@Yh _ _ _ (@Yl _ _ _ _ WA)) Yt) (@Yh _ _ _ (@Yl _ _ _ _ (@UZ _ _ _ _ _ _ _ (@Vl _ _ _ _ _ _ _ _ (YbG hr.units) (@YA _ _ _ _ _ _ _ Y2 (pv 6) Yj (fun _ _=>rfl)) (@YZ _ _ _ _ _ (@Ya _ _ _ _ _ YF (@Ya _ _ _ _ _ (pv 4) (@Ya _ _ _ _ _ X6 Yd (by rfl)) (by rfl)) (by rfl))) (Yv _)) (@UY _ _ _ _ _ (@Vl _ _ _ _ _ _ _ _ Xd (@YA _ _ _ _ _ _ _ Y2 (pv 6) Yj (fun _ _=>rfl)) (pv 4) (Yv _)))))))))))),?_⟩
 refine YaM (fun σ H'=>H'=H∧σ=[some b,some (.ref a),some (.int n),some mo,some (.int (tot sh (n+1))),some (.int m),none]) ?_ ?_
 rotate_left
 ·intro N hN
  walk_at "rd"
  rcases hb with ⟨rfl,rfl⟩ | rfl
  ·exact YL (fun z=>z rfl) (hN _ _ ⟨rfl,rfl⟩)
  ·exact Xs (by intro z;cases z) (hN _ _ ⟨rfl,rfl⟩)
 rintro σ H1 ⟨rfl,rfl⟩
 walk_at "rd"
 refine Vy (fun z=>?_) (fun z=>Vy (fun z2=>?_) (fun z2=>?_))
 ·refine ⟨b,a,sh,n,mo,m,rfl,ha,ho,hn,hb,fun z3=>absurd z3 (by omega),hT,fun t H2 hT2 hk2 h1 _=>?_⟩
  have ht:=h1 z
  refine ⟨few (by decide),fun p hp=>?_⟩
  have w:=Yk.upd_new hp (.tup [V.str (Str.ofString "refused"),V.int (tot sh (n+1)),V.int m])
  have d1:Den g.K (upd H2 p (.tup [V.str (Str.ofString "refused"),V.int (tot sh (n+1)),V.int m])) (.ref t) (.tuple [.str "refused",.int (tot sh (n+1)),.int m]) := .tup (SqT.of (w _ _ ht)) (.cons (.str _ (by decide +kernel)) (.cons (.int _) (.cons (.int _) .nil)))
  have d2:Den g.K (upd H2 p (.tup [V.str (Str.ofString "refused"),V.int (tot sh (n+1)),V.int m])) (.ref p) (.tuple [.str "refused",.int (tot sh (n+1)),.int m]) := .tup (SqT.of Yc) (.cons (.str _ (by decide +kernel)) (.cons (.int _) (.cons (.int _) .nil)))
  refine ⟨_,d1,_,d2,by simp [PyData.depth,PyData.depthAll],?_⟩
  rw [PySem.SeqAt.eqv_refl _ d1.lay]
  exact q _ (hT2.keep w) fun x o nx e=>w _ _ (hk2 x o nx e)
 ·exact q _ hT fun _ _ _ e=>e
 ·refine ⟨b,a,sh,n,mo,m,rfl,ha,ho,hn,hb,fun z3=>by omega,hT,fun t H2 hT2 hk2 _ h2=>?_⟩
  obtain ⟨u,ht,hu⟩:=h2 (by omega)
  refine ⟨t,rfl,_,SqT.of ht,_,rfl,_,rfl,_,.tup hu,true,rfl,YL (by decide) ⟨t,rfl,_,SqT.of ht,_,rfl,u,rfl,_,.inr (SqT.of hu),YL (fun z=>z rfl) ⟨t,rfl,_,SqT.of ht,_,rfl,u,rfl,_,SqT.of hu,_,rfl,?_⟩⟩⟩
  refine ⟨_,rfl,_,rfl,YL (by decide) ⟨t,rfl,_,SqT.of ht,_,rfl,few (by decide),fun p hp=>?_⟩⟩
  have w:=Yk.upd_new hp (.tup [V.str (Str.ofString "held"),V.int (tot sh (n+1)),V.non])
  have d1:Den g.K (upd H2 p (.tup [V.str (Str.ofString "held"),V.int (tot sh (n+1)),V.non])) (.ref u) (.tuple [.str "held",.int (tot sh (n+1)),.none]) := .tup (SqT.of (w _ _ hu)) (.cons (.str _ (by decide +kernel)) (.cons (.int _) (.cons .non .nil)))
  have d2:Den g.K (upd H2 p (.tup [V.str (Str.ofString "held"),V.int (tot sh (n+1)),V.non])) (.ref p) (.tuple [.str "held",.int (tot sh (n+1)),.none]) := .tup (SqT.of Yc) (.cons (.str _ (by decide +kernel)) (.cons (.int _) (.cons .non .nil)))
  refine ⟨_,d1,_,d2,by simp [PyData.depth,PyData.depthAll],?_⟩
  rw [PySem.SeqAt.eqv_refl _ d1.lay]
  refine Xs rfl ⟨t,rfl,_,SqT.of (w _ _ ht),_,rfl,rfl,?_⟩
  rw [decide_eq_true rfl]
  exact q _ (hT2.keep w) fun x o nx e=>w _ _ (hk2 x o nx e)
theorem YdX {K:PySem.W.Frag} {H H':Hp} {P a:Addr} {xs:List V} {ps:Array Value} (h:SqL K H a xs) (hk:∀ b u,b≠P→H b=some u→H' b=some u) (hP:H P=some (.tbl ps)):SqL K H' a xs:=by
 rcases h with (h | ⟨o,h⟩) | h
 ·exact .inl (.inl (hk _ _ (Yq h hP (by intro z;cases z)) h))
 ·exact .inl (.inr ⟨o,hk _ _ (Yq h hP (by intro z;cases z)) h⟩)
 ·exact .inr h
theorem XI.tbl {H:Hp} {P:Addr} (h:XI H P):∃ ps,H P=some (.tbl ps):=by
 rcases h with h | ⟨c,h,_⟩<;>exact ⟨_,h⟩
theorem YdY (k:Nat) (c:Int):tot (sh6 k c) 1=1:=by
 rw [show (1:Nat)=0+1 from rfl,WZ]
 have:cn (sh6 k c) 0=1:=by
  match k with
  | 0=>exact Int.pow_zero _
  | 1=>exact mc1 0
  | _+2 =>
   show r0 _ _ 0=1
   unfold r0
   simp [Ydg,cnt]
 rw [this];rfl
def PvL (g:Gx) (P:Addr) (ns:List Int) (a sa:Addr) (sh:Q6) (H:Hp):Prop:=XI H P∧XH H sa sh∧SqL g.K H a (ns.map V.int)
theorem PvL.keep {g:Gx} {P:Addr} {ns:List Int} {a sa:Addr} {sh:Q6} {H H':Hp} (h:PvL g P ns a sa sh H) (s:Yk H H'):PvL g P ns a sa sh H':=⟨h.1.keep s,h.2.1.kt fun _ _ e=>s _ _ e,s.seq h.2.2⟩
theorem PvL.but {g:Gx} {P:Addr} {ns:List Int} {a sa:Addr} {sh:Q6} {H H':Hp} (h:PvL g P ns a sa sh H) (t:XI H' P) (k:∀ q o,q≠P→H q=some o→H' q=some o):PvL g P ns a sa sh H':=by
 obtain ⟨ps,hp⟩:=h.1.tbl
 exact ⟨t,h.2.1.kt fun _ _ e=>k _ _ (Yq e hp (by intro z;cases z)) e,YdX h.2.2 k hp⟩
theorem YcX {k:Nat} {Z5 Zb Z7 Za Z8 Z6 Zc Z9 Z2 Z3 Z4 Z1 Z0:Addr} {c_law_asked P_law_asked:Addr} (Z1t:g.Fn k "_law_cell_at" ["_law_script","_law_k"] (Z2r g.K)) (F_law_shape:g.Fn k "_law_shape" ["_law_kind","_law_cell"] (Z3L)) (F_law_count:g.Fn k "_law_count" ["_law_kind","_law_cell","_law_size"] (Z3N)) (Z11:g.Fn k "_law_good" ["_law_book","_law_shape_here","_law_size","_law_most","_law_total"] (Vr g P_law_asked)) (b_min:g.mg "min"=none) (Zu:g.mg "range"=none):Vb g k ["_law_script","_law_kind","_law_cell","_law_size","_law_book","_law_shape_here","_law_total","_law_k","_law_less","_law_other"] "law" UW (Vo g.K [("_law_asked",c_law_asked,P_law_asked)]):=by
 refine fun f_ cdv A outer s H vs Q E hr h=>?_
 obtain ⟨a,ns,rfl,hS,hl,ht,q⟩:=h
 refine ⟨_,(@Yf _ _ _ _ _ (@Yp _ _ (1) _ _ _ _ Xt.nd rfl (.inl rfl) (@Yn _ _ _ _ _ _ _ _ Y9 (@YK _ _ _ _ _ _ _ _ _ _ _ _ Z1t hr (@Ya _ _ _ _ _ (pv 0) (@Ya _ _ _ _ _ Yj Yd (by rfl)) (by rfl)) (by omega) (by rfl) (by rfl) (by decide) (by rfl) (by rfl)) Yj) (by rfl) (by first | exact .inl rfl | exact .inr rfl | assumption)) (@Yf _ _ _ _ _ (@Yp _ _ (2) _ _ _ _ Xt.nd rfl (.inl rfl) (@Yn _ _ _ _ _ _ _ _ Y9 (@YK _ _ _ _ _ _ _ _ _ _ _ _ Z1t hr (@Ya _ _ _ _ _ (pv 0) (@Ya _ _ _ _ _ Yj Yd (by rfl)) (by rfl)) (by omega) (by rfl) (by rfl) (by decide) (by rfl) (by rfl)) (@Yn _ _ _ _ _ _ _ _ U2 Yj Yj)) (by rfl) (by first | exact .inl rfl | exact .inr rfl | assumption)) (@Yf _ _ _ _ _ (@Yp _ _ (3) _ _ _ _ Xt.nd rfl (.inl rfl) (@Yn _ _ _ _ _ _ _ _ Y9 (@YK _ _ _ _ _ _ _ _ _ _ _ _ Z1t hr (@Ya _ _ _ _ _ (pv 0) (@Ya _ _ _ _ _ Yj Yd (by rfl)) (by rfl)) (by omega) (by rfl) (by rfl) (by decide) (by rfl) (by rfl)) Yj) (by rfl) (by first | exact .inl rfl | exact .inr rfl | assumption)) (@Yf _ _ _ _ _ (@Yp _ _ (4) _ _ _ _ Xt.nd rfl (.inl rfl) (@Xq _ _ _ _ (@Ya _ _ _ _ _ (@YZ _ _ _ _ _ (@Ya _ _ _ _ _ YF (@Ya _ _ _ _ _ (@YZ _ _ _ _ _ (@Ya _ _ _ _ _ YF (@Ya _ _ _ _ _ (@YZ _ _ _ _ _ Yd) Yd (XG _ _ _ _ _)) (by rfl))) Yd (XG _ _ _ _ _)) (by rfl))) Yd (XG _ _ _ _ _))) (by rfl) (by first | exact .inl rfl | exact .inr rfl | assumption)) (@Yf _ _ _ _ _ (@Yp _ _ (5) _ _ _ _ Xt.nd rfl (.inl rfl) (@YK _ _ _ _ _ _ _ _ _ _ _ _ F_law_shape hr (@Ya _ _ _ _ _ (pv 1) (@Ya _ _ _ _ _ (pv 2) Yd (by rfl)) (by rfl)) (by omega) (by rfl) (by rfl) (by decide) (by rfl) (by rfl)) (by rfl) (by first | exact .inl rfl | exact .inr rfl | assumption)) (@Yf _ _ _ _ _ (@Yp _ _ (6) _ _ _ _ Xt.nd rfl (.inl rfl) Yj (by rfl) (by first | exact .inl rfl | exact .inr rfl | assumption)) (@Yf _ _ _ _ _ (@Xz _ _ _ _ _ _ _ _ PassesOwn.never rfl (@Xc _ _ _ _ _ _ rfl Zu (@Ya _ _ _ _ _ (@Yn _ _ _ _ _ _ _ _ Y1 (pv 3) Yj) Yd (by rfl)) (by rfl)) (@YJ _ _ (7) _ Xt.nd rfl (.inl rfl) (by first | exact .inl rfl | exact .inr rfl | assumption)) (@Yh _ _ _ (@Yp _ _ (6) _ _ _ _ Xt.nd rfl (.inl rfl) (@Yn _ _ _ _ _ _ _ _ Y1 (pv 6) (@YK _ _ _ _ _ _ _ _ _ _ _ _ F_law_count hr (@Ya _ _ _ _ _ (pv 1) (@Ya _ _ _ _ _ (pv 2) (@Ya _ _ _ _ _ (pv 7) Yd (by rfl)) (by rfl)) (by rfl)) (by omega) (by rfl) (by rfl) (by decide) (by rfl) (by rfl))) (by rfl) (by first | exact .inl rfl | exact .inr rfl | assumption))) (by intro _;rfl)) (@Yf _ _ _ _ _ (@Yp _ _ (8) _ _ _ _ Xt.nd rfl (.inl rfl) (@YD _ _ _ _ _ _ _ _ _ _ b_min (W9 rfl) (@Ya _ _ _ _ _ (@Yn _ _ _ _ _ _ _ _ XA (pv 6) Yj) (@Ya _ _ _ _ _ Yj Yd (by rfl)) (by rfl)) (by decide +kernel) (by rfl) (by rfl) (by decide) (by decide) (by rfl) (by rfl)) (by rfl) (by first | exact .inl rfl | exact .inr rfl | assumption)) (@Yf _ _ _ _ _ (@YO _ _ _ _ _ _ _ _ (@Xp _ _ _ _ (@Y7 _ _ _ (@YK _ _ _ _ _ _ _ _ _ _ _ _ Z11 hr (@Ya _ _ _ _ _ (pv 4) (@Ya _ _ _ _ _ (pv 5) (@Ya _ _ _ _ _ (pv 3) (@Ya _ _ _ _ _ (pv 8) (@Ya _ _ _ _ _ (pv 6) Yd (by rfl)) (by rfl)) (by rfl)) (by rfl)) (by rfl)) (by omega) (by rfl) (by rfl) (by decide) (by rfl) (by rfl)) (by intro _;rfl))) (@Yh _ _ _ (@Yl _ _ _ _ WA)) Yt) (@Yf _ _ _ _ _ (@YO _ _ _ _ _ _ _ _ (@Xp _ _ _ _ (@Y7 _ _ _ (@YK _ _ _ _ _ _ _ _ _ _ _ _ Z11 hr (@Ya _ _ _ _ _ (pv 4) (@Ya _ _ _ _ _ (pv 5) (@Ya _ _ _ _ _ (pv 3) (@Ya _ _ _ _ _ (@YD _ _ _ _ _ _ _ _ _ _ b_min (W9 rfl) (@Ya _ _ _ _ _ (pv 6) (@Ya _ _ _ _ _ Yj Yd (by rfl)) (by rfl)) (by decide +kernel) (by rfl) (by rfl) (by decide) (by decide) (by rfl) (by rfl)) (@Ya _ _ _ _ _ (pv 6) Yd (by rfl)) (by rfl)) (by rfl)) (by rfl)) (by rfl)) (by omega) (by rfl) (by rfl) (by decide) (by rfl) (by rfl)) (by intro _;rfl))) (@Yh _ _ _ (@Yl _ _ _ _ WA)) Yt) (@Yf _ _ _ _ _ (@YO _ _ _ _ _ _ _ _ (@Xp _ _ _ _ (@Y7 _ _ _ (@YK _ _ _ _ _ _ _ _ _ _ _ _ Z11 hr (@Ya _ _ _ _ _ (pv 4) (@Ya _ _ _ _ _ (pv 5) (@Ya _ _ _ _ _ (pv 3) (@Ya _ _ _ _ _ X6 (@Ya _ _ _ _ _ (pv 6) Yd (by rfl)) (by rfl)) (by rfl)) (by rfl)) (by rfl)) (by omega) (by rfl) (by rfl) (by decide) (by rfl) (by rfl)) (by intro _;rfl))) (@Yh _ _ _ (@Yl _ _ _ _ WA)) Yt) (@Yf _ _ _ _ _ (@Xz _ _ _ _ _ _ _ _ PassesOwn.never rfl (@XV _ _ _ _ (@Ycj _ _ _ _ _ _ _ _ _ _ Ydt (pv 0) (@Q4 _ _ _ Yj) (@Q4 _ _ _ Yj))) (@YJ _ _ (9) _ Xt.nd rfl (.inl rfl) (by first | exact .inl rfl | exact .inr rfl | assumption)) (@Yh _ _ _ (@YO _ _ _ _ _ _ _ _ (@Xp _ _ _ _ (@Y7 _ _ _ (@YK _ _ _ _ _ _ _ _ _ _ _ _ Z11 hr (@Ya _ _ _ _ _ (pv 4) (@Ya _ _ _ _ _ (pv 5) (@Ya _ _ _ _ _ (pv 3) (@Ya _ _ _ _ _ (@Yn _ _ _ _ _ _ _ _ Y9 (pv 9) Yj) (@Ya _ _ _ _ _ (pv 6) Yd (by rfl)) (by rfl)) (by rfl)) (by rfl)) (by rfl)) (by omega) (by rfl) (by rfl) (by decide) (by rfl) (by rfl)) (by intro _;rfl))) (@Yh _ _ _ (@Yl _ _ _ _ WA)) Yt)) (by intro _;rfl)) (@Yh _ _ _ (@Yl _ _ _ _ (@UZ _ _ _ _ _ _ _ (@YK _ _ _ _ _ _ _ _ _ _ _ _ Z11 hr (@Ya _ _ _ _ _ (pv 4) (@Ya _ _ _ _ _ (pv 5) (@Ya _ _ _ _ _ Yj (@Ya _ _ _ _ _ Yj (@Ya _ _ _ _ _ Yj Yd (by rfl)) (by rfl)) (by rfl)) (by rfl)) (by rfl)) (by omega) (by rfl) (by rfl) (by decide) (by rfl) (by rfl)) (@UY _ _ _ _ _ (@YK _ _ _ _ _ _ _ _ _ _ _ _ Z11 hr (@Ya _ _ _ _ _ (pv 4) (@Ya _ _ _ _ _ (pv 5) (@Ya _ _ _ _ _ Yj (@Ya _ _ _ _ _ Yj (@Ya _ _ _ _ _ Yj Yd (by rfl)) (by rfl)) (by rfl)) (by rfl)) (by rfl)) (by omega) (by rfl) (by rfl) (by decide) (by rfl) (by rfl)))))))))))))))))),?_⟩
 have hT:H P_law_asked=some (.tbl #[]):=ht _ (.head _)
 refine cut5 (fun σ H'=>∃ (k n:Nat) (c:Int) (sa bk:Addr),k≤2∧n≤16∧0≤c∧PvL g P_law_asked ns a sa (sh6 k c) H'∧σ=[some (.ref a),some (.int k),some (.int c),some (.int n),some (.ref bk),some (.ref sa),none,none,none,none]) ?_ ?_
 rotate_left
 ·intro N hN
  walk_at "rd"
  refine ⟨a,ns,0,rfl,hS,hl,_,rfl,by decide,a,ns,1,rfl,hS,hl,cpow,_,rfl,by decide,a,ns,2,rfl,hS,hl,_,rfl,by decide,few (by decide),fun p hp=>⟨few (by decide),fun p1 hp1=>⟨few (by decide),fun p2 hp2=>⟨few (by decide),fun p3 hp3=>?_⟩⟩⟩⟩
  generalize ns.getD 0 0=x
  generalize ns.getD 1 0=y
  generalize ns.getD 2 0=z
  have w:=(((Yk.upd_new hp (.tup [])).trans (.upd_new hp1 _)).trans (.upd_new hp2 _)).trans (.upd_new hp3 (.lst [V.ref p2]))
  obtain ⟨k,hk,ek⟩:∃ k:Nat,k≤2∧x%3=(k:Int):=⟨(x%3).toNat,by omega,by omega⟩
  obtain ⟨n,hn,en⟩:∃ n:Nat,n≤16∧z%17=(n:Int):=⟨(z%17).toNat,by omega,by omega⟩
  have c0:0≤y%10^Int.toNat 61:=Int.emod_nonneg _ (by decide)
  have c1:y%10^Int.toNat 61<10^Int.toNat 61:=Int.emod_lt_of_pos _ (by decide)
  generalize y%10^Int.toNat 61=c at c0 c1 ⊢
  rw [ek,en]
  exact ⟨k,c,rfl,hk,c0,c1,fun sa H' s' hs'=>hN _ _ ⟨k,n,c,sa,p3,hk,hn,c0,⟨(XI.keep (.inl hT) w).keep s',hs',s'.seq (w.seq hS)⟩,rfl⟩⟩
 rintro σ H1 ⟨k,n,c,sa,bk,hk,hn,c0,h1,rfl⟩
 generalize hsh:sh6 k c=sh at h1
 have ok:okq sh:=hsh▸Yez k c
 have t1:tot sh 1=1:=hsh▸YdY k c
 refine YaM (fun σ H'=>∃ o,H'=H1∧σ=[some (.ref a),some (.int k),some (.int c),some (.int n),some (.ref bk),some (.ref sa),some (.int (tot sh (n+1))),o,none,none]) ?_ ?_
 rotate_left
 ·intro N hN
  walk_at "rd"
  refine X5 (n:=n+1) (fun i σ H'=>H'=H1∧∃ o,σ=[some (.ref a),some (.int k),some (.int c),some (.int n),some (.ref bk),some (.ref sa),some (.int (tot sh i)),o,none,none]) (fun R r=>by walk_at "rd";exact r) (by omega) ⟨rfl,none,rfl⟩ ?_ ?_
  ·rintro i σ H' hi ⟨rfl,o,rfl⟩
   walk_at "rd"
   refine ⟨k,c,i,rfl,hk,c0,by omega,_,rfl,rfl,?_⟩
   rw [WZ,← hsh]
  ·rintro σ H' ⟨rfl,o,rfl⟩
   exact hN _ _ ⟨o,rfl,rfl⟩
 rintro σ H2 ⟨o,rfl,rfl⟩
 have good:∀ {H0:Hp} {mo:V} {m:Int} {Q:VK},bnd mo m→PvL g P_law_asked ns a sa sh H0→(∀ H',XI H' P_law_asked→(∀ q o,q≠P_law_asked→H0 q=some o→H' q=some o)→PvL g P_law_asked ns a sa sh H'→Q (.bl true) H')→Vr g P_law_asked [.ref bk,.ref sa,.int n,mo,.int (tot sh (n+1))] H0 Q E0:=fun hb h r=>⟨_,sa,sh,n,_,_,rfl,h.2.1,ok,hn,hb,h.1,fun H' t k=>r H' t k (h.but t k)⟩
 have good0:∀ {H0:Hp} {mo:V} {m:Int} {Q:VK},bnd mo m→PvL g P_law_asked ns a sa sh H0→(∀ H',PvL g P_law_asked ns a sa sh H'→Q (.bl true) H')→Vr g P_law_asked [.ref bk,.ref sa,.int 0,mo,.int 1] H0 Q E0:=fun hb h r=>⟨_,sa,sh,0,_,_,by rw [t1];rfl,h.2.1,ok,by omega,hb,h.1,fun H' t k=>r H' (h.but t k)⟩
 refine cut4 (fun σ H'=>∃ o2,PvL g P_law_asked ns a sa sh H'∧σ=[some (.ref a),some (.int k),some (.int c),some (.int n),some (.ref bk),some (.ref sa),some (.int (tot sh (n+1))),o,o2,none]) ?_ ?_
 rotate_left
 ·intro N hN
  walk_at "rd"
  exact good (.inr rfl) h1 fun H5 _ _ h5=>⟨_,rfl,YL (by decide) (good (.inr rfl) h5 fun H6 _ _ h6=>⟨_,rfl,YL (by decide) (good (.inl ⟨rfl,rfl⟩) h6 fun H7 _ _ h7=>⟨_,rfl,YL (by decide) (hN _ _ ⟨_,h7,rfl⟩)⟩)⟩)⟩
 rintro σ H3 ⟨o2,h3,rfl⟩
 refine cut1 (fun σ H'=>∃ o3,PvL g P_law_asked ns a sa sh H'∧σ=[some (.ref a),some (.int k),some (.int c),some (.int n),some (.ref bk),some (.ref sa),some (.int (tot sh (n+1))),o,o2,o3]) ?_ ?_
 rotate_left
 ·intro N hN
  walk_at "rd"
  have cl:=Ydy (ns.map V.int) 3 8
  rw [Yco] at cl
  refine WW (K:=g.K) (xs:=((ns.drop 3).take (8 - 3)).map V.int) (fun p i σ H'=>∃ o3,σ=[some (.ref a),some (.int k),some (.int c),some (.int n),some (.ref bk),some (.ref sa),some (.int (tot sh (n+1))),o,o2,o3]∧PvL g P_law_asked ns a sa sh H'∧H' p=some (.lst (((ns.drop 3).take (8 - 3)).map V.int))) (fun R r=>?_) (fun p i σ H' _ ⟨_,_,_,h⟩=>SqL.of h) ?_ ?_
  ·walk_at "rd"
   exact ⟨_,h3.2.2,fun p hp=>r _ _ ⟨none,rfl,h3.keep (.upd_new hp _),by rw [Yc];exact congrArg some (congrArg HO.lst cl)⟩⟩
  ·rintro p i x σ H' hx ⟨o3,rfl,h4,hp⟩
   obtain ⟨z,ez,rfl⟩:=getI hx
   walk_at "rd"
   refine ⟨by decide,good (.inr rfl) h4 fun H5 t5 k5 h5=>⟨_,rfl,YL (by decide) ?_⟩⟩
   obtain ⟨ps,hps⟩:=h4.1.tbl
   exact ⟨h5,k5 _ _ (Yq hp hps (by intro z;cases z)) hp⟩
  ·rintro p σ H' ⟨o3,rfl,h4,hp⟩
   exact hN _ _ ⟨o3,h4,rfl⟩
 rintro σ H4 ⟨o3,h4,rfl⟩
 walk_at "rd"
 exact good0 (.inr rfl) h4 fun H5 h5=>⟨_,rfl,Xs rfl (good0 (.inr rfl) h5 fun H6 _=>q H6)⟩
theorem us1 {α:Type} {us:List α} (h:us.length=1):∃ a0,us=[a0]:=by
 match us,h with
 | [a0],_=>exact ⟨_,rfl⟩
theorem us2 {α:Type} {us:List α} (h:us.length=2):∃ a0 a1,us=[a0,a1]:=by
 match us,h with
 | [a0,a1],_=>exact ⟨_,_,rfl⟩
theorem us3 {α:Type} {us:List α} (h:us.length=3):∃ a0 a1 a2,us=[a0,a1,a2]:=by
 match us,h with
 | [a0,a1,a2],_=>exact ⟨_,_,_,rfl⟩
theorem us4 {α:Type} {us:List α} (h:us.length=4):∃ a0 a1 a2 a3,us=[a0,a1,a2,a3]:=by
 match us,h with
 | [a0,a1,a2,a3],_=>exact ⟨_,_,_,_,rfl⟩
theorem us5 {α:Type} {us:List α} (h:us.length=5):∃ a0 a1 a2 a3 a4,us=[a0,a1,a2,a3,a4]:=by
 match us,h with
 | [a0,a1,a2,a3,a4],_=>exact ⟨_,_,_,_,_,rfl⟩
structure Top (K:PySem.W.Frag) (mg:Str→Option Value) (Z5:Addr) (Zb:Addr) (Z7:Addr) (Za:Addr) (Z8:Addr) (Z6:Addr) (Zc:Addr) (Z9:Addr) (Z2:Addr) (Z3:Addr) (Z4:Addr) (Z1:Addr) (Z0:Addr) (c_law_asked P_law_asked:Addr):Prop where
 Z21:∀ P w base,(Gx.mk P w K mg base).Raw "_law_whole" "_law_whole" Z1K ["_law_found"]
 Z1u:∀ P w base,(Gx.mk P w K mg base).Raw "_law_cell_at" "_law_cell_at" Z1s ["_law_script","_law_k"]
 Z1e:∀ P w base,(Gx.mk P w K mg base).RawC "Maker" "__init__" "Maker.__init__" Z1c ["self"]
 Z0m:∀ P w base,(Gx.mk P w K mg base).RawI "WholeMaker" Z0 "WholeMaker.__init__" Z0e ["self","low","high"]
 Z0C:∀ P w base,(Gx.mk P w K mg base).RawI "TextMaker" Z1 "TextMaker.__init__" Z0r ["self","signs"]
 Z1f:∀ P w base,(Gx.mk P w K mg base).Raw "least_distance" "least_distance" Z1a ["size"]
 Z0n:∀ P w base,(Gx.mk P w K mg base).RawM Z0 "reckoned" "WholeMaker.reckoned" Z0f ["self","size"]
 Z0o:∀ P w base,(Gx.mk P w K mg base).RawM Z0 "count_at" "Maker.count_at" Z0i ["self","size"]
 ZP:∀ P w base,(Gx.mk P w K mg base).RawM Z1 "reckoned" "TextMaker.reckoned" Z0s ["self","size"]
 ZQ:∀ P w base,(Gx.mk P w K mg base).RawM Z1 "count_at" "Maker.count_at" Z0y ["self","size"]
 Z0p:∀ P w base,(Gx.mk P w K mg base).RawM Z0 "value_at" "WholeMaker.value_at" Z0g ["self","size","number"]
 Z0D:∀ P w base,(Gx.mk P w K mg base).RawM Z1 "value_at" "TextMaker.value_at" Z0t ["self","size","number"]
 Z3O:∀ P w base,(Gx.mk P w K mg base).Raw "ways_of" "ways_of" Z3x ["blocks"]
 ZE:∀ P w base,(Gx.mk P w K mg base).RawM Z2 "blocks_at" "ManyMaker.blocks_at" Z0h ["self","left"]
 ZI:∀ P w base,(Gx.mk P w K mg base).RawM Z2 "reckoned" "ManyMaker.reckoned" Z0v ["self","size"]
 ZJ:∀ P w base,(Gx.mk P w K mg base).RawM Z2 "count_at" "Maker.count_at" Z0z ["self","size"]
 Z0E:∀ P w base,(Gx.mk P w K mg base).RawI "ManyMaker" Z2 "ManyMaker.__init__" Z0u ["self","part"]
 Z16:∀ P w base,(Gx.mk P w K mg base).RawI "Lister" Z9 "Lister.__init__" Z13 ["self","book"]
 Z1g:∀ P w base,(Gx.mk P w K mg base).RawI "Found" Zc "Found.__init__" Z1b ["self","place","choice","rest"]
 Z35:∀ P w base,(Gx.mk P w K mg base).Raw "found_in" "found_in" Z2I ["blocks","number"]
 Z0F:∀ P w base,(Gx.mk P w K mg base).RawM Z2 "value_at" "ManyMaker.value_at" Z0w ["self","size","number"]
 ZK:∀ P w base,(Gx.mk P w K mg base).RawM Z4 "blocks_at" "RowTable.blocks_at" Z0x ["self","place","left"]
 ZL:∀ P w base,(Gx.mk P w K mg base).RawM Z4 "add_size" "RowTable.add_size" Z0L ["self","size"]
 ZN:∀ P w base,(Gx.mk P w K mg base).RawM Z4 "ways_at" "RowTable.ways_at" Z0X ["self","place","left"]
 Z0R:∀ P w base,(Gx.mk P w K mg base).RawI "RowTable" Z4 "RowTable.__init__" Z0K ["self","parts"]
 Z0S:∀ P w base,(Gx.mk P w K mg base).RawI "RowMaker" Z3 "RowMaker.__init__" Z0M ["self","parts"]
 Z0T:∀ P w base,(Gx.mk P w K mg base).RawM Z3 "reckoned" "RowMaker.reckoned" Z0N ["self","size"]
 Z0U:∀ P w base,(Gx.mk P w K mg base).RawM Z3 "count_at" "Maker.count_at" Z0P ["self","size"]
 Z0V:∀ P w base,(Gx.mk P w K mg base).RawM Z3 "value_at" "RowMaker.value_at" Z0O ["self","size","number"]
 Z36:∀ P w base,(Gx.mk P w K mg base).Raw "parts_of" "parts_of" Z2H ["shape"]
 ZO:∀ P w base,(Gx.mk P w K mg base).RawM Z9 "new_maker" "Lister.new_maker" Z0W ["self","shape"]
 ZS:∀ P w base,(Gx.mk P w K mg base).RawM Z9 "maker_of" "Lister.maker_of" Z14 ["self","shape"]
 Z22:∀ P w base,(Gx.mk P w K mg base).Raw "maker_for" "maker_for" Z1I ["book","shape"]
 Z37:∀ P w base,(Gx.mk P w K mg base).Raw "all_made" "all_made" Z2J ["maker","size"]
 Z17:∀ P w base,(Gx.mk P w K mg base).Raw "refuse_too_many" "refuse_too_many" Z12 ["count","most"]
 Z1z:∀ P w base,(Gx.mk P w K mg base).Raw "copied" "copied" VC ["thing"]
 f_holds:∀ P w base,(Gx.mk P w K mg base).Raw "holds" "holds" Ui ["judge","value"]
 Z38:∀ P w base,(Gx.mk P w K mg base).Raw "tried_on" "tried_on" Z2K ["judge","values"]
 f_tried:∀ P w base,(Gx.mk P w K mg base).RawDX "tried" "tried" Uj ["book","shape","judge","size","most"] [.int 400]
 Z23:∀ P w base,(Gx.mk P w K mg base).Raw "_law_signs" "_law_signs" Z1L ["_law_cell","_law_many"]
 Z24:∀ P w base,(Gx.mk P w K mg base).Raw "_law_shape" "_law_shape" Z1M ["_law_kind","_law_cell"]
 Z25:∀ P w base,(Gx.mk P w K mg base).Raw "_law_power" "_law_power" Z1N ["_law_number","_law_times"]
 Z26:∀ P w base,(Gx.mk P w K mg base).Raw "_law_count" "_law_count" Z1O ["_law_kind","_law_cell","_law_size"]
 Z27:∀ P w base,(Gx.mk P w K mg base).RawT "_law_asked" "_law_asked" Z18 ["_law_book","_law_shape_here","_law_size","_law_most"] c_law_asked
 Z39:∀ P w base,(Gx.mk P w K mg base).Raw "_law_good" "_law_good" Z2L ["_law_book","_law_shape_here","_law_size","_law_most","_law_total"]
 ZH:Cls K Zc
 ZA:Yg K Zc "place"
 ZD:Yg K Zc "choice"
 ZM:Yg K Zc "rest"
 Zx:Cls K Z9
 Zy:Yg K Z9 "book"
 Zr:Yg K Z9 "makers"
 Zi:Cls K Z2
 Zd:Yg K Z2 "counts"
 Zj:Yg K Z2 "part"
 Zs:Cls K Z3
 Zp:Yg K Z3 "counts"
 Zv:Yg K Z3 "parts"
 Zt:Yg K Z3 "table"
 Zk:Cls K Z4
 Zm:Yg K Z4 "parts"
 Zh:Yg K Z4 "ways"
 Zg:Cls K Z1
 Ze:Yg K Z1 "counts"
 Zf:Yg K Z1 "signs"
 Zn:Cls K Z0
 Zl:Yg K Z0 "counts"
 Zq:Yg K Z0 "low"
 Zo:Yg K Z0 "span"
 Z3i:∀ P w base,(Gx.mk P w K mg base).ConT "OF_ONE_PART" ([.str "many",.str "rising",.str "unlike"])
 Z10:mg "ValueError"=none
 b_bool:mg "bool"=none
 b_dict:mg "dict"=none
 Z07:mg "enumerate"=none
 b_int:mg "int"=none
 Zw:mg "isinstance"=none
 b_len:mg "len"=none
 b_list:mg "list"=none
 b_max:mg "max"=none
 b_min:mg "min"=none
 Zu:mg "range"=none
 b_sum:mg "sum"=none
 Z08:mg "tuple"=none
 x_CountError:mg "CountError"=some (.ref Z5)
 x_NoDraw:mg "NoDraw"=some (.ref Zb)
 x_NoNumber:mg "NoNumber"=some (.ref Z7)
 x_NoValue:mg "NoValue"=some (.ref Za)
 x_NoBreach:mg "NoBreach"=some (.ref Z8)
 x_TooMany:mg "TooMany"=some (.ref Z6)
 t_TooMany:ExcT K Z6
 xi_TooMany:∀ P w base,(Gx.mk P w K mg base).RawX "TooMany" Z6 "TooMany.__init__" Z0Y ["self","count","most"]
 xf_TooMany:ExFl K Z6 Z5
 xn_TooMany_count:PySem.W.findIn K (.ref Z6) "count"=some none
 xn_TooMany_most:PySem.W.findIn K (.ref Z6) "most"=some none
 bi_CountError:∀ P w base,BInit (Gx.mk P w K mg base) "CountError" Z5
 i_TooMany_CountError:PySem.W.kitOne K (.ref Z6) (.ref Z5)=some true
 i_TooMany_NoBreach:PySem.W.kitOne K (.ref Z6) (.ref Z8)=some false
 i_TooMany_NoDraw:PySem.W.kitOne K (.ref Z6) (.ref Zb)=some false
 i_TooMany_NoNumber:PySem.W.kitOne K (.ref Z6) (.ref Z7)=some false
 i_TooMany_NoValue:PySem.W.kitOne K (.ref Z6) (.ref Za)=some false
 i_TooMany_ValueError:PySem.W.kitOne K (.ref Z6) (.type "ValueError")=some true
 m_TooMany_TooMany:PySem.W.exmOne K (.ref Z6) (.ref Z6)=some true
theorem YcY {K:PySem.W.Frag} {mg:Str→Option Value} {Z5 Zb Z7 Za Z8 Z6 Zc Z9 Z2 Z3 Z4 Z1 Z0:Addr} {c_law_asked P_law_asked:Addr}  (t:Top K mg Z5 Zb Z7 Za Z8 Z6 Zc Z9 Z2 Z3 Z4 Z1 Z0 c_law_asked P_law_asked) (P:Program) (w:World) (base:Heap) (hB:Bm mg base) (hC_law_asked:PySem.W.CodeHd base c_law_asked P_law_asked) :
  Vb (Gx.mk P w K mg base) 13 ["_law_script","_law_kind","_law_cell","_law_size","_law_book","_law_shape_here","_law_total","_law_k","_law_less","_law_other"] "law" UW (Vo K [("_law_asked",c_law_asked,P_law_asked)]):=by
 have Z3P:=Z3l (g:=Gx.mk P w K mg base) (t.xi_TooMany P w base) (t.bi_CountError P w base) t.xf_TooMany t.xn_TooMany_count t.xn_TooMany_most
 have Z48:=Ql (g:=Gx.mk P w K mg base) (Z5:=Z5) (Zb:=Zb) (Z7:=Z7) (Za:=Za) (Z8:=Z8) (Z6:=Z6) (Zc:=Zc) (Z9:=Z9) (Z2:=Z2) (Z3:=Z3) (Z4:=Z4) (Z1:=Z1) (Z0:=Z0) (c_law_asked:=c_law_asked) (P_law_asked:=P_law_asked) (t.Z21 P w base) t.b_bool t.b_int t.Zw
 have G_law_cell_at:=Z4j (g:=Gx.mk P w K mg base) (Z5:=Z5) (Zb:=Zb) (Z7:=Z7) (Za:=Za) (Z8:=Z8) (Z6:=Z6) (Zc:=Zc) (Z9:=Z9) (Z2:=Z2) (Z3:=Z3) (Z4:=Z4) (Z1:=Z1) (Z0:=Z0) (c_law_asked:=c_law_asked) (P_law_asked:=P_law_asked) (t.Z1u P w base) t.b_len
 have Z0G:=Z3U (g:=Gx.mk P w K mg base) (Z5:=Z5) (Zb:=Zb) (Z7:=Z7) (Za:=Za) (Z8:=Z8) (Z6:=Z6) (Zc:=Zc) (Z9:=Z9) (Z2:=Z2) (Z3:=Z3) (Z4:=Z4) (Z1:=Z1) (Z0:=Z0) (c_law_asked:=c_law_asked) (P_law_asked:=P_law_asked) (t.Z1e P w base) t.Zi t.Zd t.Zj t.Zs t.Zp t.Zv t.Zt t.Zg t.Ze t.Zf t.Zn t.Zl t.Zq t.Zo
 have Z02:=Z1T (g:=Gx.mk P w K mg base) (k:=1) (Z5:=Z5) (Zb:=Zb) (Z7:=Z7) (Za:=Za) (Z8:=Z8) (Z6:=Z6) (Zc:=Zc) (Z9:=Z9) (Z2:=Z2) (Z3:=Z3) (Z4:=Z4) (Z1:=Z1) (Z0:=Z0) (c_law_asked:=c_law_asked) (P_law_asked:=P_law_asked) (t.Z0m P w base) (Z0G.mono (by decide)) t.Zn t.Zl t.Zq t.Zo
 have Z05:=Z2s (g:=Gx.mk P w K mg base) (k:=1) (Z5:=Z5) (Zb:=Zb) (Z7:=Z7) (Za:=Za) (Z8:=Z8) (Z6:=Z6) (Zc:=Zc) (Z9:=Z9) (Z2:=Z2) (Z3:=Z3) (Z4:=Z4) (Z1:=Z1) (Z0:=Z0) (c_law_asked:=c_law_asked) (P_law_asked:=P_law_asked) (t.Z0C P w base) (Z0G.mono (by decide)) t.Zg t.Ze t.Zf
 have Z1A:=Z3V (g:=Gx.mk P w K mg base) (Z5:=Z5) (Zb:=Zb) (Z7:=Z7) (Za:=Za) (Z8:=Z8) (Z6:=Z6) (Zc:=Zc) (Z9:=Z9) (Z2:=Z2) (Z3:=Z3) (Z4:=Z4) (Z1:=Z1) (Z0:=Z0) (c_law_asked:=c_law_asked) (P_law_asked:=P_law_asked) (t.Z1f P w base)
 have Z2B:=Z1U (g:=Gx.mk P w K mg base) (k:=1) (Z5:=Z5) (Zb:=Zb) (Z7:=Z7) (Za:=Za) (Z8:=Z8) (Z6:=Z6) (Zc:=Zc) (Z9:=Z9) (Z2:=Z2) (Z3:=Z3) (Z4:=Z4) (Z1:=Z1) (Z0:=Z0) (c_law_asked:=c_law_asked) (P_law_asked:=P_law_asked) (t.Z0n P w base) (Z1A.mono (by decide)) t.b_max t.b_min t.Zn t.Zl t.Zq t.Zo
 have Z03:=Z1V (g:=Gx.mk P w K mg base) (k:=2) (Z5:=Z5) (Zb:=Zb) (Z7:=Z7) (Za:=Za) (Z8:=Z8) (Z6:=Z6) (Zc:=Zc) (Z9:=Z9) (Z2:=Z2) (Z3:=Z3) (Z4:=Z4) (Z1:=Z1) (Z0:=Z0) (c_law_asked:=c_law_asked) (P_law_asked:=P_law_asked) (t.Z0o P w base) (Z2B.mono (by decide)) t.b_len t.Zn t.Zl t.Zq t.Zo
 have Z28:=Z0j (g:=Gx.mk P w K mg base) (m:=0) (k:=0) (Z5:=Z5) (Zb:=Zb) (Z7:=Z7) (Za:=Za) (Z8:=Z8) (Z6:=Z6) (Zc:=Zc) (Z9:=Z9) (Z2:=Z2) (Z3:=Z3) (Z4:=Z4) (Z1:=Z1) (Z0:=Z0) (c_law_asked:=c_law_asked) (P_law_asked:=P_law_asked) (t.ZP P w base) ((t.ZQ P w base).none (fun _ _ _ _ h=>YbZ h)) t.b_len t.Zg t.Ze t.Zf
 have Z29:=Z0k (g:=Gx.mk P w K mg base) (m:=0) (k:=0) (Z5:=Z5) (Zb:=Zb) (Z7:=Z7) (Za:=Za) (Z8:=Z8) (Z6:=Z6) (Zc:=Zc) (Z9:=Z9) (Z2:=Z2) (Z3:=Z3) (Z4:=Z4) (Z1:=Z1) (Z0:=Z0) (c_law_asked:=c_law_asked) (P_law_asked:=P_law_asked) (t.ZQ P w base) ((t.ZP P w base).none (fun _ _ _ _ h=>YcQ h)) t.b_len t.Zg t.Ze t.Zf
 have Z2a:=Z0j (g:=Gx.mk P w K mg base) (m:=1) (k:=1) (Z5:=Z5) (Zb:=Zb) (Z7:=Z7) (Za:=Za) (Z8:=Z8) (Z6:=Z6) (Zc:=Zc) (Z9:=Z9) (Z2:=Z2) (Z3:=Z3) (Z4:=Z4) (Z1:=Z1) (Z0:=Z0) (c_law_asked:=c_law_asked) (P_law_asked:=P_law_asked) (t.ZP P w base) (Z29.mono (by decide)) t.b_len t.Zg t.Ze t.Zf
 have Z2b:=Z0k (g:=Gx.mk P w K mg base) (m:=1) (k:=1) (Z5:=Z5) (Zb:=Zb) (Z7:=Z7) (Za:=Za) (Z8:=Z8) (Z6:=Z6) (Zc:=Zc) (Z9:=Z9) (Z2:=Z2) (Z3:=Z3) (Z4:=Z4) (Z1:=Z1) (Z0:=Z0) (c_law_asked:=c_law_asked) (P_law_asked:=P_law_asked) (t.ZQ P w base) (Z28.mono (by decide)) t.b_len t.Zg t.Ze t.Zf
 have G_TextMaker_reckoned:=Z0j (g:=Gx.mk P w K mg base) (m:=2) (k:=2) (Z5:=Z5) (Zb:=Zb) (Z7:=Z7) (Za:=Za) (Z8:=Z8) (Z6:=Z6) (Zc:=Zc) (Z9:=Z9) (Z2:=Z2) (Z3:=Z3) (Z4:=Z4) (Z1:=Z1) (Z0:=Z0) (c_law_asked:=c_law_asked) (P_law_asked:=P_law_asked) (t.ZP P w base) (Z2b.mono (by decide)) t.b_len t.Zg t.Ze t.Zf
 have ZR:=Z0k (g:=Gx.mk P w K mg base) (m:=2) (k:=2) (Z5:=Z5) (Zb:=Zb) (Z7:=Z7) (Za:=Za) (Z8:=Z8) (Z6:=Z6) (Zc:=Zc) (Z9:=Z9) (Z2:=Z2) (Z3:=Z3) (Z4:=Z4) (Z1:=Z1) (Z0:=Z0) (c_law_asked:=c_law_asked) (P_law_asked:=P_law_asked) (t.ZQ P w base) (Z2a.mono (by decide)) t.b_len t.Zg t.Ze t.Zf
 have Z2C:=Z1W (g:=Gx.mk P w K mg base) (k:=1) (Z5:=Z5) (Zb:=Zb) (Z7:=Z7) (Za:=Za) (Z8:=Z8) (Z6:=Z6) (Zc:=Zc) (Z9:=Z9) (Z2:=Z2) (Z3:=Z3) (Z4:=Z4) (Z1:=Z1) (Z0:=Z0) (c_law_asked:=c_law_asked) (P_law_asked:=P_law_asked) (t.Z0p P w base) (Z1A.mono (by decide)) t.Zn t.Zl t.Zq t.Zo
 have Z1m:=Z2v (g:=Gx.mk P w K mg base) (Z5:=Z5) (Zb:=Zb) (Z7:=Z7) (Za:=Za) (Z8:=Z8) (Z6:=Z6) (Zc:=Zc) (Z9:=Z9) (Z2:=Z2) (Z3:=Z3) (Z4:=Z4) (Z1:=Z1) (Z0:=Z0) (c_law_asked:=c_law_asked) (P_law_asked:=P_law_asked) (t.Z0D P w base) t.b_len t.Zu t.Zg t.Ze t.Zf
 have Z0q:=Ya9 (g:=Gx.mk P w K mg base) (Z5:=Z5) (Zb:=Zb) (Z7:=Z7) (Za:=Za) (Z8:=Z8) (Z6:=Z6) (Zc:=Zc) (Z9:=Z9) (Z2:=Z2) (Z3:=Z3) (Z4:=Z4) (Z1:=Z1) (Z0:=Z0) (c_law_asked:=c_law_asked) (P_law_asked:=P_law_asked) (t.Z3O P w base) t.b_sum
 have Z1D:=ZY (g:=Gx.mk P w K mg base) (m:=0) (k:=3) (Z5:=Z5) (Zb:=Zb) (Z7:=Z7) (Za:=Za) (Z8:=Z8) (Z6:=Z6) (Zc:=Zc) (Z9:=Z9) (Z2:=Z2) (Z3:=Z3) (Z4:=Z4) (Z1:=Z1) (Z0:=Z0) (c_law_asked:=c_law_asked) (P_law_asked:=P_law_asked) (t.ZE P w base) (Z03.mono (by decide)) ((t.ZJ P w base).none (fun _ _ _ _ h=>Yb2 h)) t.Zu t.Zi t.Zd t.Zj t.Zn t.Zl t.Zq t.Zo
 have Z2c:=ZZ (g:=Gx.mk P w K mg base) (m:=0) (k:=3) (Z5:=Z5) (Zb:=Zb) (Z7:=Z7) (Za:=Za) (Z8:=Z8) (Z6:=Z6) (Zc:=Zc) (Z9:=Z9) (Z2:=Z2) (Z3:=Z3) (Z4:=Z4) (Z1:=Z1) (Z0:=Z0) (c_law_asked:=c_law_asked) (P_law_asked:=P_law_asked) (t.ZI P w base) (Z0q.mono (by decide)) ((t.ZE P w base).none (fun _ _ _ _ h=>Yba h)) t.Zi t.Zd t.Zj
 have Z2d:=Z00 (g:=Gx.mk P w K mg base) (m:=0) (k:=3) (Z5:=Z5) (Zb:=Zb) (Z7:=Z7) (Za:=Za) (Z8:=Z8) (Z6:=Z6) (Zc:=Zc) (Z9:=Z9) (Z2:=Z2) (Z3:=Z3) (Z4:=Z4) (Z1:=Z1) (Z0:=Z0) (c_law_asked:=c_law_asked) (P_law_asked:=P_law_asked) (t.ZJ P w base) ((t.ZI P w base).none (fun _ _ _ _ h=>YcR h)) t.b_len t.Zi t.Zd t.Zj
 have Z1E:=ZY (g:=Gx.mk P w K mg base) (m:=1) (k:=4) (Z5:=Z5) (Zb:=Zb) (Z7:=Z7) (Za:=Za) (Z8:=Z8) (Z6:=Z6) (Zc:=Zc) (Z9:=Z9) (Z2:=Z2) (Z3:=Z3) (Z4:=Z4) (Z1:=Z1) (Z0:=Z0) (c_law_asked:=c_law_asked) (P_law_asked:=P_law_asked) (t.ZE P w base) (Z03.mono (by decide)) (Z2d.mono (by decide)) t.Zu t.Zi t.Zd t.Zj t.Zn t.Zl t.Zq t.Zo
 have Z2e:=ZZ (g:=Gx.mk P w K mg base) (m:=1) (k:=4) (Z5:=Z5) (Zb:=Zb) (Z7:=Z7) (Za:=Za) (Z8:=Z8) (Z6:=Z6) (Zc:=Zc) (Z9:=Z9) (Z2:=Z2) (Z3:=Z3) (Z4:=Z4) (Z1:=Z1) (Z0:=Z0) (c_law_asked:=c_law_asked) (P_law_asked:=P_law_asked) (t.ZI P w base) (Z0q.mono (by decide)) (Z1D.mono (by decide)) t.Zi t.Zd t.Zj
 have Z2f:=Z00 (g:=Gx.mk P w K mg base) (m:=1) (k:=4) (Z5:=Z5) (Zb:=Zb) (Z7:=Z7) (Za:=Za) (Z8:=Z8) (Z6:=Z6) (Zc:=Zc) (Z9:=Z9) (Z2:=Z2) (Z3:=Z3) (Z4:=Z4) (Z1:=Z1) (Z0:=Z0) (c_law_asked:=c_law_asked) (P_law_asked:=P_law_asked) (t.ZJ P w base) (Z2c.mono (by decide)) t.b_len t.Zi t.Zd t.Zj
 have Z1F:=ZY (g:=Gx.mk P w K mg base) (m:=2) (k:=5) (Z5:=Z5) (Zb:=Zb) (Z7:=Z7) (Za:=Za) (Z8:=Z8) (Z6:=Z6) (Zc:=Zc) (Z9:=Z9) (Z2:=Z2) (Z3:=Z3) (Z4:=Z4) (Z1:=Z1) (Z0:=Z0) (c_law_asked:=c_law_asked) (P_law_asked:=P_law_asked) (t.ZE P w base) (Z03.mono (by decide)) (Z2f.mono (by decide)) t.Zu t.Zi t.Zd t.Zj t.Zn t.Zl t.Zq t.Zo
 have Z2g:=ZZ (g:=Gx.mk P w K mg base) (m:=2) (k:=5) (Z5:=Z5) (Zb:=Zb) (Z7:=Z7) (Za:=Za) (Z8:=Z8) (Z6:=Z6) (Zc:=Zc) (Z9:=Z9) (Z2:=Z2) (Z3:=Z3) (Z4:=Z4) (Z1:=Z1) (Z0:=Z0) (c_law_asked:=c_law_asked) (P_law_asked:=P_law_asked) (t.ZI P w base) (Z0q.mono (by decide)) (Z1E.mono (by decide)) t.Zi t.Zd t.Zj
 have Z2h:=Z00 (g:=Gx.mk P w K mg base) (m:=2) (k:=5) (Z5:=Z5) (Zb:=Zb) (Z7:=Z7) (Za:=Za) (Z8:=Z8) (Z6:=Z6) (Zc:=Zc) (Z9:=Z9) (Z2:=Z2) (Z3:=Z3) (Z4:=Z4) (Z1:=Z1) (Z0:=Z0) (c_law_asked:=c_law_asked) (P_law_asked:=P_law_asked) (t.ZJ P w base) (Z2e.mono (by decide)) t.b_len t.Zi t.Zd t.Zj
 have Z2D:=ZY (g:=Gx.mk P w K mg base) (m:=3) (k:=6) (Z5:=Z5) (Zb:=Zb) (Z7:=Z7) (Za:=Za) (Z8:=Z8) (Z6:=Z6) (Zc:=Zc) (Z9:=Z9) (Z2:=Z2) (Z3:=Z3) (Z4:=Z4) (Z1:=Z1) (Z0:=Z0) (c_law_asked:=c_law_asked) (P_law_asked:=P_law_asked) (t.ZE P w base) (Z03.mono (by decide)) (Z2h.mono (by decide)) t.Zu t.Zi t.Zd t.Zj t.Zn t.Zl t.Zq t.Zo
 have G_ManyMaker_reckoned:=ZZ (g:=Gx.mk P w K mg base) (m:=3) (k:=6) (Z5:=Z5) (Zb:=Zb) (Z7:=Z7) (Za:=Za) (Z8:=Z8) (Z6:=Z6) (Zc:=Zc) (Z9:=Z9) (Z2:=Z2) (Z3:=Z3) (Z4:=Z4) (Z1:=Z1) (Z0:=Z0) (c_law_asked:=c_law_asked) (P_law_asked:=P_law_asked) (t.ZI P w base) (Z0q.mono (by decide)) (Z1F.mono (by decide)) t.Zi t.Zd t.Zj
 have Z1n:=Z00 (g:=Gx.mk P w K mg base) (m:=3) (k:=6) (Z5:=Z5) (Zb:=Zb) (Z7:=Z7) (Za:=Za) (Z8:=Z8) (Z6:=Z6) (Zc:=Zc) (Z9:=Z9) (Z2:=Z2) (Z3:=Z3) (Z4:=Z4) (Z1:=Z1) (Z0:=Z0) (c_law_asked:=c_law_asked) (P_law_asked:=P_law_asked) (t.ZJ P w base) (Z2g.mono (by decide)) t.b_len t.Zi t.Zd t.Zj
 have Z06:=Z2x (g:=Gx.mk P w K mg base) (k:=1) (Z5:=Z5) (Zb:=Zb) (Z7:=Z7) (Za:=Za) (Z8:=Z8) (Z6:=Z6) (Zc:=Zc) (Z9:=Z9) (Z2:=Z2) (Z3:=Z3) (Z4:=Z4) (Z1:=Z1) (Z0:=Z0) (c_law_asked:=c_law_asked) (P_law_asked:=P_law_asked) (t.Z0E P w base) (Z0G.mono (by decide)) t.Zi t.Zd t.Zj
 have Z3Z:=Z3D (g:=Gx.mk P w K mg base) (Z5:=Z5) (Zb:=Zb) (Z7:=Z7) (Za:=Za) (Z8:=Z8) (Z6:=Z6) (Zc:=Zc) (Z9:=Z9) (Z2:=Z2) (Z3:=Z3) (Z4:=Z4) (Z1:=Z1) (Z0:=Z0) (c_law_asked:=c_law_asked) (P_law_asked:=P_law_asked) (t.Z16 P w base) t.Zx t.Zy t.Zr
 have Z4a:=Z3W (g:=Gx.mk P w K mg base) (Z5:=Z5) (Zb:=Zb) (Z7:=Z7) (Za:=Za) (Z8:=Z8) (Z6:=Z6) (Zc:=Zc) (Z9:=Z9) (Z2:=Z2) (Z3:=Z3) (Z4:=Z4) (Z1:=Z1) (Z0:=Z0) (c_law_asked:=c_law_asked) (P_law_asked:=P_law_asked) (t.Z1g P w base) t.ZH t.ZA t.ZD t.ZM
 have Z4h:=QS (g:=Gx.mk P w K mg base) (k:=2) (Z5:=Z5) (Zb:=Zb) (Z7:=Z7) (Za:=Za) (Z8:=Z8) (Z6:=Z6) (Zc:=Zc) (Z9:=Z9) (Z2:=Z2) (Z3:=Z3) (Z4:=Z4) (Z1:=Z1) (Z0:=Z0) (c_law_asked:=c_law_asked) (P_law_asked:=P_law_asked) (t.Z35 P w base) Z4a (by decide)
 have Z3a:=Z2y (g:=Gx.mk P w K mg base) (k:=7) (Z5:=Z5) (Zb:=Zb) (Z7:=Z7) (Za:=Za) (Z8:=Z8) (Z6:=Z6) (Zc:=Zc) (Z9:=Z9) (Z2:=Z2) (Z3:=Z3) (Z4:=Z4) (Z1:=Z1) (Z0:=Z0) (c_law_asked:=c_law_asked) (P_law_asked:=P_law_asked) (t.Z0F P w base) (Z4h.mono (by decide)) (Z2C.mono (by decide)) (Z2D.mono (by decide)) t.ZH t.ZA t.ZD t.ZM t.Zi t.Zd t.Zj t.Zn t.Zl t.Zq t.Zo
 have Z2i:=Z01 (g:=Gx.mk P w K mg base) (m:=0) (k:=3) (Z5:=Z5) (Zb:=Zb) (Z7:=Z7) (Za:=Za) (Z8:=Z8) (Z6:=Z6) (Zc:=Zc) (Z9:=Z9) (Z2:=Z2) (Z3:=Z3) (Z4:=Z4) (Z1:=Z1) (Z0:=Z0) (c_law_asked:=c_law_asked) (P_law_asked:=P_law_asked) (t.ZK P w base) ((t.ZN P w base).none (fun _ _ _ _ h=>YcS h)) (ZR.mono (by decide)) t.Zu t.Zk t.Zm t.Zh t.Zg t.Ze t.Zf
 have Z2E:=Z04 (g:=Gx.mk P w K mg base) (m:=0) (k:=3) (Z5:=Z5) (Zb:=Zb) (Z7:=Z7) (Za:=Za) (Z8:=Z8) (Z6:=Z6) (Zc:=Zc) (Z9:=Z9) (Z2:=Z2) (Z3:=Z3) (Z4:=Z4) (Z1:=Z1) (Z0:=Z0) (c_law_asked:=c_law_asked) (P_law_asked:=P_law_asked) (t.ZL P w base) (Z0q.mono (by decide)) ((t.ZK P w base).none (fun _ _ _ _ h=>YdU h)) t.b_len t.Zu t.Zk t.Zm t.Zh
 have Z3b:=Z09 (g:=Gx.mk P w K mg base) (m:=0) (k:=3) (Z5:=Z5) (Zb:=Zb) (Z7:=Z7) (Za:=Za) (Z8:=Z8) (Z6:=Z6) (Zc:=Zc) (Z9:=Z9) (Z2:=Z2) (Z3:=Z3) (Z4:=Z4) (Z1:=Z1) (Z0:=Z0) (c_law_asked:=c_law_asked) (P_law_asked:=P_law_asked) (t.ZN P w base) ((t.ZL P w base).none (fun _ _ _ _ h=>YdV h)) t.b_len t.Zk t.Zm t.Zh
 have Z2j:=Z01 (g:=Gx.mk P w K mg base) (m:=1) (k:=4) (Z5:=Z5) (Zb:=Zb) (Z7:=Z7) (Za:=Za) (Z8:=Z8) (Z6:=Z6) (Zc:=Zc) (Z9:=Z9) (Z2:=Z2) (Z3:=Z3) (Z4:=Z4) (Z1:=Z1) (Z0:=Z0) (c_law_asked:=c_law_asked) (P_law_asked:=P_law_asked) (t.ZK P w base) (Z3b.mono (by decide)) (ZR.mono (by decide)) t.Zu t.Zk t.Zm t.Zh t.Zg t.Ze t.Zf
 have Z2F:=Z04 (g:=Gx.mk P w K mg base) (m:=1) (k:=4) (Z5:=Z5) (Zb:=Zb) (Z7:=Z7) (Za:=Za) (Z8:=Z8) (Z6:=Z6) (Zc:=Zc) (Z9:=Z9) (Z2:=Z2) (Z3:=Z3) (Z4:=Z4) (Z1:=Z1) (Z0:=Z0) (c_law_asked:=c_law_asked) (P_law_asked:=P_law_asked) (t.ZL P w base) (Z0q.mono (by decide)) (Z2i.mono (by decide)) t.b_len t.Zu t.Zk t.Zm t.Zh
 have Z3c:=Z09 (g:=Gx.mk P w K mg base) (m:=1) (k:=4) (Z5:=Z5) (Zb:=Zb) (Z7:=Z7) (Za:=Za) (Z8:=Z8) (Z6:=Z6) (Zc:=Zc) (Z9:=Z9) (Z2:=Z2) (Z3:=Z3) (Z4:=Z4) (Z1:=Z1) (Z0:=Z0) (c_law_asked:=c_law_asked) (P_law_asked:=P_law_asked) (t.ZN P w base) (Z2E.mono (by decide)) t.b_len t.Zk t.Zm t.Zh
 have Z2k:=Z01 (g:=Gx.mk P w K mg base) (m:=2) (k:=5) (Z5:=Z5) (Zb:=Zb) (Z7:=Z7) (Za:=Za) (Z8:=Z8) (Z6:=Z6) (Zc:=Zc) (Z9:=Z9) (Z2:=Z2) (Z3:=Z3) (Z4:=Z4) (Z1:=Z1) (Z0:=Z0) (c_law_asked:=c_law_asked) (P_law_asked:=P_law_asked) (t.ZK P w base) (Z3c.mono (by decide)) (ZR.mono (by decide)) t.Zu t.Zk t.Zm t.Zh t.Zg t.Ze t.Zf
 have Z2G:=Z04 (g:=Gx.mk P w K mg base) (m:=2) (k:=5) (Z5:=Z5) (Zb:=Zb) (Z7:=Z7) (Za:=Za) (Z8:=Z8) (Z6:=Z6) (Zc:=Zc) (Z9:=Z9) (Z2:=Z2) (Z3:=Z3) (Z4:=Z4) (Z1:=Z1) (Z0:=Z0) (c_law_asked:=c_law_asked) (P_law_asked:=P_law_asked) (t.ZL P w base) (Z0q.mono (by decide)) (Z2j.mono (by decide)) t.b_len t.Zu t.Zk t.Zm t.Zh
 have Z3d:=Z09 (g:=Gx.mk P w K mg base) (m:=2) (k:=5) (Z5:=Z5) (Zb:=Zb) (Z7:=Z7) (Za:=Za) (Z8:=Z8) (Z6:=Z6) (Zc:=Zc) (Z9:=Z9) (Z2:=Z2) (Z3:=Z3) (Z4:=Z4) (Z1:=Z1) (Z0:=Z0) (c_law_asked:=c_law_asked) (P_law_asked:=P_law_asked) (t.ZN P w base) (Z2F.mono (by decide)) t.b_len t.Zk t.Zm t.Zh
 have Z3e:=Z01 (g:=Gx.mk P w K mg base) (m:=3) (k:=6) (Z5:=Z5) (Zb:=Zb) (Z7:=Z7) (Za:=Za) (Z8:=Z8) (Z6:=Z6) (Zc:=Zc) (Z9:=Z9) (Z2:=Z2) (Z3:=Z3) (Z4:=Z4) (Z1:=Z1) (Z0:=Z0) (c_law_asked:=c_law_asked) (P_law_asked:=P_law_asked) (t.ZK P w base) (Z3d.mono (by decide)) (ZR.mono (by decide)) t.Zu t.Zk t.Zm t.Zh t.Zg t.Ze t.Zf
 have G_RowTable_add_size:=Z04 (g:=Gx.mk P w K mg base) (m:=3) (k:=6) (Z5:=Z5) (Zb:=Zb) (Z7:=Z7) (Za:=Za) (Z8:=Z8) (Z6:=Z6) (Zc:=Zc) (Z9:=Z9) (Z2:=Z2) (Z3:=Z3) (Z4:=Z4) (Z1:=Z1) (Z0:=Z0) (c_law_asked:=c_law_asked) (P_law_asked:=P_law_asked) (t.ZL P w base) (Z0q.mono (by decide)) (Z2k.mono (by decide)) t.b_len t.Zu t.Zk t.Zm t.Zh
 have Z3Q:=Z09 (g:=Gx.mk P w K mg base) (m:=3) (k:=6) (Z5:=Z5) (Zb:=Zb) (Z7:=Z7) (Za:=Za) (Z8:=Z8) (Z6:=Z6) (Zc:=Zc) (Z9:=Z9) (Z2:=Z2) (Z3:=Z3) (Z4:=Z4) (Z1:=Z1) (Z0:=Z0) (c_law_asked:=c_law_asked) (P_law_asked:=P_law_asked) (t.ZN P w base) (Z2G.mono (by decide)) t.b_len t.Zk t.Zm t.Zh
 have Z3r:=Z2W (g:=Gx.mk P w K mg base) (Z5:=Z5) (Zb:=Zb) (Z7:=Z7) (Za:=Za) (Z8:=Z8) (Z6:=Z6) (Zc:=Zc) (Z9:=Z9) (Z2:=Z2) (Z3:=Z3) (Z4:=Z4) (Z1:=Z1) (Z0:=Z0) (c_law_asked:=c_law_asked) (P_law_asked:=P_law_asked) (t.Z0R P w base) t.b_len t.Zu t.Zk t.Zm t.Zh
 have Z0b:=Z2X (g:=Gx.mk P w K mg base) (k:=2) (Z5:=Z5) (Zb:=Zb) (Z7:=Z7) (Za:=Za) (Z8:=Z8) (Z6:=Z6) (Zc:=Zc) (Z9:=Z9) (Z2:=Z2) (Z3:=Z3) (Z4:=Z4) (Z1:=Z1) (Z0:=Z0) (c_law_asked:=c_law_asked) (P_law_asked:=P_law_asked) (t.Z0S P w base) Z3r (by decide) (Z0G.mono (by decide)) t.Zs t.Zp t.Zv t.Zt
 have Z3s:=Z2Y (g:=Gx.mk P w K mg base) (k:=7) (Z5:=Z5) (Zb:=Zb) (Z7:=Z7) (Za:=Za) (Z8:=Z8) (Z6:=Z6) (Zc:=Zc) (Z9:=Z9) (Z2:=Z2) (Z3:=Z3) (Z4:=Z4) (Z1:=Z1) (Z0:=Z0) (c_law_asked:=c_law_asked) (P_law_asked:=P_law_asked) (t.Z0T P w base) (Z3Q.mono (by decide)) t.Zs t.Zp t.Zv t.Zt t.Zk t.Zm t.Zh
 have Z1o:=Z2Z (g:=Gx.mk P w K mg base) (k:=8) (Z5:=Z5) (Zb:=Zb) (Z7:=Z7) (Za:=Za) (Z8:=Z8) (Z6:=Z6) (Zc:=Zc) (Z9:=Z9) (Z2:=Z2) (Z3:=Z3) (Z4:=Z4) (Z1:=Z1) (Z0:=Z0) (c_law_asked:=c_law_asked) (P_law_asked:=P_law_asked) (t.Z0U P w base) (Z3s.mono (by decide)) t.b_len t.Zs t.Zp t.Zv t.Zt
 have Z3t:=Z30 (g:=Gx.mk P w K mg base) (k:=7) (Z5:=Z5) (Zb:=Zb) (Z7:=Z7) (Za:=Za) (Z8:=Z8) (Z6:=Z6) (Zc:=Zc) (Z9:=Z9) (Z2:=Z2) (Z3:=Z3) (Z4:=Z4) (Z1:=Z1) (Z0:=Z0) (c_law_asked:=c_law_asked) (P_law_asked:=P_law_asked) (t.Z0V P w base) (Z4h.mono (by decide)) (Z1m.mono (by decide)) (Z3e.mono (by decide)) t.Z07 t.Z08 t.ZH t.ZA t.ZD t.ZM t.Zs t.Zp t.Zv t.Zt t.Zk t.Zm t.Zh t.Zg t.Ze t.Zf
 have Z1w:=QT (g:=Gx.mk P w K mg base) (Z5:=Z5) (Zb:=Zb) (Z7:=Z7) (Za:=Za) (Z8:=Z8) (Z6:=Z6) (Zc:=Zc) (Z9:=Z9) (Z2:=Z2) (Z3:=Z3) (Z4:=Z4) (Z1:=Z1) (Z0:=Z0) (c_law_asked:=c_law_asked) (P_law_asked:=P_law_asked) (t.Z36 P w base) t.b_list (t.Z3i P w base)
 have Z3f:=Z0a (g:=Gx.mk P w K mg base) (m:=0) (k:=4) (Z5:=Z5) (Zb:=Zb) (Z7:=Z7) (Za:=Za) (Z8:=Z8) (Z6:=Z6) (Zc:=Zc) (Z9:=Z9) (Z2:=Z2) (Z3:=Z3) (Z4:=Z4) (Z1:=Z1) (Z0:=Z0) (c_law_asked:=c_law_asked) (P_law_asked:=P_law_asked) (t.ZO P w base) (Z1w.mono (by decide)) ((t.ZS P w base).none (fun _ _ _ _ h=>QU h)) Z02 (by decide) Z05 (by decide) Z06 (by decide) Z0b (by decide) t.Zx t.Zy t.Zr
 have Z3u:=Z0c (g:=Gx.mk P w K mg base) (m:=0) (k:=4) (Z5:=Z5) (Zb:=Zb) (Z7:=Z7) (Za:=Za) (Z8:=Z8) (Z6:=Z6) (Zc:=Zc) (Z9:=Z9) (Z2:=Z2) (Z3:=Z3) (Z4:=Z4) (Z1:=Z1) (Z0:=Z0) (c_law_asked:=c_law_asked) (P_law_asked:=P_law_asked) (t.ZS P w base) ((t.ZO P w base).none (fun _ _ _ _ h=>Yew h)) t.Zx t.Zy t.Zr
 have Z3g:=Z0a (g:=Gx.mk P w K mg base) (m:=1) (k:=5) (Z5:=Z5) (Zb:=Zb) (Z7:=Z7) (Za:=Za) (Z8:=Z8) (Z6:=Z6) (Zc:=Zc) (Z9:=Z9) (Z2:=Z2) (Z3:=Z3) (Z4:=Z4) (Z1:=Z1) (Z0:=Z0) (c_law_asked:=c_law_asked) (P_law_asked:=P_law_asked) (t.ZO P w base) (Z1w.mono (by decide)) (Z3u.mono (by decide)) Z02 (by decide) Z05 (by decide) Z06 (by decide) Z0b (by decide) t.Zx t.Zy t.Zr
 have Z3v:=Z0c (g:=Gx.mk P w K mg base) (m:=1) (k:=5) (Z5:=Z5) (Zb:=Zb) (Z7:=Z7) (Za:=Za) (Z8:=Z8) (Z6:=Z6) (Zc:=Zc) (Z9:=Z9) (Z2:=Z2) (Z3:=Z3) (Z4:=Z4) (Z1:=Z1) (Z0:=Z0) (c_law_asked:=c_law_asked) (P_law_asked:=P_law_asked) (t.ZS P w base) (Z3f.mono (by decide)) t.Zx t.Zy t.Zr
 have Z3h:=Z0a (g:=Gx.mk P w K mg base) (m:=2) (k:=6) (Z5:=Z5) (Zb:=Zb) (Z7:=Z7) (Za:=Za) (Z8:=Z8) (Z6:=Z6) (Zc:=Zc) (Z9:=Z9) (Z2:=Z2) (Z3:=Z3) (Z4:=Z4) (Z1:=Z1) (Z0:=Z0) (c_law_asked:=c_law_asked) (P_law_asked:=P_law_asked) (t.ZO P w base) (Z1w.mono (by decide)) (Z3v.mono (by decide)) Z02 (by decide) Z05 (by decide) Z06 (by decide) Z0b (by decide) t.Zx t.Zy t.Zr
 have Z3w:=Z0c (g:=Gx.mk P w K mg base) (m:=2) (k:=6) (Z5:=Z5) (Zb:=Zb) (Z7:=Z7) (Za:=Za) (Z8:=Z8) (Z6:=Z6) (Zc:=Zc) (Z9:=Z9) (Z2:=Z2) (Z3:=Z3) (Z4:=Z4) (Z1:=Z1) (Z0:=Z0) (c_law_asked:=c_law_asked) (P_law_asked:=P_law_asked) (t.ZS P w base) (Z3g.mono (by decide)) t.Zx t.Zy t.Zr
 have G_Lister_new_maker:=Z0a (g:=Gx.mk P w K mg base) (m:=3) (k:=7) (Z5:=Z5) (Zb:=Zb) (Z7:=Z7) (Za:=Za) (Z8:=Z8) (Z6:=Z6) (Zc:=Zc) (Z9:=Z9) (Z2:=Z2) (Z3:=Z3) (Z4:=Z4) (Z1:=Z1) (Z0:=Z0) (c_law_asked:=c_law_asked) (P_law_asked:=P_law_asked) (t.ZO P w base) (Z1w.mono (by decide)) (Z3w.mono (by decide)) Z02 (by decide) Z05 (by decide) Z06 (by decide) Z0b (by decide) t.Zx t.Zy t.Zr
 have Z40:=Z0c (g:=Gx.mk P w K mg base) (m:=3) (k:=7) (Z5:=Z5) (Zb:=Zb) (Z7:=Z7) (Za:=Za) (Z8:=Z8) (Z6:=Z6) (Zc:=Zc) (Z9:=Z9) (Z2:=Z2) (Z3:=Z3) (Z4:=Z4) (Z1:=Z1) (Z0:=Z0) (c_law_asked:=c_law_asked) (P_law_asked:=P_law_asked) (t.ZS P w base) (Z3h.mono (by decide)) t.Zx t.Zy t.Zr
 have G_maker_for:=Qy (g:=Gx.mk P w K mg base) (k:=8) (Z5:=Z5) (Zb:=Zb) (Z7:=Z7) (Za:=Za) (Z8:=Z8) (Z6:=Z6) (Zc:=Zc) (Z9:=Z9) (Z2:=Z2) (Z3:=Z3) (Z4:=Z4) (Z1:=Z1) (Z0:=Z0) (c_law_asked:=c_law_asked) (P_law_asked:=P_law_asked) (t.Z22 P w base) Z3Z (by decide) (Z40.mono (by decide)) t.Zx t.Zy t.Zr
 have G_all_made:=QV (g:=Gx.mk P w K mg base) (k:=9) (Z5:=Z5) (Zb:=Zb) (Z7:=Z7) (Za:=Za) (Z8:=Z8) (Z6:=Z6) (Zc:=Zc) (Z9:=Z9) (Z2:=Z2) (Z3:=Z3) (Z4:=Z4) (Z1:=Z1) (Z0:=Z0) (c_law_asked:=c_law_asked) (P_law_asked:=P_law_asked) (t.Z37 P w base) (Z1m.mono (by decide)) (Z3a.mono (by decide)) (Z3t.mono (by decide)) (ZR.mono (by decide)) (Z1n.mono (by decide)) (Z1o.mono (by decide)) t.Zu t.Zi t.Zd t.Zj t.Zs t.Zp t.Zv t.Zt t.Zg t.Ze t.Zf
 have Z41:=Z3H (g:=Gx.mk P w K mg base) (k:=2) (Z5:=Z5) (Zb:=Zb) (Z7:=Z7) (Za:=Za) (Z8:=Z8) (Z6:=Z6) (Zc:=Zc) (Z9:=Z9) (Z2:=Z2) (Z3:=Z3) (Z4:=Z4) (Z1:=Z1) (Z0:=Z0) (c_law_asked:=c_law_asked) (P_law_asked:=P_law_asked) (t.Z17 P w base) Z3P (by decide)
 have G_copied_1:=UF (g:=Gx.mk P w K mg base) (m:=0) (k:=0) (Z5:=Z5) (Zb:=Zb) (Z7:=Z7) (Za:=Za) (Z8:=Z8) (Z6:=Z6) (Zc:=Zc) (Z9:=Z9) (Z2:=Z2) (Z3:=Z3) (Z4:=Z4) (Z1:=Z1) (Z0:=Z0) (c_law_asked:=c_law_asked) (P_law_asked:=P_law_asked) (t.Z1z P w base) ((t.Z1z P w base).none (fun _ _ _ _ h=>Yca h)) t.b_dict t.Zw t.b_list t.Z08
 have G_copied:=UF (g:=Gx.mk P w K mg base) (m:=1) (k:=1) (Z5:=Z5) (Zb:=Zb) (Z7:=Z7) (Za:=Za) (Z8:=Z8) (Z6:=Z6) (Zc:=Zc) (Z9:=Z9) (Z2:=Z2) (Z3:=Z3) (Z4:=Z4) (Z1:=Z1) (Z0:=Z0) (c_law_asked:=c_law_asked) (P_law_asked:=P_law_asked) (t.Z1z P w base) (G_copied_1.mono (by decide)) t.b_dict t.Zw t.b_list t.Z08
 have G_holds:=YcT (g:=Gx.mk P w K mg base) (k:=2) (Z5:=Z5) (Zb:=Zb) (Z7:=Z7) (Za:=Za) (Z8:=Z8) (Z6:=Z6) (Zc:=Zc) (Z9:=Z9) (Z2:=Z2) (Z3:=Z3) (Z4:=Z4) (Z1:=Z1) (Z0:=Z0) (c_law_asked:=c_law_asked) (P_law_asked:=P_law_asked) (t.f_holds P w base) (G_copied.mono (by decide)) (by decide)
 have G_tried_on:=QW (g:=Gx.mk P w K mg base) (k:=3) (Z5:=Z5) (Zb:=Zb) (Z7:=Z7) (Za:=Za) (Z8:=Z8) (Z6:=Z6) (Zc:=Zc) (Z9:=Z9) (Z2:=Z2) (Z3:=Z3) (Z4:=Z4) (Z1:=Z1) (Z0:=Z0) (c_law_asked:=c_law_asked) (P_law_asked:=P_law_asked) (t.Z38 P w base) (G_holds.mono (by decide)) t.Z07 t.b_len
 have G_tried:=YcU (g:=Gx.mk P w K mg base) (k:=10) (Z5:=Z5) (Zb:=Zb) (Z7:=Z7) (Za:=Za) (Z8:=Z8) (Z6:=Z6) (Zc:=Zc) (Z9:=Z9) (Z2:=Z2) (Z3:=Z3) (Z4:=Z4) (Z1:=Z1) (Z0:=Z0) (c_law_asked:=c_law_asked) (P_law_asked:=P_law_asked) (t.f_tried P w base) (G_maker_for.mono (by decide)) (Z41.mono (by decide)) (G_all_made.mono (by decide)) (G_tried_on.mono (by decide)) (ZR.mono (by decide)) (Z1n.mono (by decide)) (Z1o.mono (by decide)) t.b_list t.Zu t.b_sum t.Zi t.Zd t.Zj t.Zs t.Zp t.Zv t.Zt t.Zg t.Ze t.Zf
 have G_law_signs:=QC (g:=Gx.mk P w K mg base) (Z5:=Z5) (Zb:=Zb) (Z7:=Z7) (Za:=Za) (Z8:=Z8) (Z6:=Z6) (Zc:=Zc) (Z9:=Z9) (Z2:=Z2) (Z3:=Z3) (Z4:=Z4) (Z1:=Z1) (Z0:=Z0) (c_law_asked:=c_law_asked) (P_law_asked:=P_law_asked) (t.Z23 P w base) t.Zu
 have G_law_shape:=QD (g:=Gx.mk P w K mg base) (k:=1) (Z5:=Z5) (Zb:=Zb) (Z7:=Z7) (Za:=Za) (Z8:=Z8) (Z6:=Z6) (Zc:=Zc) (Z9:=Z9) (Z2:=Z2) (Z3:=Z3) (Z4:=Z4) (Z1:=Z1) (Z0:=Z0) (c_law_asked:=c_law_asked) (P_law_asked:=P_law_asked) (t.Z24 P w base) (G_law_signs.mono (by decide))
 have G_law_power:=QE (g:=Gx.mk P w K mg base) (Z5:=Z5) (Zb:=Zb) (Z7:=Z7) (Za:=Za) (Z8:=Z8) (Z6:=Z6) (Zc:=Zc) (Z9:=Z9) (Z2:=Z2) (Z3:=Z3) (Z4:=Z4) (Z1:=Z1) (Z0:=Z0) (c_law_asked:=c_law_asked) (P_law_asked:=P_law_asked) (t.Z25 P w base) t.Zu
 have G_law_count:=QF (g:=Gx.mk P w K mg base) (k:=1) (Z5:=Z5) (Zb:=Zb) (Z7:=Z7) (Za:=Za) (Z8:=Z8) (Z6:=Z6) (Zc:=Zc) (Z9:=Z9) (Z2:=Z2) (Z3:=Z3) (Z4:=Z4) (Z1:=Z1) (Z0:=Z0) (c_law_asked:=c_law_asked) (P_law_asked:=P_law_asked) (t.Z26 P w base) (G_law_power.mono (by decide)) t.Zu
 have G_law_asked:=QH (g:=Gx.mk P w K mg base) (k:=11) (Z5:=Z5) (Zb:=Zb) (Z7:=Z7) (Za:=Za) (Z8:=Z8) (Z6:=Z6) (Zc:=Zc) (Z9:=Z9) (Z2:=Z2) (Z3:=Z3) (Z4:=Z4) (Z1:=Z1) (Z0:=Z0) (c_law_asked:=c_law_asked) (P_law_asked:=P_law_asked) (t.Z27 P w base) hB hC_law_asked (G_tried.mono (by decide)) (Z48.mono (by decide)) t.xn_TooMany_count t.xn_TooMany_most t.Z10 t.Zw t.b_len t.x_CountError t.x_NoBreach t.x_NoDraw t.x_NoNumber t.x_NoValue t.x_TooMany t.t_TooMany t.i_TooMany_CountError t.i_TooMany_ValueError t.i_TooMany_NoDraw t.i_TooMany_NoNumber t.i_TooMany_NoValue t.i_TooMany_NoBreach t.m_TooMany_TooMany
 have G_law_good:=QX (g:=Gx.mk P w K mg base) (k:=12) (Z5:=Z5) (Zb:=Zb) (Z7:=Z7) (Za:=Za) (Z8:=Z8) (Z6:=Z6) (Zc:=Zc) (Z9:=Z9) (Z2:=Z2) (Z3:=Z3) (Z4:=Z4) (Z1:=Z1) (Z0:=Z0) (c_law_asked:=c_law_asked) (P_law_asked:=P_law_asked) (t.Z39 P w base) (Z48.mono (by decide)) (G_law_asked.mono (by decide)) t.Zw t.b_len t.Z08
 exact YcX (g:=Gx.mk P w K mg base) (k:=13) (Z5:=Z5) (Zb:=Zb) (Z7:=Z7) (Za:=Za) (Z8:=Z8) (Z6:=Z6) (Zc:=Zc) (Z9:=Z9) (Z2:=Z2) (Z3:=Z3) (Z4:=Z4) (Z1:=Z1) (Z0:=Z0) (c_law_asked:=c_law_asked) (P_law_asked:=P_law_asked) (G_law_cell_at.mono (by decide)) (G_law_shape.mono (by decide)) (G_law_count.mono (by decide)) (G_law_good.mono (by decide)) t.b_min t.Zu
end KW
theorem PySem.W.Fast.tw17785492392118993266:True:=trivial
theorem PySem.W.Fast.tw15572460180647806298:True:=trivial
theorem PySem.W.Fast.tw1676200845053181035:True:=trivial
theorem PySem.W.Fast.tw2589327436862737423:True:=trivial
theorem PySem.W.Fast.tw8837040408766212205:True:=trivial
theorem PySem.W.Fast.tw6239577776970512216:True:=trivial
theorem PySem.W.Fast.tw16547511617803380596:True:=trivial
theorem PySem.W.Fast.tw6948245246733659847:True:=trivial
theorem PySem.W.Fast.tw17863645802733982656:True:=trivial
theorem PySem.W.Fast.tw6080928419973195482:True:=trivial
theorem PySem.W.Fast.tw16715532385700755308:True:=trivial
theorem PySem.W.Fast.tw12693923927755560820:True:=trivial
theorem PySem.W.Fast.tw1590103370738573625:True:=trivial
theorem PySem.W.Fast.tw7402752385675569906:True:=trivial
theorem PySem.W.Fast.tw2744348070857799771:True:=trivial
theorem PySem.W.Fast.tw5490469352958432729:True:=trivial
theorem PySem.W.Fast.tw1012535332044424787:True:=trivial
theorem PySem.W.Fast.tw15831711555062246239:True:=trivial
theorem PySem.W.Fast.tw3207429824485861782:True:=trivial
theorem PySem.W.Fast.tw16456262534204317187:True:=trivial
theorem PySem.W.Fast.tw17252129559524463642:True:=trivial
theorem PySem.W.Fast.tw16428847163843277064:True:=trivial
theorem PySem.W.Fast.tw6482232142010453378:True:=trivial
theorem PySem.W.Fast.tw9579894183385690422:True:=trivial
theorem PySem.W.Fast.tw1768389542720809508:True:=trivial
theorem PySem.W.Fast.tw14713674981096503000:True:=trivial
theorem PySem.W.Fast.tw13059515446079030399:True:=trivial
theorem PySem.W.Fast.tw17515474088635220857:True:=trivial
theorem PySem.W.Fast.tw13633195840204069290:True:=trivial
theorem PySem.W.Fast.tw10205333485906185224:True:=trivial
theorem PySem.W.Fast.tw3880398488585192101:True:=trivial
theorem PySem.W.Fast.tw2804816640409379251:True:=trivial
theorem PySem.W.Fast.tw2266602929023231541:True:=trivial
theorem PySem.W.Fast.tw9409790216036089157:True:=trivial
theorem PySem.W.Fast.tw16838004828458808944:True:=trivial
theorem PySem.W.Fast.tw5125648192921112424:True:=trivial
theorem PySem.W.Fast.tw15666203439790958123:True:=trivial
theorem PySem.W.Fast.tw4428791981262839340:True:=trivial
theorem PySem.W.Fast.tw17323917920450798865:True:=trivial
theorem PySem.W.Fast.tw6344727610680648294:True:=trivial
theorem PySem.W.Fast.tw14628881809621697930:True:=trivial
theorem PySem.W.Fast.tw4131474965205306406:True:=trivial
theorem PySem.W.Fast.tw2856643247594151510:True:=trivial
theorem PySem.W.Fast.tw11964658994013334866:True:=trivial
theorem PySem.W.Fast.tw15841280919494776080:True:=trivial
theorem PySem.W.Fast.tw10919791105132127131:True:=trivial
theorem PySem.W.Fast.tw1366242290802935095:True:=trivial
theorem PySem.W.Fast.tw11711603956103871912:True:=trivial
theorem PySem.W.Fast.tw2214393847247341239:True:=trivial
theorem PySem.W.Fast.tw4368332475339743890:True:=trivial
open PySem PySem.W PyProof.Rows
set_option maxRecDepth 100000 in
set_option maxHeartbeats 0 in
theorem PySem.Challenge.cw_countgen_k61_too_many_holds : PySem.Challenge.rw_countgen_k61_too_many.Holds := by
 w_on;o_law;k_head;(case hw=>w_witness2)
 k_fill
 refine' L2.Ycz (l:=PySem.Challenge.rw_countgen_k61_too_many) (tabs:=[("_law_asked",798,794)]) 13 "_law_script" KW.UW ["_law_script","_law_kind","_law_cell","_law_size","_law_book","_law_shape_here","_law_total","_law_k","_law_less","_law_other"] rfl rfl ⟨rfl,by decide,by decide,rfl⟩ KW.Xt (fun w h Y=>by first | exact PySem.W.kIn_of Y | exact PySem.W.km_in_of Y) ?tR ?tT ?tN ?F
 case tR=>intro p hp;simp only [List.mem_cons,List.not_mem_nil,or_false] at hp;rcases hp with rfl<;>exact ⟨_,rfl⟩
 case tT=>intro w p hp;simp only [List.mem_cons,List.not_mem_nil,or_false] at hp;rcases hp with rfl<;>kernel_rfl
 case tN=>intro w p hp;simp only [List.mem_cons,List.not_mem_nil,or_false] at hp;rcases hp with rfl<;>kernel_rfl
 case F =>
  intro w mg h KX G
  refine' ⟨L2.YbE KX G ?a ?l ?c ?k (fun _ _ _ _ _ _ _ _ => .of_eq rfl),fun base hB hC=>KW.YcY ⟨?Z21,?Z1u,?Z1e,?Z0m,?Z0C,?Z1f,?Z0n,?Z0o,?ZP,?ZQ,?Z0p,?Z0D,?Z3O,?ZE,?ZI,?ZJ,?Z0E,?Z16,?Z1g,?Z35,?Z0F,?ZK,?ZL,?ZN,?Z0R,?Z0S,?Z0T,?Z0U,?Z0V,?Z36,?ZO,?ZS,?Z22,?Z37,?Z17,?Z1z,?f_holds,?Z38,?f_tried,?Z23,?Z24,?Z25,?Z26,?Z27,?Z39,?ZH,?ZA,?ZD,?ZM,?Zx,?Zy,?Zr,?Zi,?Zd,?Zj,?Zs,?Zp,?Zv,?Zt,?Zk,?Zm,?Zh,?Zg,?Ze,?Zf,?Zn,?Zl,?Zq,?Zo,?Z3i,?Z10,?b_bool,?b_dict,?Z07,?b_int,?Zw,?b_len,?b_list,?b_max,?b_min,?Zu,?b_sum,?Z08,?x_CountError,?x_NoDraw,?x_NoNumber,?x_NoValue,?x_NoBreach,?x_TooMany,?t_TooMany,?xi_TooMany,?xf_TooMany,?xn_TooMany_count,?xn_TooMany_most,?bi_CountError,?i_TooMany_CountError,?i_TooMany_NoBreach,?i_TooMany_NoDraw,?i_TooMany_NoNumber,?i_TooMany_NoValue,?i_TooMany_ValueError,?m_TooMany_TooMany⟩ _ w base hB (hC _ (.head _))⟩
  (case a=>k_is)
  (case l=>k_is)
  (case c=>k_is)
  (case k=>k_is)
  case Z0m =>
   refine' L2.XW KX G ["self","low","high"] ?aC ?mk ?kc ?a ?i ?l ?c ?k (fun _ _ _ _ _ _ us hl=>by obtain ⟨_,_,_,rfl⟩:=KW.us3 hl;rfl)
   (case aC=>k_is)
   (case mk=>k_is)
   (case kc=>k_is)
   (case a=>k_is)
   (case i=>k_is)
   (case l=>k_is)
   (case c=>k_is)
   (case k=>k_is)
  case Z0C =>
   refine' L2.XW KX G ["self","signs"] ?aC ?mk ?kc ?a ?i ?l ?c ?k (fun _ _ _ _ _ _ us hl=>by obtain ⟨_,_,rfl⟩:=KW.us2 hl;rfl)
   (case aC=>k_is)
   (case mk=>k_is)
   (case kc=>k_is)
   (case a=>k_is)
   (case i=>k_is)
   (case l=>k_is)
   (case c=>k_is)
   (case k=>k_is)
  case Z0E =>
   refine' L2.XW KX G ["self","part"] ?aC ?mk ?kc ?a ?i ?l ?c ?k (fun _ _ _ _ _ _ us hl=>by obtain ⟨_,_,rfl⟩:=KW.us2 hl;rfl)
   (case aC=>k_is)
   (case mk=>k_is)
   (case kc=>k_is)
   (case a=>k_is)
   (case i=>k_is)
   (case l=>k_is)
   (case c=>k_is)
   (case k=>k_is)
  case Z16 =>
   refine' L2.XW KX G ["self","book"] ?aC ?mk ?kc ?a ?i ?l ?c ?k (fun _ _ _ _ _ _ us hl=>by obtain ⟨_,_,rfl⟩:=KW.us2 hl;rfl)
   (case aC=>k_is)
   (case mk=>k_is)
   (case kc=>k_is)
   (case a=>k_is)
   (case i=>k_is)
   (case l=>k_is)
   (case c=>k_is)
   (case k=>k_is)
  case Z1g =>
   refine' L2.XW KX G ["self","place","choice","rest"] ?aC ?mk ?kc ?a ?i ?l ?c ?k (fun _ _ _ _ _ _ us hl=>by obtain ⟨_,_,_,_,rfl⟩:=KW.us4 hl;rfl)
   (case aC=>k_is)
   (case mk=>k_is)
   (case kc=>k_is)
   (case a=>k_is)
   (case i=>k_is)
   (case l=>k_is)
   (case c=>k_is)
   (case k=>k_is)
  case Z0R =>
   refine' L2.XW KX G ["self","parts"] ?aC ?mk ?kc ?a ?i ?l ?c ?k (fun _ _ _ _ _ _ us hl=>by obtain ⟨_,_,rfl⟩:=KW.us2 hl;rfl)
   (case aC=>k_is)
   (case mk=>k_is)
   (case kc=>k_is)
   (case a=>k_is)
   (case i=>k_is)
   (case l=>k_is)
   (case c=>k_is)
   (case k=>k_is)
  case Z0S =>
   refine' L2.XW KX G ["self","parts"] ?aC ?mk ?kc ?a ?i ?l ?c ?k (fun _ _ _ _ _ _ us hl=>by obtain ⟨_,_,rfl⟩:=KW.us2 hl;rfl)
   (case aC=>k_is)
   (case mk=>k_is)
   (case kc=>k_is)
   (case a=>k_is)
   (case i=>k_is)
   (case l=>k_is)
   (case c=>k_is)
   (case k=>k_is)
  case Z21 =>
   refine' L2.Y5 KX G ["_law_found"] ?a ?l ?c ?k (fun _ _ _ _ _ _ us hl=>by obtain ⟨_,rfl⟩:=KW.us1 hl;rfl)
   (case a=>k_is)
   (case l=>k_is)
   (case c=>k_is)
   (case k=>k_is)
  case Z1u =>
   refine' L2.Y5 KX G ["_law_script","_law_k"] ?a ?l ?c ?k (fun _ _ _ _ _ _ us hl=>by obtain ⟨_,_,rfl⟩:=KW.us2 hl;rfl)
   (case a=>k_is)
   (case l=>k_is)
   (case c=>k_is)
   (case k=>k_is)
  case Z1e =>
   refine' L2.YdH KX G ["self"] ?aB ?ga ?rd ?a ?l ?c ?k (fun _ _ _ _ _ _ us hl=>by obtain ⟨_,rfl⟩:=KW.us1 hl;rfl)
   (case aB=>k_is)
   (case ga=>k_is)
   (case rd=>k_is)
   (case a=>k_is)
   (case l=>k_is)
   (case c=>k_is)
   (case k=>k_is)
  case Z1f =>
   refine' L2.Y5 KX G ["size"] ?a ?l ?c ?k (fun _ _ _ _ _ _ us hl=>by obtain ⟨_,rfl⟩:=KW.us1 hl;rfl)
   (case a=>k_is)
   (case l=>k_is)
   (case c=>k_is)
   (case k=>k_is)
  case Z0n =>
   refine' L2.YY KX G ["self","size"] ?a ?i ?l ?c ?k (fun _ _ _ _ _ _ us hl=>by obtain ⟨_,_,rfl⟩:=KW.us2 hl;rfl)
   (case a=>k_is)
   (case i=>k_is)
   (case l=>k_is)
   (case c=>k_is)
   (case k=>k_is)
  case Z0o =>
   refine' L2.YY KX G ["self","size"] ?a ?i ?l ?c ?k (fun _ _ _ _ _ _ us hl=>by obtain ⟨_,_,rfl⟩:=KW.us2 hl;rfl)
   (case a=>k_is)
   (case i=>k_is)
   (case l=>k_is)
   (case c=>k_is)
   (case k=>k_is)
  case ZP =>
   refine' L2.YY KX G ["self","size"] ?a ?i ?l ?c ?k (fun _ _ _ _ _ _ us hl=>by obtain ⟨_,_,rfl⟩:=KW.us2 hl;rfl)
   (case a=>k_is)
   (case i=>k_is)
   (case l=>k_is)
   (case c=>k_is)
   (case k=>k_is)
  case ZQ =>
   refine' L2.YY KX G ["self","size"] ?a ?i ?l ?c ?k (fun _ _ _ _ _ _ us hl=>by obtain ⟨_,_,rfl⟩:=KW.us2 hl;rfl)
   (case a=>k_is)
   (case i=>k_is)
   (case l=>k_is)
   (case c=>k_is)
   (case k=>k_is)
  case Z0p =>
   refine' L2.YY KX G ["self","size","number"] ?a ?i ?l ?c ?k (fun _ _ _ _ _ _ us hl=>by obtain ⟨_,_,_,rfl⟩:=KW.us3 hl;rfl)
   (case a=>k_is)
   (case i=>k_is)
   (case l=>k_is)
   (case c=>k_is)
   (case k=>k_is)
  case Z0D =>
   refine' L2.YY KX G ["self","size","number"] ?a ?i ?l ?c ?k (fun _ _ _ _ _ _ us hl=>by obtain ⟨_,_,_,rfl⟩:=KW.us3 hl;rfl)
   (case a=>k_is)
   (case i=>k_is)
   (case l=>k_is)
   (case c=>k_is)
   (case k=>k_is)
  case Z3O =>
   refine' L2.Y5 KX G ["blocks"] ?a ?l ?c ?k (fun _ _ _ _ _ _ us hl=>by obtain ⟨_,rfl⟩:=KW.us1 hl;rfl)
   (case a=>k_is)
   (case l=>k_is)
   (case c=>k_is)
   (case k=>k_is)
  case ZE =>
   refine' L2.YY KX G ["self","left"] ?a ?i ?l ?c ?k (fun _ _ _ _ _ _ us hl=>by obtain ⟨_,_,rfl⟩:=KW.us2 hl;rfl)
   (case a=>k_is)
   (case i=>k_is)
   (case l=>k_is)
   (case c=>k_is)
   (case k=>k_is)
  case ZI =>
   refine' L2.YY KX G ["self","size"] ?a ?i ?l ?c ?k (fun _ _ _ _ _ _ us hl=>by obtain ⟨_,_,rfl⟩:=KW.us2 hl;rfl)
   (case a=>k_is)
   (case i=>k_is)
   (case l=>k_is)
   (case c=>k_is)
   (case k=>k_is)
  case ZJ =>
   refine' L2.YY KX G ["self","size"] ?a ?i ?l ?c ?k (fun _ _ _ _ _ _ us hl=>by obtain ⟨_,_,rfl⟩:=KW.us2 hl;rfl)
   (case a=>k_is)
   (case i=>k_is)
   (case l=>k_is)
   (case c=>k_is)
   (case k=>k_is)
  case Z35 =>
   refine' L2.Y5 KX G ["blocks","number"] ?a ?l ?c ?k (fun _ _ _ _ _ _ us hl=>by obtain ⟨_,_,rfl⟩:=KW.us2 hl;rfl)
   (case a=>k_is)
   (case l=>k_is)
   (case c=>k_is)
   (case k=>k_is)
  case Z0F =>
   refine' L2.YY KX G ["self","size","number"] ?a ?i ?l ?c ?k (fun _ _ _ _ _ _ us hl=>by obtain ⟨_,_,_,rfl⟩:=KW.us3 hl;rfl)
   (case a=>k_is)
   (case i=>k_is)
   (case l=>k_is)
   (case c=>k_is)
   (case k=>k_is)
  case ZK =>
   refine' L2.YY KX G ["self","place","left"] ?a ?i ?l ?c ?k (fun _ _ _ _ _ _ us hl=>by obtain ⟨_,_,_,rfl⟩:=KW.us3 hl;rfl)
   (case a=>k_is)
   (case i=>k_is)
   (case l=>k_is)
   (case c=>k_is)
   (case k=>k_is)
  case ZL =>
   refine' L2.YY KX G ["self","size"] ?a ?i ?l ?c ?k (fun _ _ _ _ _ _ us hl=>by obtain ⟨_,_,rfl⟩:=KW.us2 hl;rfl)
   (case a=>k_is)
   (case i=>k_is)
   (case l=>k_is)
   (case c=>k_is)
   (case k=>k_is)
  case ZN =>
   refine' L2.YY KX G ["self","place","left"] ?a ?i ?l ?c ?k (fun _ _ _ _ _ _ us hl=>by obtain ⟨_,_,_,rfl⟩:=KW.us3 hl;rfl)
   (case a=>k_is)
   (case i=>k_is)
   (case l=>k_is)
   (case c=>k_is)
   (case k=>k_is)
  case Z0T =>
   refine' L2.YY KX G ["self","size"] ?a ?i ?l ?c ?k (fun _ _ _ _ _ _ us hl=>by obtain ⟨_,_,rfl⟩:=KW.us2 hl;rfl)
   (case a=>k_is)
   (case i=>k_is)
   (case l=>k_is)
   (case c=>k_is)
   (case k=>k_is)
  case Z0U =>
   refine' L2.YY KX G ["self","size"] ?a ?i ?l ?c ?k (fun _ _ _ _ _ _ us hl=>by obtain ⟨_,_,rfl⟩:=KW.us2 hl;rfl)
   (case a=>k_is)
   (case i=>k_is)
   (case l=>k_is)
   (case c=>k_is)
   (case k=>k_is)
  case Z0V =>
   refine' L2.YY KX G ["self","size","number"] ?a ?i ?l ?c ?k (fun _ _ _ _ _ _ us hl=>by obtain ⟨_,_,_,rfl⟩:=KW.us3 hl;rfl)
   (case a=>k_is)
   (case i=>k_is)
   (case l=>k_is)
   (case c=>k_is)
   (case k=>k_is)
  case Z36 =>
   refine' L2.Y5 KX G ["shape"] ?a ?l ?c ?k (fun _ _ _ _ _ _ us hl=>by obtain ⟨_,rfl⟩:=KW.us1 hl;rfl)
   (case a=>k_is)
   (case l=>k_is)
   (case c=>k_is)
   (case k=>k_is)
  case ZO =>
   refine' L2.YY KX G ["self","shape"] ?a ?i ?l ?c ?k (fun _ _ _ _ _ _ us hl=>by obtain ⟨_,_,rfl⟩:=KW.us2 hl;rfl)
   (case a=>k_is)
   (case i=>k_is)
   (case l=>k_is)
   (case c=>k_is)
   (case k=>k_is)
  case ZS =>
   refine' L2.YY KX G ["self","shape"] ?a ?i ?l ?c ?k (fun _ _ _ _ _ _ us hl=>by obtain ⟨_,_,rfl⟩:=KW.us2 hl;rfl)
   (case a=>k_is)
   (case i=>k_is)
   (case l=>k_is)
   (case c=>k_is)
   (case k=>k_is)
  case Z22 =>
   refine' L2.Y5 KX G ["book","shape"] ?a ?l ?c ?k (fun _ _ _ _ _ _ us hl=>by obtain ⟨_,_,rfl⟩:=KW.us2 hl;rfl)
   (case a=>k_is)
   (case l=>k_is)
   (case c=>k_is)
   (case k=>k_is)
  case Z37 =>
   refine' L2.Y5 KX G ["maker","size"] ?a ?l ?c ?k (fun _ _ _ _ _ _ us hl=>by obtain ⟨_,_,rfl⟩:=KW.us2 hl;rfl)
   (case a=>k_is)
   (case l=>k_is)
   (case c=>k_is)
   (case k=>k_is)
  case Z17 =>
   refine' L2.Y5 KX G ["count","most"] ?a ?l ?c ?k (fun _ _ _ _ _ _ us hl=>by obtain ⟨_,_,rfl⟩:=KW.us2 hl;rfl)
   (case a=>k_is)
   (case l=>k_is)
   (case c=>k_is)
   (case k=>k_is)
  case Z1z =>
   refine' L2.Y5 KX G ["thing"] ?a ?l ?c ?k (fun _ _ _ _ _ _ us hl=>by obtain ⟨_,rfl⟩:=KW.us1 hl;rfl)
   (case a=>k_is)
   (case l=>k_is)
   (case c=>k_is)
   (case k=>k_is)
  case f_holds =>
   refine' L2.Y5 KX G ["judge","value"] ?a ?l ?c ?k (fun _ _ _ _ _ _ us hl=>by obtain ⟨_,_,rfl⟩:=KW.us2 hl;rfl)
   (case a=>k_is)
   (case l=>k_is)
   (case c=>k_is)
   (case k=>k_is)
  case Z38 =>
   refine' L2.Y5 KX G ["judge","values"] ?a ?l ?c ?k (fun _ _ _ _ _ _ us hl=>by obtain ⟨_,_,rfl⟩:=KW.us2 hl;rfl)
   (case a=>k_is)
   (case l=>k_is)
   (case c=>k_is)
   (case k=>k_is)
  case f_tried =>
   refine' L2.YcM KX G ["book","shape","judge","size","most"] [.int 400] 4 ?a ?l ?c ?k ?t ?s ?v ?e ?b ?b0
   (case a=>k_is)
   (case l=>k_is)
   (case c=>k_is)
   (case k=>k_is)
   (case t=>k_is)
   (case s=>rfl)
   (case v=>exact .cons ⟨_,rfl⟩ (.nil))
   (case e=>rfl)
   (case b=>exact fun us hl=>match us,hl with | [_,_,_,_],_=>⟨_,rfl,rfl⟩)
   (case b0=>exact fun us hl=>match us,hl with | [_,_,_,_,_],_=>⟨_,rfl,rfl⟩)
  case Z23 =>
   refine' L2.Y5 KX G ["_law_cell","_law_many"] ?a ?l ?c ?k (fun _ _ _ _ _ _ us hl=>by obtain ⟨_,_,rfl⟩:=KW.us2 hl;rfl)
   (case a=>k_is)
   (case l=>k_is)
   (case c=>k_is)
   (case k=>k_is)
  case Z24 =>
   refine' L2.Y5 KX G ["_law_kind","_law_cell"] ?a ?l ?c ?k (fun _ _ _ _ _ _ us hl=>by obtain ⟨_,_,rfl⟩:=KW.us2 hl;rfl)
   (case a=>k_is)
   (case l=>k_is)
   (case c=>k_is)
   (case k=>k_is)
  case Z25 =>
   refine' L2.Y5 KX G ["_law_number","_law_times"] ?a ?l ?c ?k (fun _ _ _ _ _ _ us hl=>by obtain ⟨_,_,rfl⟩:=KW.us2 hl;rfl)
   (case a=>k_is)
   (case l=>k_is)
   (case c=>k_is)
   (case k=>k_is)
  case Z26 =>
   refine' L2.Y5 KX G ["_law_kind","_law_cell","_law_size"] ?a ?l ?c ?k (fun _ _ _ _ _ _ us hl=>by obtain ⟨_,_,_,rfl⟩:=KW.us3 hl;rfl)
   (case a=>k_is)
   (case l=>k_is)
   (case c=>k_is)
   (case k=>k_is)
  case Z27 =>
   refine' L2.YdI KX G ["_law_book","_law_shape_here","_law_size","_law_most"] ?a ?l ?c ?k ?e (fun _ _ _ _ _ _ us hl=>by obtain ⟨_,_,_,_,rfl⟩:=KW.us4 hl;rfl)
   (case a=>k_is)
   (case l=>k_is)
   (case c=>k_is)
   (case k=>k_is)
   (case e=>rfl)
  case Z39 =>
   refine' L2.Y5 KX G ["_law_book","_law_shape_here","_law_size","_law_most","_law_total"] ?a ?l ?c ?k (fun _ _ _ _ _ _ us hl=>by obtain ⟨_,_,_,_,_,rfl⟩:=KW.us5 hl;rfl)
   (case a=>k_is)
   (case l=>k_is)
   (case c=>k_is)
   (case k=>k_is)
  case ZH =>
   refine' ⟨?a,?b,?c,?d⟩
   (case a=>k_is)
   (case b=>k_is)
   (case c=>k_is)
   (case d=>k_is)
  case ZA =>
   refine' L2.YR ?a
   (case a=>k_is)
  case ZD =>
   refine' L2.YR ?a
   (case a=>k_is)
  case ZM =>
   refine' L2.YR ?a
   (case a=>k_is)
  case Zx =>
   refine' ⟨?a,?b,?c,?d⟩
   (case a=>k_is)
   (case b=>k_is)
   (case c=>k_is)
   (case d=>k_is)
  case Zy =>
   refine' L2.YR ?a
   (case a=>k_is)
  case Zr =>
   refine' L2.YR ?a
   (case a=>k_is)
  case Zi =>
   refine' ⟨?a,?b,?c,?d⟩
   (case a=>k_is)
   (case b=>k_is)
   (case c=>k_is)
   (case d=>k_is)
  case Zd =>
   refine' L2.YR ?a
   (case a=>k_is)
  case Zj =>
   refine' L2.YR ?a
   (case a=>k_is)
  case Zs =>
   refine' ⟨?a,?b,?c,?d⟩
   (case a=>k_is)
   (case b=>k_is)
   (case c=>k_is)
   (case d=>k_is)
  case Zp =>
   refine' L2.YR ?a
   (case a=>k_is)
  case Zv =>
   refine' L2.YR ?a
   (case a=>k_is)
  case Zt =>
   refine' L2.YR ?a
   (case a=>k_is)
  case Zk =>
   refine' ⟨?a,?b,?c,?d⟩
   (case a=>k_is)
   (case b=>k_is)
   (case c=>k_is)
   (case d=>k_is)
  case Zm =>
   refine' L2.YR ?a
   (case a=>k_is)
  case Zh =>
   refine' L2.YR ?a
   (case a=>k_is)
  case Zg =>
   refine' ⟨?a,?b,?c,?d⟩
   (case a=>k_is)
   (case b=>k_is)
   (case c=>k_is)
   (case d=>k_is)
  case Ze =>
   refine' L2.YR ?a
   (case a=>k_is)
  case Zf =>
   refine' L2.YR ?a
   (case a=>k_is)
  case Zn =>
   refine' ⟨?a,?b,?c,?d⟩
   (case a=>k_is)
   (case b=>k_is)
   (case c=>k_is)
   (case d=>k_is)
  case Zl =>
   refine' L2.YR ?a
   (case a=>k_is)
  case Zq =>
   refine' L2.YR ?a
   (case a=>k_is)
  case Zo =>
   refine' L2.YR ?a
   (case a=>k_is)
  case Z3i =>
   refine' L2.YdA KX G ?a ?l ?z ?r
   (case a=>k_is)
   (case l=>k_is)
   (case z=>decide)
   (case r=>exact (.cons ⟨_,rfl⟩ (.cons ⟨_,rfl⟩ (.cons ⟨_,rfl⟩ .nil))))
  case Z10 =>
   refine' PySem.W.mg_none_of KX G ?a
   (case a=>k_is)
  case b_bool =>
   refine' PySem.W.mg_none_of KX G ?a
   (case a=>k_is)
  case b_dict =>
   refine' PySem.W.mg_none_of KX G ?a
   (case a=>k_is)
  case Z07 =>
   refine' PySem.W.mg_none_of KX G ?a
   (case a=>k_is)
  case b_int =>
   refine' PySem.W.mg_none_of KX G ?a
   (case a=>k_is)
  case Zw =>
   refine' PySem.W.mg_none_of KX G ?a
   (case a=>k_is)
  case b_len =>
   refine' PySem.W.mg_none_of KX G ?a
   (case a=>k_is)
  case b_list =>
   refine' PySem.W.mg_none_of KX G ?a
   (case a=>k_is)
  case b_max =>
   refine' PySem.W.mg_none_of KX G ?a
   (case a=>k_is)
  case b_min =>
   refine' PySem.W.mg_none_of KX G ?a
   (case a=>k_is)
  case Zu =>
   refine' PySem.W.mg_none_of KX G ?a
   (case a=>k_is)
  case b_sum =>
   refine' PySem.W.mg_none_of KX G ?a
   (case a=>k_is)
  case Z08 =>
   refine' PySem.W.mg_none_of KX G ?a
   (case a=>k_is)
  case x_CountError =>
   refine' PySem.W.mg_of KX G ?a
   (case a=>k_is)
  case x_NoDraw =>
   refine' PySem.W.mg_of KX G ?a
   (case a=>k_is)
  case x_NoNumber =>
   refine' PySem.W.mg_of KX G ?a
   (case a=>k_is)
  case x_NoValue =>
   refine' PySem.W.mg_of KX G ?a
   (case a=>k_is)
  case x_NoBreach =>
   refine' PySem.W.mg_of KX G ?a
   (case a=>k_is)
  case x_TooMany =>
   refine' PySem.W.mg_of KX G ?a
   (case a=>k_is)
  case xi_TooMany =>
   refine' L2.YdL KX G ["self","count","most"] ?aC ?a ?o ?i ?l ?c ?k (fun _ _ _ _ _ _ us hl=>by obtain ⟨_,_,_,rfl⟩:=KW.us3 hl;rfl)
   (case aC=>k_is)
   (case a=>k_is)
   (case o=>kernel_rfl)
   (case i=>k_is)
   (case l=>k_is)
   (case c=>k_is)
   (case k=>k_is)
  case xf_TooMany =>
   refine' ⟨?a,?b,?c⟩
   (case a=>k_is)
   (case b=>kernel_rfl)
   (case c=>k_is)
  case xn_TooMany_count=>k_is
  case xn_TooMany_most=>k_is
  case bi_CountError =>
   refine' L2.YcL KX G ?a ?b ?c ?d
   (case a=>k_is)
   (case b=>k_is)
   (case c=>k_is)
   (case d=>k_is)
  case t_TooMany =>
   refine' ⟨?a,?b,?c,?d,?e,?f⟩
   (case a=>k_is)
   (case b=>k_is)
   (case c=>k_is)
   (case d=>k_is)
   (case e=>k_is)
   (case f=>k_is)
  case i_TooMany_CountError=>kit_is
  case i_TooMany_NoBreach=>kit_is
  case i_TooMany_NoDraw=>kit_is
  case i_TooMany_NoNumber=>kit_is
  case i_TooMany_NoValue=>kit_is
  case i_TooMany_ValueError=>kit_is
  case m_TooMany_TooMany=>kts_exm
