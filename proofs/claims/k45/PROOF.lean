import PyProof.Rows.All
import Wide.All
import OpenK.AllK
import Wide.FinOn
import Lean
import PyProof.EqAt
import PyProof.EqKinds
import PyProof.TupleCall
import PyProof.NeData
import KE.KTryMore
import PyProof.ExcBaseAll.ValueError
import PyProof.ExcArgsOwn
import KE.KIntText
import PyProof.Rows.SetFrom
import PyProof.SetRoads
import PyProof.StrWalks
import PyProof.ListStr
import PyProof.Rows.StrSplitCount
import PyProof.MeetsStr
import PyProof.MeetsStr2
import PyProof.StrOps2
import KE.KTryOn
import OpenK.KMake
import PyProof.ReprRoads
import PyProof.ReprLen
import PyProof.StrLawsRepr
import PyProof.CallFns
import KE.KSortTup
import PyProof.StrCalls6
import PyProof.MeetsStr3
import PyProof.CollectIter
import PySem.Challenge.RW_countgen_k45_whole_trees_sieved
set_option compiler.extract_closed false
set_option Elab.async false
set_option linter.all false
set_option maxRecDepth 100000
namespace L2
open PySem PySem.Spec PyProof.Rows
abbrev Key:=Sum Int Str
def VV:Key→Value→Bool
 | .inl k,v=>Value.isInt k v
 | .inr x,v=>Value.isStrOf x v
def keyH (w:World):Key→Int
 | .inl k=>hashInt k
 | .inr x=>hashStr w x
theorem Y4:∀ {k:Key} {v:Value},VV k v=true→(∃ i t,k=Sum.inl i∧v=Value.int i t)∨(∃ x t,k=Sum.inr x∧v=Value.str x t)
 | .inl i,v,h=>by
  obtain ⟨t,e⟩:=Value.isInt_shape (k:=i) (v:=v) h
  exact .inl ⟨i,t,rfl,e⟩
 | .inr x,v,h=>by
  obtain ⟨t,e⟩:=Value.isStrOf_shape (x:=x) (v:=v) h
  exact .inr ⟨x,t,rfl,e⟩
theorem YcM (i:Int) (t:Tok):VV (.inl i) (.int i t)=true:=by simp [VV,Value.isInt]
theorem YcN (x:Str) (t:Tok):VV (.inr x) (.str x t)=true:=by simp [VV,Value.isStrOf]
theorem YfP (a b:Int):decide ((Sum.inl a:Key)=Sum.inl b)=(a==b):=by
 by_cases e:a=b
 ·subst e;simp
 ·have h:¬ (Sum.inl a:Key)=Sum.inl b:=fun q=>e (Sum.inl.inj q)
  rw [decide_eq_false h]
  exact (beq_eq_false_iff_ne.mpr e).symm
theorem YfQ (a b:Str):decide ((Sum.inr a:Key)=Sum.inr b)=decide (a=b):=by
 by_cases e:a=b
 ·subst e;simp
 ·have h:¬ (Sum.inr a:Key)=Sum.inr b:=fun q=>e (Sum.inr.inj q)
  rw [decide_eq_false h,decide_eq_false e]
theorem YfR (a:Int) (b:Str):decide ((Sum.inl a:Key)=Sum.inr b)=false:=decide_eq_false (fun q=>nomatch q)
theorem YfS (a:Str) (b:Int):decide ((Sum.inr a:Key)=Sum.inl b)=false:=decide_eq_false (fun q=>nomatch q)
def XL (prog:Program) (w:World):PySem.KeyKind prog w Key where
 is:=VV
 hash:=keyH w
 inj:=fun v a b ha hb=>by
  rcases Y4 ha with ⟨i,t,rfl,rfl⟩ | ⟨x,t,rfl,rfl⟩
  ·rcases Y4 hb with ⟨j,u,rfl,e⟩ | ⟨y,u,rfl,e⟩
   ·injection e with e1 _;rw [e1]
   ·exact nomatch e
  ·rcases Y4 hb with ⟨j,u,rfl,e⟩ | ⟨y,u,rfl,e⟩
   ·exact nomatch e
   ·injection e with e1 _;rw [e1]
 byValue:=fun k v h=>by
  rcases Y4 h with ⟨i,t,rfl,rfl⟩ | ⟨x,t,rfl,rfl⟩<;>rfl
 pyHash:=fun hv h=>by
  rcases Y4 hv with ⟨i,t,rfl,rfl⟩ | ⟨x,t,rfl,rfl⟩
  ·exact wpAny_pyHash_int h
  ·exact wpAny_pyHash_str h
 eqBool:=fun hu hv h=>by
  rcases Y4 hu with ⟨i,t,rfl,rfl⟩ | ⟨x,t,rfl,rfl⟩
  ·rcases Y4 hv with ⟨j,u,rfl,rfl⟩ | ⟨y,u,rfl,rfl⟩
   ·rw [YfP] at h;exact wpAny_eqBool_int h
   ·rw [YfR] at h;exact SeqAt.EqAt.int_str i t y u _ _ _ _ h
  ·rcases Y4 hv with ⟨j,u,rfl,rfl⟩ | ⟨y,u,rfl,rfl⟩
   ·rw [YfS] at h;exact SeqAt.EqAt.str_int x t j u _ _ _ _ h
   ·rw [YfQ] at h;exact wpAny_eqBool_str h
 «strs»:=fun k x t v h=>by
  rcases Y4 h with ⟨i,u,rfl,e⟩ | ⟨y,u,rfl,e⟩
  ·exact nomatch e
  ·injection e with e1 _
   subst e1
   cases v<;>rfl
theorem YaU (prog:Program) (w:World) (i:Int) (t:Tok):(XL prog w).is (.inl i) (.int i t)=true:=YcM i t
theorem YaV (prog:Program) (w:World) (x:Str) (t:Tok):(XL prog w).is (.inr x) (.str x t)=true:=YcN x t
end L2
namespace L2
open PySem PySem.Spec PyProof.Rows
inductive V where
 | non | bl (b:Bool) | int (i:Int) | str (x:Str) | byt (b:Array UInt8) | flt (b:UInt64) | ref (a:Addr) | ty (n:String)
 deriving DecidableEq
def Yz:V→Value→Prop
 | .non,u=>u=Value.none
 | .bl b,u=>u=Value.bool b
 | .int i,u=>∃ t,u=Value.int i t
 | .str x,u=>∃ t,u=Value.str x t
 | .byt b,u=>∃ t,u=Value.bytes b t
 | .flt b,u=>∃ t,u=Value.float b t
 | .ref a,u=>u=Value.ref a
 | .ty n,u=>u=Value.type n
abbrev Yp:List V→List Value→Prop:=Paired Yz
theorem Yp.length {xs:List V} {us:List Value} (r:Yp xs us):xs.length=us.length:=Paired.length r
theorem Yp.get:∀ {xs:List V} {us:List Value} {i:Nat} {x:V},Yp xs us→xs[i]?=some x→∃ u,us[i]?=some u∧Yz x u
 | _,_,_,_,.nil,e=>by simp at e
 | _,_,0,_,.cons r _,e=>by simp at e;subst e;exact ⟨_,rfl,r⟩
 | _,_,i+1,x,.cons _ t,e=>by
  obtain ⟨u,h1,h2⟩:=Yp.get (i:=i) (x:=x) t (by simpa using e)
  exact ⟨u,by simpa using h1,h2⟩
theorem Yp.set {x:V} {u:Value} (r:Yz x u):∀ {xs:List V} {us:List Value} (i:Nat),Yp xs us→Yp (xs.set i x) (us.set i u)
 | _,_,_,.nil => .nil
 | _,_,0,.cons _ t => .cons r t
 | _,_,i+1,.cons q t => .cons q (Yp.set r i t)
theorem Yp.append:∀ {xs ys:List V} {us ws:List Value},Yp xs us→Yp ys ws→Yp (xs++ys) (us++ws)
 | _,_,_,_,.nil,s=>s
 | _,_,_,_,.cons r t,s => .cons r (Yp.append t s)
theorem Yp.take:∀ {xs:List V} {us:List Value} (n:Nat),Yp xs us→Yp (xs.take n) (us.take n)
 | _,_,0,_ => .nil
 | _,_,_+1,.nil => .nil
 | _,_,n+1,.cons r t => .cons r (Yp.take n t)
theorem Yp.drop:∀ {xs:List V} {us:List Value} (n:Nat),Yp xs us→Yp (xs.drop n) (us.drop n)
 | _,_,0,r=>r
 | _,_,_+1,.nil => .nil
 | _,_,n+1,.cons _ t=>Yp.drop n t
def W1:Option V→Option Value→Prop
 | some v,some u=>Yz v u
 | none,none=>True
 | _,_=>False
def KV {κ:Type}:List (κ×V)→List (κ×Value)→Prop:=Paired fun (p:κ×V) (q:κ×Value)=>p.1=q.1∧Yz p.2 q.2
def kV:Key→V
 | .inl i => .int i
 | .inr x => .str x
inductive HO where
 /-- a list -/
 | lst (xs:List V)
 /-- a tuple (never changes) -/
 | tup (xs:List V)
 /-- a dict whose keys are ints and texts;one whose keys are tuples of ints and texts (the empty one is both) -/
 | dK (kvs:List (Key×V)) | dT (kvs:List (List Key×V))
 /-- a set of ints: its members,its size -/
 | set (S:Int→Bool) (n:Nat)
 /-- an instance of the class at C,its dict at dx,its attributes -/
 | ins (C dx:Addr) (fs:List (Str×V))
 /-- the dict of the instance at x -/
 | own (x:Addr)
 /-- the dict of an exception -/
 | xd (fs:List (Str×V))
 /-- a bound method,f of x -/
 | met (f x:Addr)
 /-- a range object lo,lo+1,.. below hi -/
 | rng (lo hi:Int)
 /-- a thing that is known to the object (the script;a dict while a loop walks it): read,never written while it is so -/
 | frz (o:Obj) (u:HO)
 /-- a code object's table -/
 | tbl (ps:Array Value)
 /-- any other thing,by what is true of its one object (a def of one's own: UZ a S n:=HO.ext fun h => ..) -/
 | ext (φ:Heap→Prop)
abbrev Hp:=Addr→Option HO
def upd (H:Hp) (a:Addr) (o:HO):Hp:=fun b=>if b=a then some o else H b
theorem Yg {H:Hp} {a:Addr} {o:HO}:upd H a o a=some o:=by unfold upd;rw [if_pos rfl]
theorem Yd {H:Hp} {a b:Addr} {o:HO} (h:b≠a):upd H a o b=H b:=by unfold upd;rw [if_neg h]
theorem YX {H:Hp} {a b:Addr} {o u:HO} (h:H a=some o) (h':H b=some u) (d:o≠u):a≠b:=by
 intro e;subst e;rw [h] at h';exact d (Option.some.inj h')
theorem Yj {H:Hp} {a b:Addr} {o:HO} (h:H a=some o) (h':H b=none):a≠b:=by
 intro e;subst e;rw [h] at h';cases h'
section
variable (P:Program) (w:World)
def YR (H:Hp) (h:Heap) (a:Addr):HO→Prop
 | .lst xs=>xs.length≤sizeLine∧∃ (its:List Value) (n:Nat),Yp xs its∧h.get? a=some { cls := .type "list",data := .seq its.toArray n }
 | .tup xs=>xs.length≤sizeLine∧∃ its:List Value,Yp xs its∧IsTup h a its.toArray
 | .dK kvs=>kvs.length≤sizeLine∧(a==sysModules)=false∧∃ vs,KV kvs vs∧h.DictOf (XL P w) a vs
 | .dT kvs=>kvs.length≤sizeLine∧(a==sysModules)=false∧∃ xs:List (List Key×Addr×Value),
   Paired (fun (p:List Key×V) (q:List Key×Addr×Value)=>p.1=q.1∧H q.2.1=some (.tup (p.1.map kV))∧Yz p.2 q.2.2) kvs xs ∧
   ∃ o es ep,h.get? a=some o∧o.ExactDict∧o.data = .dict es ep∧es.toList=xs.map (entryOfKey (tupleKind (XL P w)))∧(xs.map (·.1)).Nodup
 | .set S n=>h.SetOf (intKind P w) a S n
 | .ins C dx fs=>H dx=some (.own a)∧fs.length≤1000∧dx≠a∧h.get? a=some (PySem.W.instObj C dx) ∧
   ∃ mA,h.Ns1 dx mA∧(∀ f,W1 (fs.lookup f) (mA f))∧PySem.Within mA (fs.map (·.1))
 | .own _=>∃ o,h.get? a=some o
 | .xd fs=>∃ mA,h.Ns1 a mA∧∀ f,W1 (fs.lookup f) (mA f)
 | .rng lo hi=>∃ t u v,h.get? a=some { cls := .type "range",data := .fields #[.int lo t,.int hi u,.int 1 v] }
 | .frz o u=>h.get? a=some o∧YR H h a u
 | .tbl ps=>h.get? a=some { cls := .none,data := .fields ps }
 | .met f x=>h.get? a=some (PySem.W.methodObj (.ref f) (.ref x))
 | .ext φ=>φ h∧(∃ o,h.get? a=some o)∧∀ h1 h2:Heap,φ h1→(∀ o,h1.get? a=some o→h2.get? a=some o)→φ h2
def HOk (H:Hp) (h:Heap):Prop:=∀ a o,H a=some o→YR P w H h a o
end
section
variable {P:Program} {w:World} {H H':Hp} {h h':Heap} {a:Addr} {o:HO}
theorem YR.lt (x:YR P w H h a o):a<h.objs.size:=by
 cases o with
 | lst xs=>obtain ⟨_,_,_,_,e⟩:=x;exact Heap.lt_size e
 | tup xs=>obtain ⟨_,_,_,p⟩:=x;exact p.lt
 | dK kvs=>obtain ⟨_,_,_,_,o,_,_,e,_⟩:=x;exact Heap.lt_size e
 | dT kvs=>obtain ⟨_,_,_,_,o,_,_,e,_⟩:=x;exact Heap.lt_size e
 | set S n=>obtain ⟨o,_,_,_,e,_⟩:=x;exact Heap.lt_size e
 | ins C dx fs=>obtain ⟨_,_,_,e,_⟩:=x;exact Heap.lt_size e
 | own y=>obtain ⟨_,e⟩:=x;exact Heap.lt_size e
 | xd fs=>obtain ⟨_,⟨_,_,_,e,_⟩,_⟩:=x;exact Heap.lt_size e
 | rng lo hi=>obtain ⟨_,_,_,e⟩:=x;exact Heap.lt_size e
 | frz ob u=>obtain ⟨e,_⟩:=x;exact Heap.lt_size e
 | tbl ps=>exact Heap.lt_size (show h.get? a=some _ from x)
 | met f y=>exact Heap.lt_size (show h.get? a=some _ from x)
 | ext φ=>obtain ⟨_,⟨_,e⟩,_⟩:=x;exact Heap.lt_size e
theorem Paired.mapP {α β:Type} {F G:α→β→Prop}:∀ {l₁:List α} {l₂:List β},Paired F l₁ l₂→(∀ a b,F a b→G a b)→Paired G l₁ l₂
 | _,_,.nil,_ => .nil
 | _,_,.cons r t,f => .cons (f _ _ r) (Paired.mapP t f)
theorem YR.stay (x:YR P w H h a o) (k:∀ b u,(b=a∨H b=some (.own a))→h.get? b=some u→h'.get? b=some u)
  (ho:∀ b,H b=some (.own a)→H' b=some (.own a)) (ht:∀ b xs,H b=some (.tup xs)→H' b=some (.tup xs)):YR P w H' h' a o:=by
 induction o with
 | lst xs=>obtain ⟨z,its,n,r,e⟩:=x;exact ⟨z,its,n,r,k _ _ (.inl rfl) e⟩
 | tup xs=>obtain ⟨z,its,r,ob,e,c⟩:=x;exact ⟨z,its,r,ob,k _ _ (.inl rfl) e,c⟩
 | dK kvs=>obtain ⟨z,y,vs,r,ob,es,ep,e,c⟩:=x;exact ⟨z,y,vs,r,ob,es,ep,k _ _ (.inl rfl) e,c⟩
 | dT kvs =>
  obtain ⟨z,y,xs,r,ob,es,ep,e,c⟩:=x
  exact ⟨z,y,xs,Paired.mapP r fun p q z=>⟨z.1,ht _ _ z.2.1,z.2.2⟩,ob,es,ep,k _ _ (.inl rfl) e,c⟩
 | set S n=>obtain ⟨ob,es,ep,t,e,c⟩:=x;exact ⟨ob,es,ep,t,k _ _ (.inl rfl) e,c⟩
 | ins C dx fs =>
  obtain ⟨d,z,ne,e,mA,⟨od,es,ep,e2,c⟩,r⟩:=x
  exact ⟨ho _ d,z,ne,k _ _ (.inl rfl) e,mA,⟨od,es,ep,k _ _ (.inr d) e2,c⟩,r⟩
 | own y=>obtain ⟨ob,e⟩:=x;exact ⟨ob,k _ _ (.inl rfl) e⟩
 | xd fs=>obtain ⟨mA,⟨od,es,ep,e,c⟩,r⟩:=x;exact ⟨mA,⟨od,es,ep,k _ _ (.inl rfl) e,c⟩,r⟩
 | rng lo hi=>obtain ⟨t,u,v,e⟩:=x;exact ⟨t,u,v,k _ _ (.inl rfl) e⟩
 | frz ob u ih=>obtain ⟨e,q⟩:=x;exact ⟨k _ _ (.inl rfl) e,ih q⟩
 | tbl ps =>
  have e:h.get? a=some { cls := .none,data := .fields ps }:=x
  show h'.get? a=some { cls := .none,data := .fields ps }
  exact k a _ (.inl rfl) e
 | met f y =>
  have e:h.get? a=some (PySem.W.methodObj (.ref f) (.ref y)):=x
  show h'.get? a=some (PySem.W.methodObj (.ref f) (.ref y))
  exact k a _ (.inl rfl) e
 | ext φ=>obtain ⟨p,⟨o,e⟩,st⟩:=x;exact ⟨st _ _ p fun o q=>k _ _ (.inl rfl) q,⟨o,k _ _ (.inl rfl) e⟩,st⟩
theorem HOk.lt (x:HOk P w H h) (e:H a=some o):a<h.objs.size:=(x a o e).lt
theorem HOk.fresh (x:HOk P w H h) (e:h.objs.size≤a):H a=none:=by
 cases q:H a with
 | none=>rfl
 | some u=>exact absurd (Nat.lt_of_lt_of_le (x.lt q) e) (Nat.lt_irrefl _)
theorem HOk.kept (x:HOk P w H h) (k:∀ b u,h.get? b=some u→h'.get? b=some u):HOk P w H h':=fun a o e =>
 (x a o e).stay (fun b u _ q=>k b u q) (fun _ q=>q) fun _ _ q=>q
theorem HOk.laid (x:HOk P w H h) (k:∀ b u,h.get? b=some u→h'.get? b=some u) (hp:h.objs.size≤a) (new:YR P w (upd H a o) h' a o):HOk P w (upd H a o) h':=fun b u e=>by
 have hn:=x.fresh hp
 by_cases hb:b=a
 ·subst hb;rw [Yg] at e;cases e;exact new
 ·rw [Yd hb] at e
  exact (x b u e).stay (fun c v _ q=>k c v q) (fun c q=>by rw [Yd (Yj q hn)];exact q) fun c xs q=>by rw [Yd (Yj q hn)];exact q
end
def Rd (H:Hp) (a:Addr) (u:HO):Prop:=H a=some u∨∃ o,H a=some (.frz o u)
theorem Rd.ok {P:Program} {w:World} {H:Hp} {h:Heap} {a:Addr} {u:HO} (r:Rd H a u) (x:HOk P w H h):YR P w H h a u:=by
 rcases r with r | ⟨o,r⟩
 ·exact x a u r
 ·obtain ⟨_,q⟩:=x a _ r
  exact q
def Mut:Option HO→Prop
 | some (.lst _)=>True
 | some (.dK _)=>True
 | some (.dT _)=>True
 | some (.set _ _)=>True
 | some (.ins _ _ _)=>True
 | some (.ext _)=>True
 | _=>False
section
variable {P:Program} {w:World} {H:Hp} {h h':Heap} {x e:Addr} {o':HO}
theorem HOk.write (ok:HOk P w H h) (mu:Mut (H x)) (he:e=x∨H e=some (.own x)) (k:∀ b u,b≠e→h.get? b=some u→h'.get? b=some u) (heo:∃ u,h'.get? e=some u)
  (new:YR P w (upd H x o') h' x o'):HOk P w (upd H x o') h':=fun b u q=>by
 have nown:∀ c y,H c=some (.own y)→c≠x:=fun c y r z=>by subst z;rw [r] at mu;exact mu
 have ntup:∀ c xs,H c=some (.tup xs)→c≠x:=fun c xs r z=>by subst z;rw [r] at mu;exact mu
 by_cases hb:b=x
 ·subst hb;rw [Yg] at q;cases q;exact new
 ·rw [Yd hb] at q
  by_cases hbe:b=e
  ·have q':H b=some (.own x):=by
    rcases he with z | z
    ·exact absurd (hbe.trans z) hb
    ·rw [hbe];exact z
   rw [q] at q';cases q'
   obtain ⟨v,hv⟩:=heo
   exact ⟨v,by rw [hbe];exact hv⟩
  ·refine (ok b u q).stay (fun c v hc r=>k c v ?_ r) (fun c r=>by rw [Yd (nown c b r)];exact r) fun c xs r=>by rw [Yd (ntup c xs r)];exact r
   rcases hc with rfl | hc
   ·exact hbe
   ·rintro rfl
    rcases he with z | z
    ·exact nown c b hc z
    ·rw [hc] at z;cases z;exact hb rfl
end
structure Un (fs ex:List Addr) (H H':Hp) (h h':Heap):Prop where
 keep:∀ b o,h.get? b=some o→H b=none→b∉fs→b∉ex→h'.get? b=some o
 slot:∀ b o,h.get? b=some o→H b=none→b∈fs→b∉ex→∃ sl,h'.get? b=some { o with slots:=sl }
 free:∀ b o,h.get? b=some o→H b=none→b∉ex→H' b=none
 there:∀ b o,h.get? b=some o→b∉ex→∃ o',h'.get? b=some o'
 tups:∀ b xs,H b=some (.tup xs)→H' b=some (.tup xs)
 frzs:∀ b o u,H b=some (.frz o u)→H' b=some (.frz o u)
 tbls:∀ b ps,H b=some (.tbl ps)→∃ more,H' b=some (.tbl (ps++more))
section
variable {fs fs' ex ex':List Addr} {H H1 H2:Hp} {h h1 h2 h':Heap} {a x e:Addr} {o:HO}
theorem Un.any (u:Un fs ex H H1 h h1) {b:Addr} {ob:Obj} (q:h.get? b=some ob) (n:H b=none) (hx:b∉ex):∃ sl,h1.get? b=some { ob with slots:=sl }:=by
 by_cases hb:b∈fs
 ·exact u.slot b ob q n hb hx
 ·exact ⟨ob.slots,u.keep b ob q n hb hx⟩
theorem Un.kept (k:∀ b u,h.get? b=some u→h'.get? b=some u):Un fs ex H H h h' :=
 ⟨fun b ob q _ _ _=>k b ob q,fun b ob q _ _ _=>⟨ob.slots,k b ob q⟩,fun _ _ _ n _=>n,fun b ob q _=>⟨ob,k b ob q⟩,fun _ _ q=>q,fun _ _ _ q=>q,fun _ ps q=>⟨#[],by rw [q];simp⟩⟩
theorem Un.refl:Un fs ex H H h h:=Un.kept fun _ _ q=>q
theorem Un.laid (k:∀ b u,h.get? b=some u→h'.get? b=some u) (hp:h.objs.size≤a) (hn:H a=none):Un fs ex H (upd H a o) h h' where
 keep:=fun b u q _ _ _=>k b u q
 slot:=fun b u q _ _ _=>⟨u.slots,k b u q⟩
 free:=fun b u q n _=>by rw [Yd (Nat.ne_of_lt (Nat.lt_of_lt_of_le (Heap.lt_size q) hp))];exact n
 there:=fun b u q _=>⟨u,k b u q⟩
 tups:=fun b xs q=>by rw [Yd (Yj q hn)];exact q
 frzs:=fun b u xs q=>by rw [Yd (Yj q hn)];exact q
 tbls:=fun b ps q=>⟨#[],by rw [Yd (Yj q hn),q];simp⟩
theorem Un.write (mu:Mut (H x)) (he:e=x∨H e=some (.own x)) (k:∀ b u,b≠e→h.get? b=some u→h'.get? b=some u) (heo:∃ u,h'.get? e=some u):Un fs ex H (upd H x o) h h':=by
 have hx:∀ b,H b=none→b≠x:=fun b n z=>by subst z;rw [n] at mu;exact mu
 have hb:∀ b,H b=none→b≠e:=fun b n z=>by
  subst z
  rcases he with r | r
  ·exact hx b n r
  ·rw [n] at r;cases r
 have hm:∀ b u,H b=some u→¬ Mut (some u)→b≠x:=fun b u q nm z=>by subst z;rw [q] at mu;exact nm mu
 refine ⟨fun b u q n _ _=>k b u (hb b n) q,fun b u q n _ _=>⟨u.slots,k b u (hb b n) q⟩,fun b u q n _=>by rw [Yd (hx b n)];exact n,fun b u q _=>?_,
  fun b xs q=>by rw [Yd (hm b _ q fun z=>z)];exact q,fun b u xs q=>by rw [Yd (hm b _ q fun z=>z)];exact q,fun b ps q=>⟨#[],by rw [Yd (hm b _ q fun z=>z),q];simp⟩⟩
 by_cases hbe:b=e
 ·subst hbe;exact heo
 ·exact ⟨u,k b u hbe q⟩
end
def trk (h:Heap) (H:Hp):List Addr:=(List.range h.objs.size).filter fun a=>(H a).isSome
def WK (h:Heap) (H:Hp):Heap:=PySem.W.hideAll h (trk h H)
theorem YcO (h:Heap) (H:Hp):(WK h H).objs.size=h.objs.size:=PySem.W.hideAll_size _ _
theorem YdU {h:Heap} {H:Hp} {b:Addr} {o:Obj} (e:h.get? b=some o) (n:H b=none):(WK h H).get? b=some o :=
 PySem.W.hideAll_get _ e fun hm=>by
  have q:(H b).isSome=true:=(List.mem_filter.mp hm).2
  rw [n] at q;simp at q
theorem Ye6 {h:Heap} {H:Hp} {b:Addr} {o:Obj} (e:(WK h H).get? b=some o):h.get? b=some o∧H b=none:=by
 have e':h.get? b=some o:=PySem.W.of_hideAll (trk h H) e
 refine ⟨e',?_⟩
 cases q:H b with
 | none=>rfl
 | some x =>
  have hm:b∈trk h H:=List.mem_filter.mpr ⟨List.mem_range.mpr (Heap.lt_size e'),by simp [q]⟩
  have z:(WK h H).get? b=none:=PySem.W.hideAll_none (trk h H) hm
  rw [z] at e;cases e
def Ye7 (g h:Heap) (L:Addr):List (Addr×Obj):=(List.range h.objs.size).filterMap fun a=>if a=L∨(g.get? a).isSome=true then none else (h.get? a).map fun o=>(a,o)
def YU (g h:Heap) (L d:Addr):List (Addr×Obj):=(Ye7 g h L).filter fun p=>decide (p.1≠d)
end L2
namespace L2
open PySem PySem.Spec PyProof.Rows
structure Mod (K:PySem.W.Frag) (mg:Str→Option Value) (base:Heap):Prop where
 kin:K.In base
 glob:base.Ns mainGlobals mg
 blt:∃ mb,base.Ns builtinsNs mb∧∀ x:Str,x≠"__name__"→mb x=bootBuiltins x
 nolimit:base.NoLimit
structure Cx where
 prog:Program
 w:World
 K:PySem.W.Frag
 mg:Str→Option Value
 base:Heap
 A:Around
 N:List Str
 s₀:Shared
 H₀:Hp
 env:Env
 outer:List Env
 stack:List Env
 ex:List Addr
 fn:Str→Bool
 calm:Bool
 pn:List (Addr×Obj)
 xe:Value→Shared→Prop
def frs (l:List Env):List Addr:=l.filterMap (·.frame)
abbrev Cx.fs (X:Cx):List Addr:=frs X.outer
def Vis (sc:Scope) (x:Str):Prop:=sc.names.lookup x=some .local∨sc.names.lookup x=some .cell∨sc.names.lookup x=some .free
def Loc (sc:Scope) (x:Str):Prop:=sc.names.lookup x=some .local∨sc.names.lookup x=some .cell
def Look (env:Env) (h:Heap) (m:Str→Option Value) (x:Str) (u:Value):Prop :=
 (env.kindOf x=some .local∧m x=some u)∨((env.kindOf x=some .cell∨env.kindOf x=some .free)∧∃ c,env.cells.lookup x=some c∧h.IsCell c (some u))
structure Cx.Ok (X:Cx):Prop where
 mod:Mod X.K X.mg X.base
 kind:X.env.scope.kind = .function
 glob:X.env.globals=mainGlobals
 blt:X.env.builtins=builtinsNs
 above:X.s₀.heap.objs.size≤X.env.locals
 inj:∀ x y c,X.env.cells.lookup x=some c→X.env.cells.lookup y=some c→x=y
 has:∀ x,(X.env.kindOf x=some .cell∨X.env.kindOf x=some .free)→∃ c,X.env.cells.lookup x=some c
 cab:∀ x c,X.fn x=true→X.env.cells.lookup x=some c→X.s₀.heap.objs.size≤c
 hd:X.calm=true→X.A.handled=none
 frames:X.A.frames=some X.stack
 stk:X.stack=X.outer∨(X.stack=X.env::X.outer∧X.env.frame=some X.env.locals)
 exf:∀ b∈X.ex,b≠X.env.locals∧∀ x c,X.env.cells.lookup x=some c→c≠b
 bs:∀ b o,X.base.get? b=some o→X.s₀.heap.get? b=some o∧X.H₀ b=none
 bsz:X.base.objs.size≤X.s₀.heap.objs.size
 noex:∀ b o,X.base.get? b=some o→b∉X.ex
 exfs:∀ b∈X.ex,b∉X.fs
 funs:X.s₀.heap.FunFrames X.base X.outer
 frf:∀ b∈X.fs,X.H₀ b=none
structure Inv (X:Cx) (pins:List (Addr×Obj)) (σ:List (Option V)) (H:Hp) (s:Shared):Prop where
 ok:X.Ok
 os:s.os=X.s₀.os
 bare:AllBare s.gens
 base:Un X.fs X.ex X.H₀ H X.s₀.heap s.heap
 loc:∃ m,s.heap.Ns X.env.locals m∧∀ (i:Nat) (x:Str) (v:V),X.N[i]?=some x→σ[i]?=some (some v)→Vis X.env.scope x→∃ u,Yz v u∧Look X.env s.heap m x u
 cell:∀ x c,X.env.cells.lookup x=some c→∃ v,s.heap.IsCell c v
 free:H X.env.locals=none
 freeC:∀ x c,X.env.cells.lookup x=some c→H c=none
 pin:∀ p∈X.pn++pins,s.heap.get? p.1=some p.2∧H p.1=none∧p.1≠X.env.locals∧p.1∉X.fs∧∀ v,p.2.data ≠ .cell v
 hok:HOk X.prog X.w H s.heap
 len:σ.length=X.N.length
section
variable {X:Cx} {pins:List (Addr×Obj)} {σ:List (Option V)} {H H':Hp} {s:Shared} {h':Heap}
theorem Cx.Ok.nofr (ok:X.Ok) {b:Addr} {o:Obj} (e:X.base.get? b=some o):b∉X.fs:=fun hb=>by
 have:=(ok.funs.mem hb).1
 rw [e] at this;cases this
theorem Inv.bs (I:Inv X pins σ H s):∀ b o,X.base.get? b=some o→s.heap.get? b=some o∧H b=none:=fun b o e =>
 ⟨I.base.keep b o (I.ok.bs b o e).1 (I.ok.bs b o e).2 (I.ok.nofr e) (I.ok.noex b o e),I.base.free b o (I.ok.bs b o e).1 (I.ok.bs b o e).2 (I.ok.noex b o e)⟩
theorem Inv.bk (I:Inv X pins σ H s):∀ b o,X.base.get? b=some o→s.heap.get? b=some o:=fun b o e=>(I.bs b o e).1
theorem Inv.mod (I:Inv X pins σ H s):Mod X.K X.mg X.base:=I.ok.mod
theorem Inv.kIn (I:Inv X pins σ H s):X.K.In s.heap:=I.ok.mod.kin.keeps I.bk
theorem Inv.lt (I:Inv X pins σ H s):X.env.locals<s.heap.objs.size:=let ⟨_,hn,_⟩:=I.loc;hn.lt
theorem Inv.sz (I:Inv X pins σ H s):X.s₀.heap.objs.size≤s.heap.objs.size:=Nat.le_trans I.ok.above (Nat.le_of_lt I.lt)
theorem Inv.nofs (I:Inv X pins σ H s) {a:Addr} (h:s.heap.objs.size≤a):a∉X.fs:=fun hb=>by
 obtain ⟨_,o,ho,_⟩:=I.ok.funs.mem hb
 exact absurd (Nat.lt_of_lt_of_le (Heap.lt_size ho) (Nat.le_trans I.sz h)) (Nat.lt_irrefl _)
theorem Inv.cne (I:Inv X pins σ H s):∀ x c,X.env.cells.lookup x=some c→c≠X.env.locals:=fun x c e z=>by
 obtain ⟨v,o,ho,hd⟩:=I.cell x c e
 obtain ⟨m,⟨o',es,ep,ho',hd',_⟩,_⟩:=I.loc
 rw [z,ho'] at ho;cases ho;rw [hd'] at hd;cases hd
theorem Inv.funs (I:Inv X pins σ H s):s.heap.FunFrames X.base X.outer:=by
 have all:∀ (l:List Env),(∀ b∈frs l,b∈X.fs)→X.s₀.heap.FunFrames X.base l→s.heap.FunFrames X.base l:=by
  intro l
  induction l with
  | nil=>intro _ _;trivial
  | cons env r ih =>
   intro hs hl
   obtain ⟨hk,⟨L,o,hf,hn,ho,hd⟩,hr⟩:=hl
   have hL:L∈X.fs:=hs L (by unfold frs;rw [List.filterMap_cons,hf];exact List.mem_cons_self)
   obtain ⟨sl,e⟩:=I.base.slot L o ho (I.ok.frf L hL) hL fun z=>I.ok.exfs L z hL
   exact ⟨hk,⟨L,_,hf,hn,e,hd⟩,ih (fun b hb=>hs b (by unfold frs;rw [List.filterMap_cons,hf];exact List.mem_cons_of_mem _ hb)) hr⟩
 exact all X.outer (fun _ hb=>hb) I.ok.funs
theorem Inv.stack (I:Inv X pins σ H s):s.heap.FunFrames X.base X.stack:=by
 rcases I.ok.stk with e | ⟨e,hf⟩
 ·rw [e];exact I.funs
 ·rw [e]
  obtain ⟨m,hn,_⟩:=I.loc
  refine .cons (by rw [I.ok.kind];decide) hf hn ?_ I.funs
  exact Heap.get?_none_of_le (Nat.le_trans I.ok.bsz I.ok.above)
theorem Inv.stkSub (I:Inv X pins σ H s):∀ b∈frs X.stack,b∈X.env.locals::X.fs:=fun b hb=>by
 rcases I.ok.stk with e | ⟨e,hf⟩
 ·rw [e] at hb;exact List.mem_cons_of_mem _ hb
 ·rw [e] at hb
  unfold frs at hb
  rw [List.filterMap_cons,hf] at hb
  exact hb
theorem Inv.stkFree (I:Inv X pins σ H s):∀ b∈frs X.stack,H b=none:=fun b hb=>by
 rcases List.mem_cons.mp (I.stkSub b hb) with e | hb
 ·rw [e];exact I.free
 ·obtain ⟨_,o,ho,_⟩:=I.ok.funs.mem hb
  exact I.base.free b o ho (I.ok.frf b hb) fun z=>I.ok.exfs b z hb
theorem Inv.step {g':Array GenState} {t':Nat} {d':Drawn} {ch:List Addr} (I:Inv X pins σ H s)
  (hch:∀ b∈ch,(b∈X.ex∨X.s₀.heap.objs.size≤b)∧b≠X.env.locals∧(∀ x c,X.env.cells.lookup x=some c→c≠b)∧∀ p∈X.pn++pins,p.1≠b)
  (keep:∀ b o,b≠X.env.locals→b∉X.fs→b∉ch→s.heap.get? b=some o→H b=none→h'.get? b=some o)
  (slot:∀ b o,b≠X.env.locals→b∈X.fs→b∉ch→s.heap.get? b=some o→H b=none→∃ sl,h'.get? b=some { o with slots:=sl }) (free:∀ b o,b∉ch→s.heap.get? b=some o→H b=none→H' b=none)
  (there:∀ b o,b∉ch→s.heap.get? b=some o→∃ o',h'.get? b=some o')
  (tups:∀ b xs,H b=some (.tup xs)→H' b=some (.tup xs)) (frzs:∀ b o u,H b=some (.frz o u)→H' b=some (.frz o u)) (tbls:∀ b ps,H b=some (.tbl ps)→∃ more,H' b=some (.tbl (ps++more)))
  (ns:∀ m,s.heap.Ns X.env.locals m→h'.Ns X.env.locals m) (hok:HOk X.prog X.w H' h') (hg:AllBare g') :
  Inv X pins σ H' { s with heap:=h',gens:=g',drawn:=d',toks:=t' }:=by
 have neL:∀ b o,X.s₀.heap.get? b=some o→b≠X.env.locals:=fun b o e=>Nat.ne_of_lt (Nat.lt_of_lt_of_le (Heap.lt_size e) I.ok.above)
 have neC:∀ b o,X.s₀.heap.get? b=some o→b∉X.ex→b∉ch:=fun b o e hx hb=>by
  rcases (hch b hb).1 with z | z
  ·exact hx z
  ·exact absurd (Nat.lt_of_lt_of_le (Heap.lt_size e) z) (Nat.lt_irrefl _)
 have cellK:∀ x c,X.env.cells.lookup x=some c→∀ v,s.heap.IsCell c v→h'.IsCell c v:=fun x c e v ⟨o,ho,hd⟩=>by
  have nch:c∉ch:=fun z=>(hch c z).2.2.1 x c e rfl
  by_cases hc:c∈X.fs
  ·obtain ⟨sl,q⟩:=slot c o (I.cne x c e) hc nch ho (I.freeC x c e)
   exact ⟨_,q,hd⟩
  ·exact ⟨o,keep c o (I.cne x c e) hc nch ho (I.freeC x c e),hd⟩
 refine ⟨I.ok,I.os,hg,⟨fun b o e n hb hx=>?_,fun b o e n hb hx=>?_,fun b o e n hx=>?_,fun b o e hx=>?_,fun b xs e=>tups b xs (I.base.tups b xs e),fun b o xs e=>frzs b o xs (I.base.frzs b o xs e),fun b ps e=>?_⟩,?_,fun x c e=>?_,?_,fun x c e=>?_,fun p hp=>?_,hok,I.len⟩
 ·exact keep b o (neL b o e) hb (neC b o e hx) (I.base.keep b o e n hb hx) (I.base.free b o e n hx)
 ·obtain ⟨sl,e1⟩:=I.base.slot b o e n hb hx
  obtain ⟨sl',e2⟩:=slot b _ (neL b o e) hb (neC b o e hx) e1 (I.base.free b o e n hx)
  exact ⟨sl',e2⟩
 ·obtain ⟨o',e1⟩:=I.base.there b o e hx
  exact free b o' (neC b o e hx) e1 (I.base.free b o e n hx)
 ·obtain ⟨o',e1⟩:=I.base.there b o e hx
  exact there b o' (neC b o e hx) e1
 ·obtain ⟨m1,e1⟩:=I.base.tbls b ps e
  obtain ⟨m2,e2⟩:=tbls b _ e1
  exact ⟨m1++m2,by rw [e2,Array.append_assoc]⟩
 ·obtain ⟨m,hn,hl⟩:=I.loc
  refine ⟨m,ns m hn,fun i x v e1 e2 e3=>?_⟩
  obtain ⟨u,r,l⟩:=hl i x v e1 e2 e3
  refine ⟨u,r,?_⟩
  rcases l with l | ⟨k,c,e,z⟩
  ·exact .inl l
  ·exact .inr ⟨k,c,e,cellK x c e _ z⟩
 ·obtain ⟨v,z⟩:=I.cell x c e
  exact ⟨v,cellK x c e v z⟩
 ·obtain ⟨m,⟨o,_,_,ho,_⟩,_⟩:=I.loc
  exact free _ o (fun z=>(hch _ z).2.1 rfl) ho I.free
 ·obtain ⟨v,o,ho,hd⟩:=I.cell x c e
  exact free c o (fun z=>(hch c z).2.2.1 x c e rfl) ho (I.freeC x c e)
 ·obtain ⟨e,n,ne,nf,d⟩:=I.pin p hp
  have nch:p.1∉ch:=fun z=>(hch p.1 z).2.2.2 p hp rfl
  exact ⟨keep p.1 p.2 ne nf nch e n,free p.1 p.2 nch e n,ne,nf,d⟩
theorem Inv.un {t':Nat} (I:Inv X pins σ H s) (u:Un X.fs [] H H' s.heap h') (hok:HOk X.prog X.w H' h'):Inv X pins σ H' { s with heap:=h',toks:=t' }:=by
 obtain ⟨m,⟨o,es,ep,ho,r⟩,_⟩:=id I.loc
 obtain ⟨sl,hL⟩:=u.any ho I.free (by simp)
 exact I.step (g':=s.gens) (d':=s.drawn) (ch:=[]) (fun _ z=>nomatch z) (fun b o _ hb _ e n=>u.keep b o e n hb (by simp)) (fun b o _ hb _ e n=>u.slot b o e n hb (by simp)) (fun b o _ e n=>u.free b o e n (by simp)) (fun b o _ e=>u.there b o e (by simp)) u.tups u.frzs u.tbls (fun m' hm=>by
  obtain ⟨o',es',ep',ho',r'⟩:=hm
  rw [ho] at ho';cases ho'
  exact ⟨_,es',ep',hL,r'⟩) hok I.bare
theorem Inv.call {g':Array GenState} {t':Nat} {d':Drawn} {ch:List Addr} (I:Inv X pins σ H s) (u:Un (frs X.stack) ch H H' s.heap h') (hok:HOk X.prog X.w H' h') (hg:AllBare g')
  (hch:∀ b∈ch,(b∈X.ex∨X.s₀.heap.objs.size≤b)∧b≠X.env.locals∧(∀ x c,X.env.cells.lookup x=some c→c≠b)∧∀ p∈X.pn++pins,p.1≠b) :
  Inv X pins σ H' { s with heap:=h',gens:=g',drawn:=d',toks:=t' }:=by
 obtain ⟨m,⟨o,es,ep,ho,r⟩,_⟩:=id I.loc
 obtain ⟨sl,hL⟩:=u.any ho I.free fun z=>(hch _ z).2.1 rfl
 exact I.step (ch:=ch) hch (fun b o hL hb hc e n=>u.keep b o e n (fun z=>(List.mem_cons.mp (I.stkSub b z)).elim hL hb) hc) (fun b o _ _ hc e n=>u.any e n hc) (fun b o hc e n=>u.free b o e n hc) (fun b o hc e=>u.there b o e hc) u.tups u.frzs u.tbls (fun m' hm=>by
  obtain ⟨o',es',ep',ho',r'⟩:=hm
  rw [ho] at ho';cases ho'
  exact ⟨_,es',ep',hL,r'⟩) hok hg
theorem Inv.turned {t':Nat} {it:Addr} (I:Inv X pins σ H s) (k:∀ b o,b≠it→s.heap.get? b=some o→h'.get? b=some o) (hn:H it=none) (hL:it≠X.env.locals)
  (h1:it∈X.ex∨X.s₀.heap.objs.size≤it) (h2:∀ x c,X.env.cells.lookup x=some c→c≠it) (h3:∀ p∈X.pn++pins,p.1≠it):Inv X pins σ H { s with heap:=h',toks:=t' }:=by
 have nit:∀ b u,H b=some u→b≠it:=fun b u e z=>by rw [z,hn] at e;cases e
 refine I.step (g':=s.gens) (d':=s.drawn) (ch:=[it]) (fun b hb=>?_) (fun b o _ _ hc e _=>k b o (fun z=>hc (by simp [z])) e) (fun b o _ _ hc e _=>⟨o.slots,k b o (fun z=>hc (by simp [z])) e⟩) (fun _ _ _ _ n=>n)
  (fun b o hc e=>⟨o,k b o (fun z=>hc (by simp [z])) e⟩) (fun _ _ e=>e) (fun _ _ _ e=>e) (fun b ps e=>⟨#[],by rw [e];simp⟩) (fun m hm=>?_) (fun b u e=>?_) I.bare
 ·have e:b=it:=by simpa using hb
  subst e
  exact ⟨h1,hL,h2,h3⟩
 ·obtain ⟨o,es,ep,ho,r⟩:=hm
  exact ⟨o,es,ep,k _ o (Ne.symm hL) ho,r⟩
 ·refine (I.hok b u e).stay (fun c v hc q=>k c v ?_ q) (fun _ q=>q) fun _ _ q=>q
  rcases hc with z | z
  ·rw [z];exact nit b u e
  ·exact nit c _ z
theorem Inv.tok (I:Inv X pins σ H s) (t:Nat):Inv X pins σ H { s with toks:=t }:=I.un (h':=s.heap) (t':=t) Un.refl I.hok
theorem Inv.kept {t':Nat} (I:Inv X pins σ H s) (k:∀ b u,s.heap.get? b=some u→h'.get? b=some u):Inv X pins σ H { s with heap:=h',toks:=t' }:=I.un (Un.kept k) (I.hok.kept k)
theorem Inv.laid {a:Addr} {o:HO} {t':Nat} (I:Inv X pins σ H s) (k:∀ b u,s.heap.get? b=some u→h'.get? b=some u) (hp:s.heap.objs.size≤a) (new:YR X.prog X.w (upd H a o) h' a o) :
  Inv X pins σ (upd H a o) { s with heap:=h',toks:=t' }:=I.un (Un.laid k hp (I.hok.fresh hp)) (I.hok.laid k hp new)
theorem Inv.write {x e:Addr} {o:HO} {t':Nat} (I:Inv X pins σ H s) (mu:Mut (H x)) (he:e=x∨H e=some (.own x)) (k:∀ b u,b≠e→s.heap.get? b=some u→h'.get? b=some u) (heo:∃ u,h'.get? e=some u)
  (new:YR X.prog X.w (upd H x o) h' x o):Inv X pins σ (upd H x o) { s with heap:=h',toks:=t' }:=I.un (Un.write mu he k heo) (I.hok.write mu he k heo new)
theorem Inv.pins_of {pins':List (Addr×Obj)} (I:Inv X pins σ H s) (h:∀ p∈pins',s.heap.get? p.1=some p.2∧H p.1=none∧p.1≠X.env.locals∧p.1∉X.fs∧∀ v,p.2.data ≠ .cell v):Inv X pins' σ H s :=
 ⟨I.ok,I.os,I.bare,I.base,I.loc,I.cell,I.free,I.freeC,fun p hp=>(List.mem_append.mp hp).elim (fun z=>I.pin p (List.mem_append_left _ z)) (h p),I.hok,I.len⟩
theorem QV {N:List Str} (hN:N.Nodup) {i j:Nat} {x:Str} (a:N[i]?=some x) (b:N[j]?=some x):i=j:=by
 obtain ⟨h1,e1⟩:=List.getElem?_eq_some_iff.mp a
 obtain ⟨h2,e2⟩:=List.getElem?_eq_some_iff.mp b
 exact (List.getElem_inj hN).mp (e1.trans e2.symm)
theorem YcP {M:Model} {A:Around} {E:Value→Shared→Prop} {i:Nat} {x:Str} {v:V} {u:Value} {Q:Unit→Shared→Prop} (I:Inv X pins σ H s) (hN:X.N.Nodup) (hi:X.N[i]?=some x) (hx:Loc X.env.scope x) (r:Yz v u)
  (h:∀ s',Inv X pins (σ.set i (some v)) H s'→(∃ a,Heap.SameBut a s.heap s'.heap∧(a=X.env.locals∨X.env.cells.lookup x=some a))→Q () s') (hf:X.fn x=true∨X.env.scope.names.lookup x=some .local:=by first | exact .inl rfl | exact .inr rfl | assumption):wpAny M A (storeName X.env x u) Q E s:=by
 obtain ⟨m,hn,hl⟩:=id I.loc
 have hcls:(X.env.scope.kind == .class||(X.env.scope.kind == .module&&X.env.locals != X.env.globals))=false:=by rw [I.ok.kind];rfl
 have hiσ:i<σ.length:=by rw [I.len];exact (List.getElem?_eq_some_iff.mp hi).1
 have cne:=I.cne
 have tracked:∀ {a:Addr} {h':Heap},(∃ o,s.heap.get? a=some o∧H a=none)→Heap.SameBut a s.heap h'→HOk X.prog X.w H h':=fun {a h'} ha hs b ob e=>by
  obtain ⟨_,_,hfree⟩:=ha
  refine (I.hok b ob e).stay (fun c w' hc q=>(hs.2 c ?_).trans q) (fun _ q=>q) fun _ _ q=>q
  rintro rfl
  rcases hc with rfl | hc
  ·rw [hfree] at e;cases e
  ·rw [hfree] at hc;cases hc
 rcases hx with hk | hk
 ·refine wpAny_storeName_local hk hn (fun h' hn' hs=>?_) hcls
  obtain ⟨oL,_,_,hoL,_⟩:=id hn
  refine h _ ⟨I.ok,I.os,I.bare,⟨fun b o e n hb hx=>?_,fun b o e n hb hx=>?_,I.base.free,fun b o e hx=>?_,I.base.tups,I.base.frzs,I.base.tbls⟩,⟨_,hn',fun j y v' e1 e2 e3=>?_⟩,fun y c e=>?_,I.free,I.freeC,fun p hp=>?_,tracked ⟨oL,hoL,I.free⟩ hs,by simpa using I.len⟩ ⟨_,hs,.inl rfl⟩
  ·exact (hs.2 b (Nat.ne_of_lt (Nat.lt_of_lt_of_le (Heap.lt_size e) I.ok.above))).trans (I.base.keep b o e n hb hx)
  ·obtain ⟨sl,e1⟩:=I.base.slot b o e n hb hx
   exact ⟨sl,(hs.2 b (Nat.ne_of_lt (Nat.lt_of_lt_of_le (Heap.lt_size e) I.ok.above))).trans e1⟩
  ·obtain ⟨o',e1⟩:=I.base.there b o e hx
   exact ⟨o',(hs.2 b (Nat.ne_of_lt (Nat.lt_of_lt_of_le (Heap.lt_size e) I.ok.above))).trans e1⟩
  ·by_cases hj:j=i
   ·subst hj
    rw [hi] at e1;cases e1
    rw [List.getElem?_set_self hiσ] at e2
    cases e2
    exact ⟨u,r,.inl ⟨hk,by simp⟩⟩
   ·rw [List.getElem?_set_ne (Ne.symm hj)] at e2
    obtain ⟨u',r',q⟩:=hl j y v' e1 e2 e3
    refine ⟨u',r',?_⟩
    rcases q with ⟨k,e⟩ | ⟨k,c,e,z⟩
    ·refine .inl ⟨k,?_⟩
     have:y≠x:=fun e=>hj (QV hN e1 (e▸hi))
     simp [this,e]
    ·exact .inr ⟨k,c,e,z.sameBut hs (cne y c e)⟩
  ·obtain ⟨w',z⟩:=I.cell y c e
   exact ⟨w',z.sameBut hs (cne y c e)⟩
  ·obtain ⟨e,n,ne,nf,d⟩:=I.pin p hp
   exact ⟨(hs.2 p.1 ne).trans e,n,ne,nf,d⟩
 ·have hfn:X.fn x=true:=by
   rcases hf with z | z
   ·exact z
   ·rw [z] at hk;cases hk
  obtain ⟨c,hc⟩:=I.ok.has x (.inl hk)
  obtain ⟨w',z⟩:=I.cell x c hc
  refine wpAny_storeName_cell I.ok.kind hk hc z (fun h' hc' hs=>?_)
  obtain ⟨oc,hoc,hocd⟩:=id z
  refine h { s with heap:=h' } ⟨I.ok,I.os,I.bare,⟨fun b o e n hb hx=>?_,fun b o e n hb hx=>?_,I.base.free,fun b o e hx=>?_,I.base.tups,I.base.frzs,I.base.tbls⟩,⟨m,hn.sameBut hs (Ne.symm (cne x c hc)),fun j y v' e1 e2 e3=>?_⟩,fun y c' e=>?_,I.free,I.freeC,fun p hp=>?_,tracked ⟨oc,hoc,I.freeC x c hc⟩ hs,by simpa using I.len⟩ ⟨c,hs,.inr hc⟩
  ·exact (hs.2 b (Nat.ne_of_lt (Nat.lt_of_lt_of_le (Heap.lt_size e) (I.ok.cab x c hfn hc)))).trans (I.base.keep b o e n hb hx)
  ·obtain ⟨sl,e1⟩:=I.base.slot b o e n hb hx
   exact ⟨sl,(hs.2 b (Nat.ne_of_lt (Nat.lt_of_lt_of_le (Heap.lt_size e) (I.ok.cab x c hfn hc)))).trans e1⟩
  ·obtain ⟨o',e1⟩:=I.base.there b o e hx
   exact ⟨o',(hs.2 b (Nat.ne_of_lt (Nat.lt_of_lt_of_le (Heap.lt_size e) (I.ok.cab x c hfn hc)))).trans e1⟩
  ·by_cases hj:j=i
   ·subst hj
    rw [hi] at e1;cases e1
    rw [List.getElem?_set_self hiσ] at e2
    cases e2
    exact ⟨u,r,.inr ⟨.inl hk,c,hc,hc'⟩⟩
   ·rw [List.getElem?_set_ne (Ne.symm hj)] at e2
    obtain ⟨u',r',q⟩:=hl j y v' e1 e2 e3
    refine ⟨u',r',?_⟩
    rcases q with q | ⟨k,c',e,z'⟩
    ·exact .inl q
    ·refine .inr ⟨k,c',e,z'.sameBut hs ?_⟩
     rintro rfl
     exact hj (QV hN e1 (I.ok.inj _ _ _ e hc▸hi))
  ·by_cases hcc:c'=c
   ·subst hcc;exact ⟨_,hc'⟩
   ·obtain ⟨w2,z2⟩:=I.cell y c' e
    exact ⟨w2,z2.sameBut hs hcc⟩
  ·obtain ⟨e,n,ne,nf,d⟩:=I.pin p hp
   refine ⟨(hs.2 p.1 ?_).trans e,n,ne,nf,d⟩
   intro q
   rw [q,hoc] at e
   have q':oc=p.2:=Option.some.inj e
   exact d w' (by rw [← q'];exact hocd)
theorem Ug {M:Model} {A:Around} {E:Value→Shared→Prop} {i:Nat} {x:Str} {v:V} {u:Value} {Q:Unit→Shared→Prop} (I:Inv X pins σ H s) (hN:X.N.Nodup) (hi:X.N[i]?=some x) (hx:Loc X.env.scope x) (r:Yz v u)
  (h:∀ s',Inv X pins (σ.set i (some v)) H s'→Q () s') (hf:X.fn x=true∨X.env.scope.names.lookup x=some .local:=by first | exact .inl rfl | exact .inr rfl | assumption):wpAny M A (storeName X.env x u) Q E s :=
 YcP I hN hi hx r (fun s' I' _=>h s' I') hf
theorem Inv.call' {s':Shared} {ch:List Addr} (I:Inv X pins σ H s) (ho:s'.os=s.os) (u:Un (frs X.stack) ch H H' s.heap s'.heap) (hok:HOk X.prog X.w H' s'.heap) (hg:AllBare s'.gens)
  (hch:∀ b∈ch,(b∈X.ex∨X.s₀.heap.objs.size≤b)∧b≠X.env.locals∧(∀ x c,X.env.cells.lookup x=some c→c≠b)∧∀ p∈X.pn++pins,p.1≠b):Inv X pins σ H' s':=by
 obtain ⟨h',g',d',t',o'⟩:=s'
 have e:o'=s.os:=ho
 subst e
 exact I.call (g':=g') (t':=t') (d':=d') u hok hg hch
end
abbrev XK:=Value→Option Addr→Hp→Prop
abbrev St:=List (Option V)
abbrev VK:=V→Hp→Prop
abbrev TE:=St→Hp→VK→Prop
abbrev TT:=St→Hp→(Bool→Hp→Prop)→Prop
abbrev TA:=St→Hp→(List V→Hp→Prop)→Prop
structure Ends where
 nx:St→Hp→Prop
 rt:VK
 bk:St→Hp→Prop:=fun _ _=>False
 ct:St→Hp→Prop:=fun _ _=>False
abbrev TS:=Ends→St→Hp→Prop
def EP (X:Cx) (pins:List (Addr×Obj)) (σ:St) (Q:VK) (u:Value) (s':Shared):Prop:=∃ v H',Inv X pins σ H' s'∧Yz v u∧Q v H'
def TP (X:Cx) (pins:List (Addr×Obj)) (σ:St) (Q:Bool→Hp→Prop) (b:Bool) (s':Shared):Prop:=∃ H',Inv X pins σ H' s'∧Q b H'
def AP (X:Cx) (pins:List (Addr×Obj)) (σ:St) (Q:List V→Hp→Prop) (us:List Value) (s':Shared):Prop:=∃ vs H',Inv X pins σ H' s'∧Yp vs us∧Q vs H'
def SP (X:Cx) (pins:List (Addr×Obj)) (D:Ends) (f:Flow) (s':Shared):Prop :=
 match f with
 | .next=>∃ σ' H',Inv X pins σ' H' s'∧D.nx σ' H'
 | .brk=>∃ σ' H',Inv X pins σ' H' s'∧D.bk σ' H'
 | .cont=>∃ σ' H',Inv X pins σ' H' s'∧D.ct σ' H'
 | .ret u=>∃ v σ' H',Inv X pins σ' H' s'∧Yz v u∧D.rt v H'
def PE (X:Cx) (e:Expr) (t:TE):Prop :=
 ∀ (pins:List (Addr×Obj)) (s:Shared) (σ:St) (H:Hp) (Q:VK),Inv X pins σ H s→t σ H Q→wpAny (model X.prog X.w) X.A (eval e X.env) (EP X pins σ Q) X.xe s
def PT (X:Cx) (e:Expr) (t:TT):Prop :=
 ∀ (pins:List (Addr×Obj)) (s:Shared) (σ:St) (H:Hp) (Q:Bool→Hp→Prop),Inv X pins σ H s→t σ H Q→wpAny (model X.prog X.w) X.A (isTrue e X.env (eval e X.env)) (TP X pins σ Q) X.xe s
def PW (X:Cx) (e:Expr) (t:TT):Prop :=
 ∀ (whole:Sem Value) (pins:List (Addr×Obj)) (s:Shared) (σ:St) (H:Hp) (Q:Bool→Hp→Prop),Inv X pins σ H s→t σ H Q→wpAny (model X.prog X.w) X.A (isTrue e X.env whole) (TP X pins σ Q) X.xe s
theorem PW.pt {X:Cx} {e:Expr} {t:TT} (h:PW X e t):PT X e t:=h _
def PA (X:Cx) (es:List Expr) (t:TA):Prop :=
 ∀ (pos:Pos) (pins:List (Addr×Obj)) (s:Shared) (σ:St) (H:Hp) (Q:List V→Hp→Prop),Inv X pins σ H s→t σ H Q→wpAny (model X.prog X.w) X.A (spliced (backTo pos (starEach es X.env))) (AP X pins σ Q) X.xe s
def PS (X:Cx) (st:Stmt) (t:TS):Prop :=
 ∀ (pins:List (Addr×Obj)) (s:Shared) (σ:St) (H:Hp) (D:Ends),Inv X pins σ H s→t D σ H→wpAny (model X.prog X.w) X.A (exec st X.env) (SP X pins D) X.xe s
def PSs (X:Cx) (st:List Stmt) (t:TS):Prop :=
 ∀ (pins:List (Addr×Obj)) (s:Shared) (σ:St) (H:Hp) (D:Ends),Inv X pins σ H s→t D σ H→wpAny (model X.prog X.w) X.A (execs st X.env) (SP X pins D) X.xe s
theorem thn {α:Type} {t:Sem α} {Q Q':α→Shared→Prop} {M:Model} {A:Around} {E:Value→Shared→Prop} {s:Shared} (h:wpAny M A t Q E s) (hQ:∀ a s,Q a s→Q' a s):wpAny M A t Q' E s:=wpAny_mono h hQ fun _ _ x=>x
end L2
namespace L2
open PySem PySem.Spec PyProof.Rows
section
variable {X:Cx}
def kI (x:V) (k:Int→Prop):Prop:=match x with | .int i=>k i | _=>False
def kB (x:V) (k:Bool→Prop):Prop:=match x with | .bl i=>k i | _=>False
def kR (x:V) (k:Addr→Prop):Prop:=match x with | .ref i=>k i | _=>False
def k1 (l:List V) (k:V→Prop):Prop:=match l with | [x]=>k x | _=>False
def k2 (l:List V) (k:V→V→Prop):Prop:=match l with | [x,y]=>k x y | _=>False
theorem kI_ (i:Int) (k:Int→Prop):kI (.int i) k=k i:=rfl
theorem kB_ (i:Bool) (k:Bool→Prop):kB (.bl i) k=k i:=rfl
theorem kR_ (i:Addr) (k:Addr→Prop):kR (.ref i) k=k i:=rfl
theorem k1_ (x:V) (k:V→Prop):k1 [x] k=k x:=rfl
theorem k2_ (x y:V) (k:V→V→Prop):k2 [x,y] k=k x y:=rfl
theorem UP {x:V} {k:Int→Prop}:kI x k↔∃ i,x = .int i∧k i:=⟨fun h=>by cases x<;>first | exact ⟨_,rfl,h⟩ | exact h.elim,fun ⟨_,e,h⟩=>e▸h⟩
theorem Uh {x:V} {k:Bool→Prop}:kB x k↔∃ i,x = .bl i∧k i:=⟨fun h=>by cases x<;>first | exact ⟨_,rfl,h⟩ | exact h.elim,fun ⟨_,e,h⟩=>e▸h⟩
theorem Vj {x:V} {k:Addr→Prop}:kR x k↔∃ i,x = .ref i∧k i:=⟨fun h=>by cases x<;>first | exact ⟨_,rfl,h⟩ | exact h.elim,fun ⟨_,e,h⟩=>e▸h⟩
theorem k1_e {l:List V} {k:V→Prop} (h:k1 l k):∃ x,l=[x]∧k x:=by
 unfold k1 at h
 split at h
 ·exact ⟨_,rfl,h⟩
 ·exact h.elim
theorem k2_e {l:List V} {k:V→V→Prop} (h:k2 l k):∃ x y,l=[x,y]∧k x y:=by
 unfold k2 at h
 split at h
 ·exact ⟨_,_,rfl,h⟩
 ·exact h.elim
def vAt:Nat→St→(V→Prop)→Prop
 | 0,σ,k=>match σ with | some v::_=>k v | _=>False
 | n+1,σ,k=>match σ with | _::l=>vAt n l k | []=>False
theorem YeF (v:V) (l:St) (k:V→Prop):vAt 0 (some v::l) k=k v:=rfl
theorem YeG (n:Nat) (a:Option V) (l:St) (k:V→Prop):vAt (n+1) (a::l) k=vAt n l k:=rfl
theorem YbN:∀ {n:Nat} {σ:St} {k:V→Prop},vAt n σ k→∃ v,σ[n]?=some (some v)∧k v
 | 0,σ,k,h=>by
  unfold vAt at h
  split at h
  ·exact ⟨_,rfl,h⟩
  ·exact h.elim
 | n+1,σ,k,h=>by
  unfold vAt at h
  split at h
  ·exact YbN (n:=n) h
  ·exact h.elim
theorem YbO:∀ {n:Nat} {σ:St} {k:V→Prop} {v:V},σ[n]?=some (some v)→k v→vAt n σ k
 | _,[],_,_,e,_=>by simp at e
 | 0,a::σ,k,v,e,h=>by
  have:a=some v:=by simpa using e
  subst this
  exact h
 | n+1,a::σ,k,v,e,h=>YbO (n:=n) (σ:=σ) (by simpa using e) h
def Vk (i:Nat):TE:=fun σ H Q=>vAt i σ fun v=>Q v H
def tC (v:V):TE:=fun _ H Q=>Q v H
theorem YcQ {i:Nat} {x:Str} {pos:Pos} (hN:X.N[i]?=some x) (hv:Vis X.env.scope x) (hd:(x==("__debug__":Str))=false:=by decide) (hcd:(x==("__classdict__":Str))=false:=by decide):PE X (.Name x pos) (Vk i):=by
 intro pins s σ H Q I h
 obtain ⟨v,e,h⟩:=YbN h
 obtain ⟨m,hn,hl⟩:=I.loc
 obtain ⟨u,r,l⟩:=hl i x v hN e hv
 have fin:EP X pins σ Q u s:=⟨v,H,I,r,h⟩
 rcases l with ⟨hk,hm⟩ | ⟨hk,c,hc,hcell⟩
 ·exact wpAny_Name (wpAny_loadName_local I.ok.kind hk hn hm fin) hd
 ·rcases hk with hk | hk
  ·exact wpAny_Name (wpAny_loadName_cell I.ok.kind hk hc hcell fin) hd
  ·exact wpAny_Name (wpAny_loadName_free I.ok.kind hk hc hcell fin hcd) hd
theorem Yf {i j pos}:PE X (.Constant (.int i) j pos) (tC (.int i)):=fun _ _ _ H _ I h=>wpAny_Constant_int ⟨.int i,H,I.tok _,⟨_,rfl⟩,h⟩
theorem VW {b j pos}:PE X (.Constant (.bool b) j pos) (tC (.bl b)):=fun _ _ _ H _ I h=>Constant_bool ⟨.bl b,H,I,rfl,h⟩
theorem YfT {j pos}:PE X (.Constant .none j pos) (tC .non):=fun _ _ _ H _ I h=>Constant_none ⟨.non,H,I,rfl,h⟩
theorem Y7 {x j pos}:PE X (.Constant (.str x) j pos) (tC (.str x)):=fun _ _ _ H _ I h=>Calls.Constant_str ⟨.str x,H,I.tok _,⟨_,rfl⟩,h⟩
def Gl (X:Cx) (x:Str):Prop:=X.env.kindOf x=some .globalImplicit
theorem W5 {E:Value→Shared→Prop} {pins:List (Addr×Obj)} {s:Shared} {σ:St} {H:Hp} {x:Str} {u:Value} {pos:Pos} {Q:Value→Shared→Prop} (I:Inv X pins σ H s) (hg:Gl X x) (hm:X.mg x=some u) (h:Q u s)
  (hd:(x==("__debug__":Str))=false:=by decide):wpAny (model X.prog X.w) X.A (eval (.Name x pos) X.env) Q E s :=
 Calls.Name_function_global I.ok.kind hg (Calls.loadGlobal_global (by rw [I.ok.glob];exact I.mod.glob.keeps I.bk) hm h) hd
theorem WL {E:Value→Shared→Prop} {pins:List (Addr×Obj)} {s:Shared} {σ:St} {H:Hp} {x:Str} {u:Value} {pos:Pos} {Q:Value→Shared→Prop} (I:Inv X pins σ H s) (hg:Gl X x) (hm:X.mg x=none) (hv:bootBuiltins x=some u) (h:Q u s)
  (hn:x≠"__name__":=by decide) (hd:(x==("__debug__":Str))=false:=by decide):wpAny (model X.prog X.w) X.A (eval (.Name x pos) X.env) Q E s:=by
 obtain ⟨mb,h1,h2⟩:=I.mod.blt
 exact Calls.Name_function_global I.ok.kind hg (Calls.loadGlobal_builtin (by rw [I.ok.glob];exact I.mod.glob.keeps I.bk) hm (by rw [I.ok.blt];exact h1.keeps I.bk) ((h2 x hn).trans hv) h) hd
theorem Ye8 {x:Str} {v:V} {u:Value} {pos:Pos} (hg:Gl X x) (hm:X.mg x=some u) (r:Yz v u) (hd:(x==("__debug__":Str))=false:=by decide):PE X (.Name x pos) (tC v) :=
 fun _ _ _ H _ I h=>W5 I hg hm ⟨v,H,I,r,h⟩ hd
theorem Ye9 {x:Str} {v:V} {u:Value} {pos:Pos} (hg:Gl X x) (hm:X.mg x=none) (hv:bootBuiltins x=some u) (r:Yz v u) (hn:x≠"__name__":=by decide) (hd:(x==("__debug__":Str))=false:=by decide):PE X (.Name x pos) (tC v) :=
 fun _ _ _ H _ I h=>WL I hg hm hv ⟨v,H,I,r,h⟩ hn hd
variable {a b:Expr} {ta tb:TE} {pos:Pos}
def tB (t:TE):TT:=fun σ H Q=>t σ H fun x H1=>kB x fun c=>Q c H1
theorem X0 {e:Expr} {t:TE} (h:PE X e t) (he:∀ whole,isTrue e X.env whole=(do let v ← whole;standAt e.pos;holding [v] (truthy v))):PT X e (tB t):=by
 intro pins s σ H Q I hw
 refine isTrue_plain (thn (h pins s σ H _ I hw) fun v s1 ⟨x,H1,I1,r1,q1⟩=>?_) (he _)
 obtain ⟨d,rfl,q⟩:=Uh.mp q1
 cases r1
 exact wpAny_truthy_bool ⟨H1,I1,q⟩
variable {tA tB':TT} {YU:List Expr}
def tAnd (t u:TT):TT:=fun σ H Q=>t σ H fun c H1=>if c=true then u σ H1 Q else Q false H1
def tOr (t u:TT):TT:=fun σ H Q=>t σ H fun c H1=>if c=true then Q true H1 else u σ H1 Q
def tNot (t:TT):TT:=fun σ H Q=>t σ H fun c H1=>Q (!c) H1
theorem Ya8 (ha:PT X a tA):PW X (.BoolOp .And [a] pos) tA:=by
 intro wh pins s σ H Q I h
 refine isTrue_and (thn (ha pins s σ H Q I h) fun c s1 e=>?_)
 cases c with
 | true=>exact isTrue_and_nil e
 | false=>exact e
theorem Ur (ha:PT X a tA):PW X (.BoolOp .Or [a] pos) tA:=by
 intro wh pins s σ H Q I h
 refine isTrue_or (thn (ha pins s σ H Q I h) fun c s1 e=>?_)
 cases c with
 | false=>exact isTrue_or_nil e
 | true=>exact e
theorem QW (ha:PT X a tA) (hb:PW X (.BoolOp .And (b::YU) pos) tB'):PW X (.BoolOp .And (a::b::YU) pos) (tAnd tA tB'):=by
 intro wh pins s σ H Q I h
 refine isTrue_and (thn (ha pins s σ H _ I h) fun c s1 ⟨H1,I1,q1⟩=>?_)
 cases c with
 | true=>exact hb wh pins s1 σ H1 Q I1 q1
 | false=>exact ⟨H1,I1,q1⟩
theorem VX (ha:PT X a tA) (hb:PW X (.BoolOp .Or (b::YU) pos) tB'):PW X (.BoolOp .Or (a::b::YU) pos) (tOr tA tB'):=by
 intro wh pins s σ H Q I h
 refine isTrue_or (thn (ha pins s σ H _ I h) fun c s1 ⟨H1,I1,q1⟩=>?_)
 cases c with
 | true=>exact ⟨H1,I1,q1⟩
 | false=>exact hb wh pins s1 σ H1 Q I1 q1
theorem Us (ha:PT X a tA):PT X (.UnaryOp .Not a pos) (tNot tA):=by
 intro pins s σ H Q I h
 exact isTrue_not (ha pins s σ H (fun c H1=>Q (!c) H1) I h)
def YbP (ta tb:TE):TE:=fun σ H Q=>ta σ H fun x H1=>kB x fun c=>if c=true then tb σ H1 Q else Q (.bl false) H1
def tOrV (ta tb:TE):TE:=fun σ H Q=>ta σ H fun x H1=>kB x fun c=>if c=true then Q (.bl true) H1 else tb σ H1 Q
def YbQ (ta:TE):TE:=fun σ H Q=>ta σ H fun x H1=>kB x fun c=>Q (.bl (!c)) H1
theorem YfU {op} {t:TE} (h:PE X a t):PE X (.BoolOp op [a] pos) t:=fun pins s σ H Q I hw=>BoolOp_one (h pins s σ H Q I hw)
theorem YfV (ha:PE X a ta) (hb:PE X (.BoolOp .And (b::YU) pos) tb):PE X (.BoolOp .And (a::b::YU) pos) (YbP ta tb):=by
 intro pins s σ H Q I h
 refine BoolOp_and (thn (ha pins s σ H _ I h) fun v s1 ⟨x,H1,I1,r1,q1⟩=>?_)
 replace q1:=Uh.mp q1
 obtain ⟨c,rfl,q1⟩:=q1
 cases r1
 refine wpAny_truthy_bool ?_
 cases c with
 | true=>exact hb pins s1 σ H1 Q I1 q1
 | false=>exact ⟨.bl false,H1,I1,rfl,q1⟩
theorem YfW (ha:PE X a ta):PE X (.UnaryOp .Not a pos) (YbQ ta):=by
 intro pins s σ H Q I h
 refine UnaryOp_ (thn (ha pins s σ H _ I h) fun v s1 ⟨x,H1,I1,r1,q1⟩=>?_)
 replace q1:=Uh.mp q1
 obtain ⟨c,rfl,q1⟩:=q1
 cases r1
 exact not_of (wpAny_truthy_bool ⟨.bl (!c),H1,I1,rfl,q1⟩)
def tIf (t:TT) (ta tb:TE):TE:=fun σ H Q=>t σ H fun c H1=>if c=true then ta σ H1 Q else tb σ H1 Q
theorem QX {c:Expr} (hc:PT X c tA) (ha:PE X a ta) (hb:PE X b tb):PE X (.IfExp c a b pos) (tIf tA ta tb):=by
 intro pins s σ H Q I h
 refine wpAny_IfExp (thn (hc pins s σ H _ I h) fun d s1 ⟨H1,I1,q1⟩=>?_)
 cases d with
 | true=>exact ha pins s1 σ H1 Q I1 q1
 | false=>exact hb pins s1 σ H1 Q I1 q1
end
end L2
namespace L2
open PySem PySem.Spec PyProof.Rows
def SqL (K:PySem.W.Frag) (H:Hp) (a:Addr) (xs:List V):Prop :=
 Rd H a (.lst xs) ∨
  ∃ (o:Obj) (its:Array Value) (n:Nat),K.lookup a=some o∧o.cls = .type "list"∧o.dict=none∧o.data = .seq its n∧its.size≤sizeLine∧Yp xs its.toList
def SqT (K:PySem.W.Frag) (H:Hp) (a:Addr) (xs:List V):Prop :=
 Rd H a (.tup xs) ∨
  ∃ (o:Obj) (its:Array Value) (n:Nat),K.lookup a=some o∧o.cls = .type "tuple"∧o.data = .seq its n∧its.size≤sizeLine∧Yp xs its.toList
def absV:Value→Option V
 | .none=>some .non
 | .bool b=>some (.bl b)
 | .int i _=>some (.int i)
 | .str x _=>some (.str x)
 | .bytes b _=>some (.byt b)
 | .float b _=>some (.flt b)
 | .ref a=>some (.ref a)
 | .type n=>some (.ty n)
 | _=>none
theorem Yz.abs {x:V} {u:Value} (r:Yz x u):absV u=some x:=by
 cases x with
 | non=>cases r;rfl
 | bl _=>cases r;rfl
 | int _=>obtain ⟨t,rfl⟩:=r;rfl
 | str _=>obtain ⟨t,rfl⟩:=r;rfl
 | byt _=>obtain ⟨t,rfl⟩:=r;rfl
 | flt _=>obtain ⟨t,rfl⟩:=r;rfl
 | ref _=>cases r;rfl
 | ty _=>cases r;rfl
theorem Yz.inj {x y:V} {u:Value} (r:Yz x u) (q:Yz y u):x=y:=Option.some.inj (r.abs.symm.trans q.abs)
theorem Yp.inj:∀ {xs ys:List V} {us:List Value},Yp xs us→Yp ys us→xs=ys
 | _,_,_,.nil,.nil=>rfl
 | _,_,_,.cons r t,.cons r' t'=>by rw [r.inj r',Yp.inj t t']
section
variable {X:Cx} {pins:List (Addr×Obj)} {σ:St} {H:Hp} {s:Shared} {a:Addr} {xs ys:List V}
theorem SqL.of {K:PySem.W.Frag} (h:H a=some (.lst xs)):SqL K H a xs := .inl (.inl h)
theorem SqT.of {K:PySem.W.Frag} (h:H a=some (.tup xs)):SqT K H a xs := .inl (.inl h)
theorem Inv.list (I:Inv X pins σ H s) (h:SqL X.K H a xs):∃ its:List Value,Yp xs its∧PlainL s.heap a its.toArray∧xs.length≤sizeLine:=by
 rcases h with h | ⟨o,its,n,hk,hc,hd,hs,hz,r⟩
 ·obtain ⟨z,its,n,r,e⟩:=h.ok I.hok
  exact ⟨its,r,⟨_,n,e,rfl,rfl,rfl⟩,z⟩
 ·refine ⟨its.toList,r,⟨o,n,I.kIn a o hk,hc,hd,by simpa using hs⟩,?_⟩
  have e:=r.length
  simp only [Array.length_toList] at e
  omega
theorem Inv.tuple (I:Inv X pins σ H s) (h:SqT X.K H a xs):∃ its:List Value,Yp xs its∧IsTup s.heap a its.toArray∧xs.length≤sizeLine:=by
 rcases h with h | ⟨o,its,n,hk,hc,hs,hz,r⟩
 ·obtain ⟨z,its,r,p⟩:=h.ok I.hok
  exact ⟨its,r,p,z⟩
 ·refine ⟨its.toList,r,⟨o,I.kIn a o hk,hc,n,by simpa using hs⟩,?_⟩
  have e:=r.length
  simp only [Array.length_toList] at e
  omega
theorem Inv.list_inj (I:Inv X pins σ H s) (h:SqL X.K H a xs) (h':SqL X.K H a ys):xs=ys:=by
 obtain ⟨its,r,⟨o,n,e,_,_,d⟩,_⟩:=I.list h
 obtain ⟨its',r',⟨o',n',e',_,_,d'⟩,_⟩:=I.list h'
 rw [e] at e';cases e'
 rw [d] at d'
 injection d' with d1 _
 have:its=its':=by simpa using congrArg Array.toList d1
 subst this
 exact r.inj r'
theorem Inv.tuple_inj (I:Inv X pins σ H s) (h:SqT X.K H a xs) (h':SqT X.K H a ys):xs=ys:=by
 obtain ⟨its,r,⟨o,e,_,n,d⟩,_⟩:=I.tuple h
 obtain ⟨its',r',⟨o',e',_,n',d'⟩,_⟩:=I.tuple h'
 rw [e] at e';cases e'
 rw [d] at d'
 injection d' with d1 _
 have:its=its':=by simpa using congrArg Array.toList d1
 subst this
 exact r.inj r'
end
abbrev Cx.wish (X:Cx) (E:Value→Shared→Prop):Cx:={ X with xe:=E }
abbrev Cx.nox (X:Cx):Cx:=X.wish fun _ _=>False
theorem Cx.Ok.wish {X:Cx} (ok:X.Ok) (E:Value→Shared→Prop):(X.wish E).Ok :=
 ⟨ok.mod,ok.kind,ok.glob,ok.blt,ok.above,ok.inj,ok.has,ok.cab,ok.hd,ok.frames,ok.stk,ok.exf,ok.bs,ok.bsz,ok.noex,ok.exfs,ok.funs,ok.frf⟩
theorem Cx.Ok.unwish {X:Cx} {E:Value→Shared→Prop} (ok:(X.wish E).Ok):X.Ok :=
 ⟨ok.mod,ok.kind,ok.glob,ok.blt,ok.above,ok.inj,ok.has,ok.cab,ok.hd,ok.frames,ok.stk,ok.exf,ok.bs,ok.bsz,ok.noex,ok.exfs,ok.funs,ok.frf⟩
section
variable {X:Cx} {pins:List (Addr×Obj)} {σ:St} {H:Hp} {s:Shared} {E:Value→Shared→Prop}
theorem Inv.wish (I:Inv X pins σ H s) (E:Value→Shared→Prop):Inv (X.wish E) pins σ H s:=⟨I.ok.wish E,I.os,I.bare,I.base,I.loc,I.cell,I.free,I.freeC,I.pin,I.hok,I.len⟩
theorem Inv.unwish (I:Inv (X.wish E) pins σ H s):Inv X pins σ H s:=⟨I.ok.unwish,I.os,I.bare,I.base,I.loc,I.cell,I.free,I.freeC,I.pin,I.hok,I.len⟩
theorem SP.unwish {D:Ends} {f:Flow} {s':Shared} (h:SP (X.wish E) pins D f s'):SP X pins D f s':=by
 cases f with
 | next=>obtain ⟨σ',H',I,q⟩:=h;exact ⟨σ',H',I.unwish,q⟩
 | brk=>obtain ⟨σ',H',I,q⟩:=h;exact ⟨σ',H',I.unwish,q⟩
 | cont=>obtain ⟨σ',H',I,q⟩:=h;exact ⟨σ',H',I.unwish,q⟩
 | ret u=>obtain ⟨v,σ',H',I,r,q⟩:=h;exact ⟨v,σ',H',I.unwish,r,q⟩
theorem PSs.nox {st:List Stmt} {t:TS} (h:PSs X.nox st t):PSs X st t:=fun pins s σ H D I hw =>
 wpAny_mono (h pins s σ H D (I.wish _) hw) (fun _ _ q=>q.unwish) fun _ _ z=>False.elim z
end
section
variable {X:Cx} {st:Stmt} {YU:List Stmt} {t u:TS} {e:Expr} {te:TE} {pos:Pos}
def YbR:TS:=fun D σ H=>D.nx σ H
def QY (t u:TS):TS:=fun D σ H=>t { D with nx:=u D } σ H
theorem YJ:PSs X [] YbR:=fun _ _ σ H _ I h=>wpAny_execs_nil ⟨σ,H,I,h⟩
theorem Ye (h1:PS X st t) (h2:PSs X YU u):PSs X (st::YU) (QY t u):=by
 intro pins s σ H D I h
 refine wpAny_execs_cons (thn (h1 pins s σ H { D with nx:=u D } I h) fun f s1 q=>?_)
 cases f with
 | next =>
  obtain ⟨σ',H',I',q⟩:=q
  exact h2 pins s1 σ' H' D I' q
 | ret v=>exact q
 | brk=>exact q
 | cont=>exact q
theorem Yh (h1:PS X st t):PSs X [st] t:=by
 intro pins s σ H D I h
 refine wpAny_execs_cons (thn (h1 pins s σ H D I h) fun f s1 q=>?_)
 cases f with
 | next=>exact wpAny_execs_nil q
 | ret v=>exact q
 | brk=>exact q
 | cont=>exact q
def YcR:TS:=fun D σ H=>D.bk σ H
def YeH:TS:=fun D σ H=>D.ct σ H
theorem Inv.quiet {pins:List (Addr×Obj)} {σ:St} {H:Hp} {s:Shared} (I:Inv X pins σ H s):interactive X.env=false:=by simp [interactive,I.ok.kind]
def YbS (te:TE):TS:=fun D σ H=>te σ H fun _ H1=>D.nx σ H1
theorem Y2 (he:PE X e te) (hs:swapsWith e none pos.line X.env=pure false):PS X (.Expr e pos) (YbS te):=by
 intro pins s σ H D I h
 exact wpAny_Expr_any (thn (he pins s σ H _ I h) fun v s1 ⟨x,H1,I1,r1,q1⟩=>⟨σ,H1,I1,q1⟩) I.quiet hs
def tRet (te:TE):TS:=fun D σ H=>te σ H D.rt
theorem Ym (he:PE X e te):PS X (.Return (some e) pos) (tRet te):=by
 intro pins s σ H D I h
 exact wpAny_Return_some (thn (he pins s σ H _ I h) fun v s1 ⟨x,H1,I1,r1,q1⟩=>⟨x,σ,H1,I1,r1,q1⟩)
def YeI:TS:=fun D _ H=>D.rt .non H
def tIfS (c:TT) (t u:TS):TS:=fun D σ H=>c σ H fun b H1=>if b=true then t D σ H1 else u D σ H1
theorem YV {c:Expr} {a b:List Stmt} {tc:TT} (hc:PT X c tc) (ha:PSs X a t) (hb:PSs X b u):PS X (.If c a b pos) (tIfS tc t u):=by
 intro pins s σ H D I h
 refine wpAny_If (thn (hc pins s σ H _ I h) fun d s1 ⟨H1,I1,q1⟩=>?_)
 cases d with
 | true=>exact ha pins s1 σ H1 D I1 q1
 | false=>exact hb pins s1 σ H1 D I1 q1
def QZ:TS:=fun _ _ _=>False
theorem Xp:PS X st QZ:=fun _ _ _ _ _ _ h=>h.elim
end
abbrev TG:=V→St→Hp→(St→Hp→Prop)→Prop
abbrev TGs:=List V→St→Hp→(St→Hp→Prop)→Prop
def PG (X:Cx) (target:Expr) (t:TG):Prop :=
 ∀ (pins:List (Addr×Obj)) (s:Shared) (σ:St) (H:Hp) (v:V) (u:Value) (Q:St→Hp→Prop),Inv X pins σ H s→Yz v u→t v σ H Q →
  wpAny (model X.prog X.w) X.A (assign target X.env u) (fun _ s'=>∃ σ' H',Inv X pins σ' H' s'∧Q σ' H') X.xe s
def PGs (X:Cx) (ts:List Expr) (t:TGs):Prop :=
 ∀ (pins:List (Addr×Obj)) (s:Shared) (σ:St) (H:Hp) (vs:List V) (us:List Value) (Q:St→Hp→Prop),Inv X pins σ H s→Yp vs us→t vs σ H Q →
  wpAny (model X.prog X.w) X.A (assignInOrder ((assignEach ts X.env).map (·.2)) us) (fun _ s'=>∃ σ' H',Inv X pins σ' H' s'∧Q σ' H') X.xe s
abbrev TSet:=V→V→V→Hp→(Hp→Prop)→Prop
def PSet (X:Cx) (t:TSet):Prop :=
 ∀ (pins:List (Addr×Obj)) (s:Shared) (σ:St) (H:Hp) (o i v:V) (ov iv u:Value) (Q:Hp→Prop),Inv X pins σ H s→Yz o ov→Yz i iv→Yz v u→t o i v H Q →
  wpAny (model X.prog X.w) X.A (setItem ov iv u) (fun _ s'=>∃ H',Inv X pins σ H' s'∧Q H') X.xe s
abbrev TIp:=V→V→Hp→VK→Prop
def PIp (X:Cx) (op:Operator) (t:TIp):Prop :=
 ∀ (pins:List (Addr×Obj)) (s:Shared) (σ:St) (H:Hp) (x y:V) (v u:Value) (Q:VK),Inv X pins σ H s→Yz x v→Yz y u→t x y H Q →
  wpAny (model X.prog X.w) X.A (inplaceOp op v u) (EP X pins σ Q) X.xe s
section
variable {X:Cx} {pos:Pos}
def Yy (i:Nat):TG:=fun v σ H Q=>Q (σ.set i (some v)) H
theorem Yx {i:Nat} {x:Str} (hN:X.N.Nodup) (hi:X.N[i]?=some x) (hx:Loc X.env.scope x) (hf:X.fn x=true∨X.env.scope.names.lookup x=some .local:=by first | exact .inl rfl | exact .inr rfl | assumption):PG X (.Name x pos) (Yy i):=by
 intro pins s σ H v u Q I r h
 exact wpAny_assign_Name (Ug I hN hi hx r (fun s' I'=>⟨_,H,I',h⟩) hf)
def Vl:TGs:=fun vs σ H Q=>vs=[]∧Q σ H
def Xt (t:TG) (u:TGs):TGs:=fun vs σ H Q=>∃ v r,vs=v::r∧t v σ H fun σ' H'=>u r σ' H' Q
theorem W6:PGs X [] Vl:=by
 intro pins s σ H vs us Q I r h
 obtain ⟨e,h⟩:=h
 subst e
 cases r
 exact assignInOrder_nil ⟨σ,H,I,h⟩
theorem Xq {e:Expr} {es:List Expr} {t:TG} {u:TGs} (h1:PG X e t) (h2:PGs X es u)
  (hs:(assignEach (e::es) X.env).map (·.2)=assign e X.env::(assignEach es X.env).map (·.2)):PGs X (e::es) (Xt t u):=by
 intro pins s σ H vs us Q I r h
 obtain ⟨v,vr,e1,h⟩:=h
 subst e1
 cases r with
 | cons r rr =>
  rw [hs]
  refine assignInOrder_cons (thn (h1 pins s σ H _ _ _ I r h) fun _ s1 ⟨σ1,H1,I1,q1⟩=>?_)
  exact h2 pins s1 σ1 H1 _ _ Q I1 rr q1
def W2 (K:PySem.W.Frag) (n:Nat) (t:TGs):TG:=fun v σ H Q=>∃ a xs,v = .ref a∧SqT K H a xs∧xs.length=n∧t xs σ H Q
theorem VD {es:List Expr} {k:Nat} {t:TGs} {n:Nat} (hc:X.calm=true) (h:PGs X es t)
  (hn:(assignEach es X.env).length=n) (hst:(assignEach es X.env).findIdx? (·.1)=none):PG X (.Tuple es k pos) (W2 X.K n t):=by
 intro pins s σ H v u Q I r hw
 obtain ⟨a,xs,e1,hq,hl,hw⟩:=hw
 subst e1
 cases r
 obtain ⟨its,rv,ht,hz⟩:=I.tuple hq
 refine assign_Tuple_tuple (I.ok.hd hc) ht (by simp [hn,← hl,rv.length]) hst fun h' hx=>?_
 have I1:Inv X pins σ H { s with heap:=h' }:=I.kept (t':=s.toks) fun b o e=>hx b o (Nat.ne_of_lt (Heap.lt_size e)) e
 exact h pins _ σ H xs _ Q I1 (by simpa using rv) hw
def gSub (to ti:TE) (t:TSet):TG:=fun v σ H Q=>to σ H fun o H1=>ti σ H1 fun i H2=>t o i v H2 fun H3=>Q σ H3
theorem YcS {o i:Expr} {to ti:TE} {t:TSet} (ho:PE X o to) (hi:PE X i ti) (hs:PSet X t)
  (ha:∀ v,assign (.Subscript o i pos) X.env v=(do
   let ov ← holding [v] (eval o X.env)
   let iv ← holding [v,ov] (eval i X.env)
   standAt pos
   holding [v,ov,iv] (setItem ov iv v)
   release [v,ov,iv] [])):PG X (.Subscript o i pos) (gSub to ti t):=by
 intro pins s σ H v u Q I r h
 rw [ha]
 refine wpAny_bind (wpAny_holding (thn (ho pins s σ H _ I h) fun ov s1 ⟨x,H1,I1,r1,q1⟩=>?_))
 refine wpAny_bind (wpAny_holding (thn (hi pins s1 σ H1 _ I1 q1) fun iv s2 ⟨y,H2,I2,r2,q2⟩=>?_))
 refine wpAny_bind (wpAny_standAt (wpAny_bind (wpAny_holding (thn (hs pins s2 σ H2 x y v ov iv u _ I2 r1 r2 r q2) fun _ s3 ⟨H3,I3,q3⟩=>?_))))
 exact wpAny_release ⟨σ,H3,I3,q3⟩
def Q0 (te:TE) (g:TG):TS:=fun D σ H=>te σ H fun x H1=>g x σ H1 D.nx
theorem Q1 {tg e:Expr} {te:TE} {g:TG} (he:PE X e te) (hg:PG X tg g) (hs:swapsWithSole [tg] e pos.line X.env=pure false) (hw:swappedStores [tg] e X.env=pure none)
  (h1:(assignEach [tg] X.env).map (·.2)=[assign tg X.env]):PS X (.Assign [tg] e pos) (Q0 te g):=by
 intro pins s σ H D I h
 refine wpAny_Assign_stores (thn (he pins s σ H _ I h) fun v s1 ⟨x,H1,I1,r1,q1⟩=>?_) hs hw
 rw [h1]
 exact thn (hg pins s1 σ H1 x v _ I1 r1 q1) fun _ s2 q=>q
theorem Yq {i:Nat} {x:Str} {e:Expr} {te:TE} {pos':Pos} (hN:X.N.Nodup) (hi:X.N[i]?=some x) (hx:Loc X.env.scope x) (he:PE X e te) (hs:swapsWith e (some (.Name x pos')) pos.line X.env=pure false) (hf:X.fn x=true∨X.env.scope.names.lookup x=some .local) :
  PS X (.Assign [.Name x pos'] e pos) (Q0 te (Yy i)):=by
 intro pins s σ H D I h
 refine wpAny_Assign_Name (thn (he pins s σ H _ I h) fun v s1 ⟨y,H1,I1,r1,q1⟩=>?_) hs
 exact Ug I1 hN hi hx r1 (fun s2 I2=>⟨_,H1,I2,q1⟩) hf
def tAug (i:Nat) (te:TE) (ti:TIp):TS:=fun D σ H=>vAt i σ fun x=>te σ H fun y H1=>ti x y H1 fun z H2=>D.nx (σ.set i (some z)) H2
theorem Q2 {i:Nat} {x:Str} {e:Expr} {te:TE} {op:Operator} {ti:TIp} {pos':Pos} (hN:X.N.Nodup) (hi:X.N[i]?=some x) (hx:Loc X.env.scope x) (he:PE X e te) (ho:PIp X op ti) (hf:X.fn x=true∨X.env.scope.names.lookup x=some .local) :
  PS X (.AugAssign (.Name x pos') op e pos) (tAug i te ti):=by
 intro pins s σ H D I h
 obtain ⟨v,e1,h⟩:=YbN h
 obtain ⟨m,hn,hl⟩:=I.loc
 have vis:Vis X.env.scope x:=by rcases hx with k | k;exact .inl k;exact .inr (.inl k)
 obtain ⟨u,r,l⟩:=hl i x v hi e1 vis
 refine wpAny_AugAssign_Name ?_
 have go:wpAny (model X.prog X.w) X.A (eval e X.env) (fun w s₂=>wpAny (model X.prog X.w) X.A (inplaceOp op u w) (fun r s₃=>wpAny (model X.prog X.w) X.A (storeName X.env x r) (fun _=>SP X pins D .next) X.xe s₃) X.xe s₂) X.xe s:=by
  refine thn (he pins s σ H _ I h) fun w s1 ⟨y,H1,I1,r1,q1⟩=>?_
  refine thn (ho pins s1 σ H1 v y u w _ I1 r r1 q1) fun z s2 ⟨zv,H2,I2,r2,q2⟩=>?_
  exact Ug I2 hN hi hx r2 (fun s3 I3=>⟨_,H2,I3,q2⟩) hf
 rcases l with ⟨hk,hm⟩ | ⟨hk,c,hc,hcell⟩
 ·exact wpAny_loadName_local I.ok.kind hk hn hm go
 ·rcases hk with hk | hk
  ·exact wpAny_loadName_cell I.ok.kind hk hc hcell go
  ·rcases hx with k | k
   ·have:X.env.scope.names.lookup x=some .free:=hk
    rw [k] at this;cases this
   ·have:X.env.scope.names.lookup x=some .free:=hk
    rw [k] at this;cases this
def ipI (f:Int→Int→Int):TIp:=fun x y H Q=>kI x fun i=>kI y fun j=>Q (.int (f i j)) H
theorem kII {x y:V} {k:Int→Int→Prop} (h:kI x fun i=>kI y fun j=>k i j):∃ i j,x = .int i∧y = .int j∧k i j:=by
 obtain ⟨i,e,h⟩:=UP.mp h
 obtain ⟨j,e',h⟩:=UP.mp h
 exact ⟨i,j,e,e',h⟩
theorem YfX:PIp X .Add (ipI fun i j=>i+j):=by
 intro pins s σ H x y v u Q I r1 r2 h
 obtain ⟨i,j,e1,e2,q⟩:=kII h
 subst e1;subst e2
 obtain ⟨t,rfl⟩:=r1
 obtain ⟨t',rfl⟩:=r2
 exact iadd_int ⟨.int _,H,I.tok _,⟨_,rfl⟩,q⟩
theorem YcT:PIp X .Sub (ipI fun i j=>i - j):=by
 intro pins s σ H x y v u Q I r1 r2 h
 obtain ⟨i,j,e1,e2,q⟩:=kII h
 subst e1;subst e2
 obtain ⟨t,rfl⟩:=r1
 obtain ⟨t',rfl⟩:=r2
 exact isub_int ⟨.int _,H,I.tok _,⟨_,rfl⟩,q⟩
end
section
variable {X:Cx} {pos:Pos}
def YcU (c:TT) (tb:TS):TS:=fun D σ H=>∃ W:Nat→St→Hp→Prop,(∃ m,W m σ H)∧∀ m σ H,W m σ H →
 c σ H fun b H1=>if b=true then ∃ N:St→Hp→Prop,(∀ σ' H',N σ' H'→∃ m',m'<m∧W m' σ' H')∧tb { D with nx:=N,ct:=N,bk:=D.nx } σ H1 else D.nx σ H1
theorem XS {c:Expr} {body:List Stmt} {tc:TT} {tb:TS} (hp:PassesOwn (model X.prog X.w) X.A X.env X.xe) (hc:PT X c tc) (hb:PSs X body tb):PS X (.While c body [] pos) (YcU tc tb):=by
 intro pins s σ H D I h
 obtain ⟨W,⟨m0,w0⟩,turn⟩:=h
 refine wpAny_While (codeAny_whileLoop (fun n s'=>∃ σ' H',Inv X pins σ' H' s'∧W n σ' H') ?_ m0 ⟨σ,H,I,w0⟩)
 rintro n s1 ⟨σ1,H1,I1,w1⟩
 refine wpAny_passesOwn hp (thn (hc pins s1 σ1 H1 _ I1 (turn n σ1 H1 w1)) fun b s2 ⟨H2,I2,q2⟩=>?_)
 cases b with
 | true =>
  obtain ⟨N,hN,q2⟩:=q2
  rw [if_pos rfl]
  refine wpAny_passesOwn hp (thn (hb pins s2 σ1 H2 _ I2 q2) fun f s3 q3=>?_)
  cases f with
  | next =>
   obtain ⟨σ3,H3,I3,n3⟩:=q3
   obtain ⟨m',hm,w3⟩:=hN σ3 H3 n3
   exact ⟨m',hm,σ3,H3,I3,w3⟩
  | cont =>
   obtain ⟨σ3,H3,I3,n3⟩:=q3
   obtain ⟨m',hm,w3⟩:=hN σ3 H3 n3
   exact ⟨m',hm,σ3,H3,I3,w3⟩
  | brk=>exact q3
  | ret v=>exact q3
 | false =>
  rw [if_neg Bool.false_ne_true]
  exact wpAny_execs_nil ⟨σ1,H2,I2,q2⟩
end
structure It where
 go:Nat→Hp→Prop
 yld:Nat→Hp→V→Hp→Prop
 stop:Nat→Hp→Prop
def X9 (X:Cx) (pins:List (Addr×Obj)) (H:Hp) (b:Addr):Prop :=
 H b=none∧b≠X.env.locals∧b∉X.fs∧(b∈X.ex∨X.s₀.heap.objs.size≤b)∧(∀ x c,X.env.cells.lookup x=some c→c≠b)∧∀ p∈X.pn++pins,p.1≠b
theorem Inv.fpOk {X:Cx} {pins:List (Addr×Obj)} {σ:St} {H H':Hp} {s:Shared} {b:Addr} (I:Inv X pins σ H s) (hb:s.heap.objs.size≤b) (hn:H' b=none):X9 X pins H' b:=by
 refine ⟨hn,Nat.ne_of_gt (Nat.lt_of_lt_of_le I.lt hb),I.nofs hb,.inr (Nat.le_trans I.sz hb),fun x c e z=>?_,fun p hp z=>?_⟩
 ·obtain ⟨v,q⟩:=I.cell x c e
  exact absurd (Nat.lt_of_lt_of_le q.lt (by rw [z];exact hb)) (Nat.lt_irrefl _)
 ·exact absurd (Nat.lt_of_lt_of_le (Heap.lt_size (I.pin p hp).1) (by rw [z];exact hb)) (Nat.lt_irrefl _)
structure Turn (P:Program) (w:World) (K:PySem.W.Frag) (tg:Expr) (J:It) (fp:List Addr) (it:Addr) (tn:Nat→Heap→Prop):Prop where
 mem:it∈fp
 obj:∀ i h,tn i h→∀ b∈fp,∃ o,h.get? b=some o∧∀ v,o.data ≠ .cell v
 keep:∀ i h h',tn i h→(∀ b∈fp,∀ o,h.get? b=some o→h'.get? b=some o)→tn i h'
 item:∀ (X:Cx),X.prog=P→X.w=w→X.K=K→X.calm=true→∀ (i:Nat) (pins:List (Addr×Obj)) (s:Shared) (σ:St) (H:Hp) (E:Value→Shared→Prop),Inv X pins σ H s→(∀ b∈fp,X9 X pins H b)→tn i s.heap→J.go i H →
  wpAny (model P w) X.A (pyNext (.ref it)) (fun r s1=>∃ u,r=some u ∧
   wpAny (model P w) X.A (letOwnedTupleGo tg (.ref it) u) (fun _ s2=>∃ x H',Inv X pins σ H' s2∧Yz x u∧J.yld i H x H'∧tn (i+1) s2.heap∧∀ b∈fp,H' b=none) E s1) E s
 done:∀ (X:Cx),X.prog=P→X.w=w→X.K=K→X.calm=true→∀ (i:Nat) (pins:List (Addr×Obj)) (s:Shared) (σ:St) (H:Hp) (E:Value→Shared→Prop),Inv X pins σ H s→(∀ b∈fp,X9 X pins H b)→tn i s.heap→J.stop i H →
  wpAny (model P w) X.A (pyNext (.ref it)) (fun r s1=>r=none∧Inv X pins σ H s1) E s
 self:∀ (A:Around) (i:Nat) (s:Shared) (Q:Value→Shared→Prop) (E:Value→Shared→Prop),tn i s.heap→Q (.ref it) s→wpAny (model P w) A (pyIter (.ref it)) Q E s
abbrev TI:=St→Hp→(It→Hp→Prop)→Prop
def PIE (X:Cx) (pins:List (Addr×Obj)) (σ:St) (tg:Expr) (R:It→Hp→Prop) (itv:Value) (s2:Shared):Prop :=
 ∃ (it:Addr) (fp:List Addr) (tn:Nat→Heap→Prop) (J:It) (H':Hp),itv = .ref it∧Inv X pins σ H' s2∧Turn X.prog X.w X.K tg J fp it tn∧tn 0 s2.heap∧(∀ b∈fp,X9 X pins H' b)∧R J H'
def PI (X:Cx) (tg iter:Expr) (wi:TI):Prop :=
 ∀ (pins:List (Addr×Obj)) (s:Shared) (σ:St) (H:Hp) (R:It→Hp→Prop),Inv X pins σ H s→wi σ H R →
  wpAny (model X.prog X.w) X.A (eval iter X.env) (fun v s1=>wpAny (model X.prog X.w) X.A (pyIter v) (PIE X pins σ tg R) X.xe s1) X.xe s
theorem QI {M:Model} {A:Around} {E:Value→Shared→Prop} {s:Shared} {tg:Expr} {it:Addr} {u:Value} {o:Obj} {n:String} {vs:Array Value} {Q:Unit→Shared→Prop} (ho:s.heap.get? it=some o) (hc:o.cls = .type n) (hd:o.data = .fields vs)
  (hn:["enumerate","zip","dict_itemiterator","dict_reverseitemiterator","odict_iterator","itertools.zip_longest","itertools.pairwise"].contains n=false) (hQ:Q () s):wpAny M A (letOwnedTupleGo tg (.ref it) u) Q E s:=by
 unfold letOwnedTupleGo
 cases tg<;>first
  | exact wpAny_pure hQ
  | (cases u<;>first
    | exact wpAny_pure hQ
    | (refine wpAny_bind (wpAny_load ho ?_)
       rw [hc,hd]
       show wpAny M A (if (["enumerate","zip","dict_itemiterator","dict_reverseitemiterator","odict_iterator","itertools.zip_longest","itertools.pairwise"].contains n&&vs[0]?==some (rawInt _))=true then _ else _) Q E s
       rw [if_neg (by intro h;rw [hn,Bool.false_and] at h;cases h)]
       exact wpAny_pure hQ))
def Itl (K:PySem.W.Frag) (a:Addr):It :=
 ⟨fun i H=>∃ xs x,SqL K H a xs∧xs[i]?=some x,fun i H x H'=>H'=H∧∀ xs,SqL K H a xs→xs[i]?=some x,fun i H=>∃ xs,SqL K H a xs∧xs.length≤i⟩
def Itt (K:PySem.W.Frag) (a:Addr):It :=
 ⟨fun i H=>∃ xs x,SqT K H a xs∧xs[i]?=some x,fun i H x H'=>H'=H∧∀ xs,SqT K H a xs→xs[i]?=some x,fun i H=>∃ xs,SqT K H a xs∧xs.length≤i⟩
def Itr (lo:Int) (n:Nat):It:=⟨fun i _=>i<n,fun i H x H'=>H'=H∧x = .int (lo+i),fun i _=>n≤i⟩
theorem YcV {P:Program} {w:World} {K:PySem.W.Frag} {tg:Expr} (a it:Addr):Turn P w K tg (Itl K a) [it] it (fun i h=>h.IsListIter it a i) where
 mem:=by simp
 obj:=fun i h st b hb=>by
  have e:b=it:=by simpa using hb
  subst e
  obtain ⟨o,e,c,d⟩:=st
  exact ⟨o,e,fun v z=>by rw [d] at z;cases z⟩
 keep:=fun i h h' st k=>st.at fun o e=>k it (by simp) o e
 item:=by
  intro X hP hw hK hc i pins s σ H E I hf st hg
  subst hP hw hK
  obtain ⟨xs,x,hq,hx⟩:=hg
  obtain ⟨its,rv,p,hz⟩:=I.list hq
  obtain ⟨u,hu,ru⟩:=rv.get hx
  obtain ⟨f0,f1,f2,f3,f4,f5⟩:=hf it (by simp)
  refine wpAny_pyNext_list_item st p.isList (x:=u) (by simpa using hu) fun h' st' sb=>?_
  have I1:Inv X pins σ H { s with heap:=h' }:=I.turned (t':=s.toks) (fun b o hb e=>(sb.2 b hb).trans e) f0 f1 f3 f4 f5
  obtain ⟨o,e,c,d⟩:=id st'
  exact ⟨u,rfl,QI (s:={ s with heap:=h' }) e c d (by decide) ⟨x,H,I1,ru,⟨rfl,fun ys hy=>by rw [I.list_inj hy hq];exact hx⟩,st',fun b hb=>(hf b hb).1⟩⟩
 done:=by
  intro X hP hw hK hc i pins s σ H E I hf st hg
  subst hP hw hK
  obtain ⟨xs,hq,hx⟩:=hg
  obtain ⟨its,rv,p,hz⟩:=I.list hq
  obtain ⟨f0,f1,f2,f3,f4,f5⟩:=hf it (by simp)
  have hl:=rv.length
  exact wpAny_pyNext_list_end (I.ok.hd hc) st p.isList (by simp;omega) fun h' eb=>⟨rfl,I.turned (t':=s.toks) (fun b o hb e=>eb b o hb e) f0 f1 f3 f4 f5⟩
 self:=fun _ _ _ _ _ st h=>wpAny_pyIter_listiter st h
theorem YbT {P:Program} {w:World} {K:PySem.W.Frag} {tg:Expr} (a it:Addr):Turn P w K tg (Itt K a) [it] it (fun i h=>h.IsTupleIter it a i) where
 mem:=by simp
 obj:=fun i h st b hb=>by
  have e:b=it:=by simpa using hb
  subst e
  obtain ⟨o,e,c,d⟩:=st
  exact ⟨o,e,fun v z=>by rw [d] at z;cases z⟩
 keep:=fun i h h' st k=>st.at fun o e=>k it (by simp) o e
 item:=by
  intro X hP hw hK hc i pins s σ H E I hf st hg
  subst hP hw hK
  obtain ⟨xs,x,hq,hx⟩:=hg
  obtain ⟨its,rv,p,hz⟩:=I.tuple hq
  obtain ⟨u,hu,ru⟩:=rv.get hx
  obtain ⟨f0,f1,f2,f3,f4,f5⟩:=hf it (by simp)
  refine wpAny_pyNext_tuple_item st (show s.heap.IsTuple a its.toArray from p) (x:=u) (by simpa using hu) fun h' st' sb=>?_
  have I1:Inv X pins σ H { s with heap:=h' }:=I.turned (t':=s.toks) (fun b o hb e=>(sb.2 b hb).trans e) f0 f1 f3 f4 f5
  obtain ⟨o,e,c,d⟩:=id st'
  exact ⟨u,rfl,QI (s:={ s with heap:=h' }) e c d (by decide) ⟨x,H,I1,ru,⟨rfl,fun ys hy=>by rw [I.tuple_inj hy hq];exact hx⟩,st',fun b hb=>(hf b hb).1⟩⟩
 done:=by
  intro X hP hw hK hc i pins s σ H E I hf st hg
  subst hP hw hK
  obtain ⟨xs,hq,hx⟩:=hg
  obtain ⟨its,rv,p,hz⟩:=I.tuple hq
  obtain ⟨f0,f1,f2,f3,f4,f5⟩:=hf it (by simp)
  have hl:=rv.length
  exact wpAny_pyNext_tuple_end (I.ok.hd hc) st (show s.heap.IsTuple a its.toArray from p) (by simp;omega) fun h' eb=>⟨rfl,I.turned (t':=s.toks) (fun b o hb e=>eb b o hb e) f0 f1 f3 f4 f5⟩
 self:=fun _ _ _ _ _ st h=>wpAny_pyIter_tupleiter st h
theorem YbU {P:Program} {w:World} {K:PySem.W.Frag} {tg:Expr} (it:Addr) (lo:Int) (n:Nat):Turn P w K tg (Itr lo n) [it] it (fun i h=>IsRangeIter h it (lo+(i:Nat)*1) ((n:Int) - (i:Nat)) 1) where
 mem:=by simp
 obj:=fun i h st b hb=>by
  have e:b=it:=by simpa using hb
  subst e
  exact ⟨_,st,fun v z=>by
   have z':Data.fields _=Data.cell v:=z
   cases z'⟩
 keep:=fun i h h' st k=>k it (by simp) _ st
 item:=by
  intro X hP hw hK hc i pins s σ H E I hf st hg
  subst hP hw hK
  obtain ⟨f0,f1,f2,f3,f4,f5⟩:=hf it (by simp)
  have W:=Walks.range (prog:=X.prog) (w:=X.w) (I.ok.hd hc) it lo 1 n
  refine W.item i s _ _ hg st fun v h' tk hv st' kk=>?_
  obtain ⟨t,rfl⟩:=hv
  have I1:Inv X pins σ H { s with heap:=h',toks:=tk }:=I.turned (fun b o hb e=>kk b o (by simpa using hb) e) f0 f1 f3 f4 f5
  refine ⟨_,rfl,QI (s:={ s with heap:=h',toks:=tk }) (n:="range_iterator") st' rfl rfl (by decide) ⟨.int (lo+i),H,I1,⟨t,?_⟩,⟨rfl,rfl⟩,st',fun b hb=>(hf b hb).1⟩⟩
  rw [Int.mul_one]
 done:=by
  intro X hP hw hK hc i pins s σ H E I hf st hg
  subst hP hw hK
  obtain ⟨f0,f1,f2,f3,f4,f5⟩:=hf it (by simp)
  exact wpAny_pyNext_range_end (I.ok.hd hc) st (by have:n≤i:=hg;omega) fun h' eb=>⟨rfl,I.turned (t':=s.toks) (fun b o hb e=>eb b o hb e) f0 f1 f3 f4 f5⟩
 self:=fun _ _ _ _ _ st h=>wpAny_pyIter_rangeiter st h
end L2
namespace L2
open PySem PySem.Spec PyProof.Rows
section
variable {X:Cx} {tg:Expr}
def WA (K:PySem.W.Frag) (tl:TE):TI:=fun σ H R=>tl σ H fun x H1=>∃ a,x = .ref a∧(∃ xs,SqL K H1 a xs)∧R (Itl K a) H1
def iTup (K:PySem.W.Frag) (tl:TE):TI:=fun σ H R=>tl σ H fun x H1=>∃ a,x = .ref a∧(∃ xs,SqT K H1 a xs)∧R (Itt K a) H1
theorem XC {l:Expr} {tl:TE} (hl:PE X l tl):PI X tg l (WA X.K tl):=by
 intro pins s σ H R I h
 refine thn (hl pins s σ H _ I h) fun v s1 ⟨x,H1,I1,r1,q1⟩=>?_
 obtain ⟨a,e,⟨xs,hq⟩,q⟩:=q1
 subst e
 cases r1
 obtain ⟨its,rv,p,hz⟩:=I1.list hq
 refine wpAny_pyIter_list p.isList ?_
 refine ⟨s1.heap.objs.size,[s1.heap.objs.size],_,_,H1,rfl,I1.kept (t':=s1.toks) fun b o e=>Heap.get?_push_of_some _ e,YcV a _,⟨_,Heap.get?_push_size _ rfl,rfl,rfl⟩,fun b hb=>?_,q⟩
 have e:b=s1.heap.objs.size:=by simpa using hb
 subst e
 exact I1.fpOk (Nat.le_refl _) (I1.hok.fresh (Nat.le_refl _))
theorem Q3 {l:Expr} {tl:TE} (hl:PE X l tl):PI X tg l (iTup X.K tl):=by
 intro pins s σ H R I h
 refine thn (hl pins s σ H _ I h) fun v s1 ⟨x,H1,I1,r1,q1⟩=>?_
 obtain ⟨a,e,⟨xs,hq⟩,q⟩:=q1
 subst e
 cases r1
 obtain ⟨its,rv,p,hz⟩:=I1.tuple hq
 refine wpAny_pyIter_tuple (show s1.heap.IsTuple a its.toArray from p) ?_
 refine ⟨s1.heap.objs.size,[s1.heap.objs.size],_,_,H1,rfl,I1.kept (t':=s1.toks) fun b o e=>Heap.get?_push_of_some _ e,YbT a _,⟨_,Heap.get?_push_size _ rfl,rfl,rfl⟩,fun b hb=>?_,q⟩
 have e:b=s1.heap.objs.size:=by simpa using hb
 subst e
 exact I1.fpOk (Nat.le_refl _) (I1.hok.fresh (Nat.le_refl _))
theorem Q4 {pins:List (Addr×Obj)} {σ:St} {H:Hp} {s:Shared} {R:It→Hp→Prop} {E:Value→Shared→Prop} {lo hi:Int} {t u v:Tok} {tk:Nat} (I:Inv X pins σ H s) (h1 : -(2^62)≤lo) (h2:lo<2^62) (h3 : -(2^62)≤hi) (h4:hi<2^62)
  (q:R (Itr lo (hi - lo).toNat) H):wpAny (model X.prog X.w) X.A (pyIter (.ref s.heap.objs.size)) (PIE X pins σ tg R) E { s with heap:=s.heap.push { cls := .type "range",data := .fields #[.int lo t,.int hi u,.int 1 v] },toks:=tk }:=by
 refine wpAny_pyIter_range (IsRange.new ..) (small_one h1 h2 h3 h4) ?_
 have I1:Inv X pins σ H { s with heap:=s.heap.push { cls := .type "range",data := .fields #[.int lo t,.int hi u,.int 1 v] },toks:=tk }:=I.kept fun b o e=>Heap.get?_push_of_some _ e
 refine ⟨(s.heap.push { cls := .type "range",data := .fields #[.int lo t,.int hi u,.int 1 v] }).objs.size,[(s.heap.push { cls := .type "range",data := .fields #[.int lo t,.int hi u,.int 1 v] }).objs.size],_,_,H,rfl,
  I1.kept (t':=tk) fun b o e=>Heap.get?_push_of_some _ e,YbU _ lo (hi - lo).toNat,?_,fun b hb=>?_,q⟩
 ·have e1:lo+((0:Nat):Int)*1=lo:=by simp
  have e2:(((hi - lo).toNat:Nat):Int) - ((0:Nat):Int)=Builtin.Range.rangeSize lo hi 1:=by rw [rangeSize_one];split<;>omega
  show IsRangeIter _ _ (lo+((0:Nat):Int)*1) ((((hi - lo).toNat:Nat):Int) - ((0:Nat):Int)) 1
  rw [e1,e2]
  exact Heap.get?_push_size _ rfl
 ·have e:b=(s.heap.push { cls := .type "range",data := .fields #[.int lo t,.int hi u,.int 1 v] }).objs.size:=by simpa using hb
  subst e
  exact I1.fpOk (Nat.le_refl _) (I1.hok.fresh (Nat.le_refl _))
def Ut (ta:TA):TI:=fun σ H R=>ta σ H fun vs H1=>∃ j:Int,vs=[.int j] ∧ -(2^62)≤j∧j<2^62∧R (Itr 0 j.toNat) H1
def YeJ (ta:TA):TI:=fun σ H R=>ta σ H fun vs H1=>∃ i j:Int,vs=[.int i,.int j]∧(-(2^62)≤i∧i<2^62 ∧ -(2^62)≤j∧j<2^62)∧R (Itr i (j - i).toNat) H1
theorem Xk {a:Expr} {ta:TA} {p pos:Pos} (hg:Gl X "range") (hm:X.mg "range"=none) (ha:PA X [a] ta) (hs:starEach [a] X.env=[(false,eval a X.env)]):PI X tg (.Call (.Name "range" p) [a] [] pos) (Ut ta):=by
 intro pins s σ H R I h
 refine Call_ (WL I hg hm boot_range (PyProof.Rows.callWith_type1 (thn (ha pos pins s σ H _ I h) fun us s1 ⟨vs,H1,I1,r1,q1⟩=>?_) hs rfl))
 obtain ⟨j,e,q1,q2,q⟩:=q1
 subst e
 cases r1 with
 | cons r rr =>
  cases rr
  obtain ⟨t,rfl⟩:=r
  exact call_range_1 (Q4 I1 (by omega) (by omega) q1 q2 (by simpa using q))
theorem Ql {a b:Expr} {ta:TA} {p pos:Pos} (hg:Gl X "range") (hm:X.mg "range"=none) (ha:PA X [a,b] ta) (hs:starEach [a,b] X.env=[(false,eval a X.env),(false,eval b X.env)]) (hs2:starEach [b] X.env=[(false,eval b X.env)]) :
  PI X tg (.Call (.Name "range" p) [a,b] [] pos) (YeJ ta):=by
 intro pins s σ H R I h
 refine Call_ (WL I hg hm boot_range (PyProof.Rows.callWith_type1 (thn (ha pos pins s σ H _ I h) fun us s1 ⟨vs,H1,I1,r1,q1⟩=>?_) (by rw [hs,hs2]) (by rw [hs2];rfl)))
 obtain ⟨i,j,e,⟨q1,q2,q3,q4⟩,q⟩:=q1
 subst e
 cases r1 with
 | cons r rr =>
  cases rr with
  | cons r' rr =>
   cases rr
   obtain ⟨t,rfl⟩:=r
   obtain ⟨t',rfl⟩:=r'
   exact call_range_2 (Q4 I1 q1 q2 q3 q4 q)
def Ui (wi:TI) (g:TG) (tb:TS):TS:=fun D σ H=>wi σ H fun J H1=>∃ W:Nat→Nat→St→Hp→Prop,(∃ m,W 0 m σ H1)∧∀ i m σ H,W i m σ H →
 (J.stop i H∧D.nx σ H)∨(J.go i H∧∃ N:St→Hp→Prop,(∀ σ' H',N σ' H'→∃ m',m'<m∧W (i+1) m' σ' H')∧∀ x H',J.yld i H x H'→g x σ H' fun σ2 H2=>tb { D with nx:=N,ct:=N,bk:=D.nx } σ2 H2)
def VE (fp:List Addr) (h:Heap):List (Addr×Obj):=fp.filterMap fun b=>(h.get? b).map fun o=>(b,o)
theorem X1 {fp:List Addr} {h:Heap} {b:Addr} {o:Obj} (hb:b∈fp) (e:h.get? b=some o):(b,o)∈VE fp h:=List.mem_filterMap.mpr ⟨b,hb,by rw [e];rfl⟩
theorem YcW {fp:List Addr} {h:Heap} {p:Addr×Obj} (hp:p∈VE fp h):p.1∈fp∧h.get? p.1=some p.2:=by
 obtain ⟨b,hb,e⟩:=List.mem_filterMap.mp hp
 cases q:h.get? b with
 | none=>rw [q] at e;cases e
 | some o =>
  rw [q] at e
  have e':(b,o)=p:=Option.some.inj e
  subst e'
  exact ⟨hb,q⟩
theorem Inv.pinned {pins:List (Addr×Obj)} {σ:St} {H:Hp} {s:Shared} {fp:List Addr} (I:Inv X pins σ H s) (hf:∀ b∈fp,X9 X pins H b) (ho:∀ b∈fp,∃ o,s.heap.get? b=some o∧∀ v,o.data ≠ .cell v):Inv X (pins++VE fp s.heap) σ H s :=
 I.pins_of fun p hp=>(List.mem_append.mp hp).elim (fun z=>I.pin p (List.mem_append_right _ z)) fun z=>by
  obtain ⟨hb,e⟩:=YcW z
  obtain ⟨f0,f1,f2,_⟩:=hf p.1 hb
  obtain ⟨o,e',d⟩:=ho p.1 hb
  rw [e] at e';cases e'
  exact ⟨e,f0,f1,f2,d⟩
theorem Inv.unpinned {pins pl:List (Addr×Obj)} {σ:St} {H:Hp} {s:Shared} (I:Inv X (pins++pl) σ H s):Inv X pins σ H s:=I.pins_of fun p hp=>I.pin p (List.mem_append_right _ (List.mem_append_left _ hp))
theorem XO {iter:Expr} {body:List Stmt} {wi:TI} {g:TG} {tb:TS} {pos:Pos} (hp:PassesOwn (model X.prog X.w) X.A X.env X.xe) (hc:X.calm=true) (hi:PI X tg iter wi) (hg:PG X tg g) (hb:PSs X body tb)
  (hs:∀ x,foldedSetIterable iter X.env x=pure x):PS X (.For tg iter body [] pos) (Ui wi g tb):=by
 intro pins s σ H D I h
 refine wpAny_For (thn (hi pins s σ H _ I h) fun v s1 h1=>thn h1 fun itv s2 h2=>?_) hs
 obtain ⟨it,fp,tn,J,H2,e,I2,T,st2,f2,W,⟨m0,w0⟩,turn⟩:=h2
 subst e
 -- what stays true of the iterator's objects through the loop
 have stat:∀ {H':Hp},(∀ b∈fp,H' b=none)→∀ b∈fp,X9 X pins H' b:=fun hn b hb=>⟨hn b hb,(f2 b hb).2⟩
 refine codeAny_forLoop_any (fun n s'=>∃ i σ' H',Inv X pins σ' H' s'∧tn i s'.heap∧(∀ b∈fp,H' b=none)∧W i n σ' H') ?_ m0 ⟨0,σ,H2,I2,st2,fun b hb=>(f2 b hb).1,w0⟩
 rintro n s3 ⟨i,σ3,H3,I3,st3,fr3,w3⟩
 rcases turn i n σ3 H3 w3 with ⟨stop,qn⟩ | ⟨go,N,hN,step⟩
 ·refine wpAny_passesOwn hp (thn (T.done X rfl rfl rfl hc i pins s3 σ3 H3 X.xe I3 (stat fr3) st3 stop) fun r s4 ⟨hr,I4⟩=>?_)
  subst hr
  exact wpAny_execs_nil ⟨σ3,H3,I4,qn⟩
 ·refine wpAny_passesOwn hp (thn (T.item X rfl rfl rfl hc i pins s3 σ3 H3 X.xe I3 (stat fr3) st3 go) fun r s4 ⟨u,hr,h4⟩=>?_)
  subst hr
  refine wpAny_passesOwn hp (thn h4 fun _ s5 ⟨x,H5,I5,r5,y5,st5,fr5⟩=>?_)
  have I5':=I5.pinned (stat fr5) (T.obj _ _ st5)
  refine wpAny_passesOwn hp (thn (hg _ s5 σ3 H5 x u _ I5' r5 (step x H5 y5)) fun _ s6 ⟨σ6,H6,I6,q6⟩=>?_)
  refine wpAny_passesOwn hp (thn (hb _ s6 σ6 H6 _ I6 q6) fun f s7 q7=>?_)
  have again:∀ {σ7:St} {H7:Hp},Inv X (pins++VE fp s5.heap) σ7 H7 s7→N σ7 H7→∃ m,m<n∧∃ i σ' H',Inv X pins σ' H' s7∧tn i s7.heap∧(∀ b∈fp,H' b=none)∧W i m σ' H':=fun {σ7 H7} I7 n7=>by
   obtain ⟨m',hm,w7⟩:=hN σ7 H7 n7
   refine ⟨m',hm,i+1,σ7,H7,I7.unpinned,T.keep _ _ _ st5 fun b hb o e=>(I7.pin (b,o) (List.mem_append_right _ (List.mem_append_right _ (X1 hb e)))).1,fun b hb=>?_,w7⟩
   obtain ⟨o,e,d⟩:=T.obj _ _ st5 b hb
   exact (I7.pin (b,o) (List.mem_append_right _ (List.mem_append_right _ (X1 hb e)))).2.1
  cases f with
  | next=>obtain ⟨σ7,H7,I7,n7⟩:=q7;exact again I7 n7
  | cont=>obtain ⟨σ7,H7,I7,n7⟩:=q7;exact again I7 n7
  | brk=>obtain ⟨σ7,H7,I7,q7⟩:=q7;exact ⟨σ7,H7,I7.unpinned,q7⟩
  | ret v=>obtain ⟨x7,σ7,H7,I7,r7,q7⟩:=q7;exact ⟨x7,σ7,H7,I7.unpinned,r7,q7⟩
end
theorem Q5 {K:PySem.W.Frag} {a:Addr} {xs:List V} {g:TG} {tb:TS} {D:Ends} {σ:St} {H:Hp} (Pv:Nat→St→Hp→Prop) (h0:Pv 0 σ H) (hl:∀ i σ H,i≤xs.length→Pv i σ H→SqL K H a xs)
  (hs:∀ i x σ H,xs[i]?=some x→Pv i σ H→g x σ H fun σ2 H2=>tb { D with nx:=Pv (i+1),ct:=Pv (i+1),bk:=D.nx } σ2 H2) (hd:∀ σ H,Pv xs.length σ H→D.nx σ H) :
  ∃ W:Nat→Nat→St→Hp→Prop,(∃ m,W 0 m σ H)∧∀ i m σ H,W i m σ H →
   ((Itl K a).stop i H∧D.nx σ H)∨((Itl K a).go i H∧∃ N:St→Hp→Prop,(∀ σ' H',N σ' H'→∃ m',m'<m∧W (i+1) m' σ' H')∧∀ x H',(Itl K a).yld i H x H'→g x σ H' fun σ2 H2=>tb { D with nx:=N,ct:=N,bk:=D.nx } σ2 H2):=by
 refine ⟨fun i m σ H=>m=xs.length - i∧i≤xs.length∧Pv i σ H,⟨xs.length,by simp,Nat.zero_le _,h0⟩,?_⟩
 rintro i m σ H ⟨rfl,hi,p⟩
 have q:=hl i σ H hi p
 by_cases hlt:i<xs.length
 ·refine .inr ⟨⟨xs,xs[i],q,by simp [hlt]⟩,Pv (i+1),fun σ' H' p'=>⟨xs.length - (i+1),by omega,rfl,hlt,p'⟩,fun x H' y=>?_⟩
  obtain ⟨e,y⟩:=y
  subst e
  exact hs i x σ _ (y xs q) p
 ·have e:i=xs.length:=by omega
  subst e
  exact .inl ⟨⟨xs,q,Nat.le_refl _⟩,hd σ H p⟩
theorem Qm {lo:Int} {n:Nat} {g:TG} {tb:TS} {D:Ends} {σ:St} {H:Hp} (Pv:Nat→St→Hp→Prop) (h0:Pv 0 σ H)
  (hs:∀ i σ H,i<n→Pv i σ H→g (.int (lo+i)) σ H fun σ2 H2=>tb { D with nx:=Pv (i+1),ct:=Pv (i+1),bk:=D.nx } σ2 H2) (hd:∀ σ H,Pv n σ H→D.nx σ H) :
  ∃ W:Nat→Nat→St→Hp→Prop,(∃ m,W 0 m σ H)∧∀ i m σ H,W i m σ H →
   ((Itr lo n).stop i H∧D.nx σ H)∨((Itr lo n).go i H∧∃ N:St→Hp→Prop,(∀ σ' H',N σ' H'→∃ m',m'<m∧W (i+1) m' σ' H')∧∀ x H',(Itr lo n).yld i H x H'→g x σ H' fun σ2 H2=>tb { D with nx:=N,ct:=N,bk:=D.nx } σ2 H2):=by
 refine ⟨fun i m σ H=>m=n - i∧i≤n∧Pv i σ H,⟨n,by simp,Nat.zero_le _,h0⟩,?_⟩
 rintro i m σ H ⟨rfl,hi,p⟩
 by_cases hlt:i<n
 ·refine .inr ⟨hlt,Pv (i+1),fun σ' H' p'=>⟨n - (i+1),by omega,rfl,hlt,p'⟩,fun x H' y=>?_⟩
  obtain ⟨e,y⟩:=y
  subst e y
  exact hs i σ _ hlt p
 ·have e:i=n:=by omega
  subst e
  exact .inl ⟨Nat.le_refl _,hd σ H p⟩
end L2
namespace L2
open PySem PySem.Spec PyProof.Rows
abbrev R2:=V→V→Hp→VK→Prop
def OpR (X:Cx) (f:Value→Value→Sem Value) (r:R2):Prop :=
 ∀ (pins:List (Addr×Obj)) (s:Shared) (σ:St) (H:Hp) (x y:V) (v u:Value) (Q:VK),Inv X pins σ H s→Yz x v→Yz y u→r x y H Q →
  wpAny (model X.prog X.w) X.A (f v u) (EP X pins σ Q) X.xe s
def UnR (X:Cx) (f:Value→Sem Value) (r:V→Hp→VK→Prop):Prop :=
 ∀ (pins:List (Addr×Obj)) (s:Shared) (σ:St) (H:Hp) (x:V) (v:Value) (Q:VK),Inv X pins σ H s→Yz x v→r x H Q →
  wpAny (model X.prog X.w) X.A (f v) (EP X pins σ Q) X.xe s
def XA (X:Cx) (f:Value) (r:List V→Hp→VK→Prop):Prop :=
 ∀ (pins:List (Addr×Obj)) (s:Shared) (σ:St) (H:Hp) (xs:List V) (us:List Value) (Q:VK),Inv X pins σ H s→Yp xs us→r xs H Q →
  wpAny (model X.prog X.w) X.A (call f us) (EP X pins σ Q) X.xe s
def tOp (r:R2) (ta tb:TE):TE:=fun σ H Q=>ta σ H fun x H1=>tb σ H1 fun y H2=>r x y H2 Q
def tUn (r:V→Hp→VK→Prop) (ta:TE):TE:=fun σ H Q=>ta σ H fun x H1=>r x H1 Q
def rI (C:Int→Int→Prop) (g:Int→Int→V):R2:=fun x y H Q=>kI x fun i=>kI y fun j=>C i j∧Q (g i j) H
def rI0 (g:Int→Int→V):R2:=fun x y H Q=>kI x fun i=>kI y fun j=>Q (g i j) H
def rU (g:Int→V):V→Hp→VK→Prop:=fun x H Q=>kI x fun i=>Q (g i) H
section
variable {X:Cx} {a b c:Expr} {ta tb tc:TE} {pos:Pos}
theorem binT (ha:PE X a ta) (hb:PE X b tb) {pins:List (Addr×Obj)} {s:Shared} {σ:St} {H:Hp} {R:V→V→Hp→Prop} (I:Inv X pins σ H s)
  (h:ta σ H fun x H1=>tb σ H1 fun y H2=>R x y H2) {Q:Value→Shared→Prop} {f:Value→Value→Sem Value}
  (hf:∀ v u s2 x y H2,Inv X pins σ H2 s2→Yz x v→Yz y u→R x y H2→wpAny (model X.prog X.w) X.A (f v u) Q X.xe s2) :
  wpAny (model X.prog X.w) X.A (eval a X.env) (fun v s₁=>wpAny (model X.prog X.w) X.A (eval b X.env) (fun u s₂=>wpAny (model X.prog X.w) X.A (f v u) Q X.xe s₂) X.xe s₁) X.xe s:=by
 refine thn (ha pins s σ H _ I h) fun v s1 ⟨x,H1,I1,r1,q1⟩=>?_
 refine thn (hb pins s1 σ H1 _ I1 q1) fun u s2 ⟨y,H2,I2,r2,q2⟩=>?_
 exact hf v u s2 x y H2 I2 r1 r2 q2
theorem Yl {op:Operator} {r:R2} (ho:OpR X (binaryOp op) r) (ha:PE X a ta) (hb:PE X b tb):PE X (.BinOp a op b pos) (tOp r ta tb):=by
 intro pins s σ H Q I h
 exact wpAny_BinOp (binT ha hb I h fun v u s2 x y H2 I2 rx ry q=>ho pins s2 σ H2 x y v u Q I2 rx ry q)
theorem Uu {op:UnaryOp} {r:V→Hp→VK→Prop} (ho:UnR X (unaryOp op) r) (ha:PE X a ta):PE X (.UnaryOp op a pos) (tUn r ta):=by
 intro pins s σ H Q I h
 exact UnaryOp_ (thn (ha pins s σ H _ I h) fun v s1 ⟨x,H1,I1,r1,q1⟩=>ho pins s1 σ H1 x v Q I1 r1 q1)
theorem opI {f:Value→Value→Sem Value} {C:Int→Int→Prop} {g:Int→Int→Int}
  (rule:∀ (i j:Int) (t u:Tok) (s:Shared) (Q:Value→Shared→Prop) (E:Value→Shared→Prop),C i j→Q (.int (g i j) s.toks) { s with toks:=s.toks+1 }→wpAny (model X.prog X.w) X.A (f (.int i t) (.int j u)) Q E s) :
  OpR X f (rI C fun i j => .int (g i j)):=by
 intro pins s σ H x y v u Q I rx ry h
 replace h:=kII h
 obtain ⟨i,j,rfl,rfl,hc,q⟩:=h
 obtain ⟨t,rfl⟩:=rx
 obtain ⟨t',rfl⟩:=ry
 exact rule i j t t' s _ _ hc ⟨.int (g i j),H,I.tok _,⟨_,rfl⟩,q⟩
theorem opI0 {f:Value→Value→Sem Value} {g:Int→Int→Int}
  (rule:∀ (i j:Int) (t u:Tok) (s:Shared) (Q:Value→Shared→Prop) (E:Value→Shared→Prop),Q (.int (g i j) s.toks) { s with toks:=s.toks+1 }→wpAny (model X.prog X.w) X.A (f (.int i t) (.int j u)) Q E s) :
  OpR X f (rI0 fun i j => .int (g i j)):=by
 intro pins s σ H x y v u Q I rx ry h
 replace h:=kII h
 obtain ⟨i,j,rfl,rfl,q⟩:=h
 obtain ⟨t,rfl⟩:=rx
 obtain ⟨t',rfl⟩:=ry
 exact rule i j t t' s _ _ ⟨.int (g i j),H,I.tok _,⟨_,rfl⟩,q⟩
theorem YbV {f:Value→Value→Sem Value} {g:Int→Int→Bool}
  (rule:∀ (i j:Int) (t u:Tok) (s:Shared) (Q:Value→Shared→Prop) (E:Value→Shared→Prop),Q (.bool (g i j)) s→wpAny (model X.prog X.w) X.A (f (.int i t) (.int j u)) Q E s) :
  OpR X f (rI0 fun i j => .bl (g i j)):=by
 intro pins s σ H x y v u Q I rx ry h
 replace h:=kII h
 obtain ⟨i,j,rfl,rfl,q⟩:=h
 obtain ⟨t,rfl⟩:=rx
 obtain ⟨t',rfl⟩:=ry
 exact rule i j t t' s _ _ ⟨.bl (g i j),H,I,rfl,q⟩
def CPow (i j:Int):Prop:=0≤j∧j≤1000000∧i.natAbs<2^64
def CMul (i j:Int):Prop:=(-(2^64)<i∧i<2^64)∨(-(2^64)<j∧j<2^64)
theorem CMul.ok {i j:Int} (h:CMul i j):IntMulOk i j:=by
 rcases h with ⟨h1,h2⟩ | ⟨h1,h2⟩
 ·exact .of_left (intBits_le_64 h1 h2)
 ·exact .of_right (intBits_le_64 h1 h2)
theorem YbW (k:Nat):(0:Int)≤2^k:=by
 rw [two_pow_cast]
 exact Int.natCast_nonneg _
theorem YQ:OpR X (binaryOp .Add) (rI0 fun i j => .int (i+j)):=opI0 fun _ _ _ _ _ _ _ q=>add_int q
theorem Xm:OpR X (binaryOp .Sub) (rI0 fun i j => .int (i - j)):=opI0 fun _ _ _ _ _ _ _ q=>sub_int q
theorem Xg:OpR X (binaryOp .Mod) (rI (fun _ j=>0<j) fun i j => .int (i%j)):=opI fun i j _ _ _ _ _ hc q=>by
 have h1:(0:Int)<j:=hc
 exact mod_int' (by omega) (by rw [Int.fmod_eq_emod_of_nonneg i (by omega)];exact q)
theorem Q6:OpR X (binaryOp .Pow) (rI CPow fun i j => .int (i^j.toNat)):=opI fun _ _ _ _ _ _ _ hc q=>pow_int_small hc.1 hc.2.1 hc.2.2 q
theorem YcX:OpR X (binaryOp .LShift) (rI CPow fun i j => .int (i*2^j.toNat)):=opI fun _ _ _ _ _ _ _ hc q=>lshift_int_small hc.1 hc.2.1 hc.2.2 q
theorem YfY:OpR X (binaryOp .RShift) (rI (fun _ j=>0≤j) fun i j => .int (i / 2^j.toNat)):=opI fun i j _ _ _ _ _ hc q =>
 rshift_int hc (by rw [Int.fdiv_eq_ediv_of_nonneg i (YbW _)];exact q)
theorem unI {f:Value→Sem Value} {g:Int→Int}
  (rule:∀ (i:Int) (t:Tok) (s:Shared) (Q:Value→Shared→Prop) (E:Value→Shared→Prop),Q (.int (g i) s.toks) { s with toks:=s.toks+1 }→wpAny (model X.prog X.w) X.A (f (.int i t)) Q E s) :
  UnR X f (rU fun i => .int (g i)):=by
 intro pins s σ H x v Q I rx h
 obtain ⟨i,rfl,q⟩:=UP.mp h
 obtain ⟨t,rfl⟩:=rx
 exact rule i t s _ _ ⟨.int (g i),H,I.tok _,⟨_,rfl⟩,q⟩
theorem VF:UnR X (unaryOp .USub) (rU fun i => .int (-i)):=unI fun _ _ _ _ _ q=>neg_int q
end
def YbX:V→V→Bool
 | .non,.non=>true | .non,.int _=>true | .int _,.non=>true | .non,.bl _=>true | .bl _,.non=>true | .non,.str _=>true | .str _,.non=>true
 | .int _,.int _=>true | .bl _,.bl _=>true | .str _,.str _=>true | .byt _,.byt _=>true
 | .int _,.str _=>true | .str _,.int _=>true | .bl _,.str _=>true | .str _,.bl _=>true
 | _,_=>false
def kEq (x y:V) (k:Bool→Prop):Prop:=match x,y with
 | .int i,.int j=>k (decide (i=j))
 | .str i,.str j=>k (decide (i=j))
 | x,y=>YbX x y=true∧k (decide (x=y))
theorem YeK (i j:Int) (k:Bool→Prop):kEq (.int i) (.int j) k=k (decide (i=j)):=rfl
theorem YeL (i j:Str) (k:Bool→Prop):kEq (.str i) (.str j) k=k (decide (i=j)):=rfl
theorem YbY {x y:V} {k:Bool→Prop}:kEq x y k↔YbX x y=true∧k (decide (x=y)):=by
 unfold kEq
 split
 ·rename_i i j
  rw [show decide (V.int i=V.int j)=decide (i=j) from by simp]
  exact ⟨fun h=>⟨rfl,h⟩,fun h=>h.2⟩
 ·rename_i i j
  rw [show decide (V.str i=V.str j)=decide (i=j) from by simp]
  exact ⟨fun h=>⟨rfl,h⟩,fun h=>h.2⟩
 ·exact Iff.rfl
def rEq:R2:=fun x y H Q=>kEq x y fun b=>Q (.bl b) H
def rNe:R2:=fun x y H Q=>kEq x y fun b=>Q (.bl (!b)) H
theorem Ya9 {i j:Int}:decide (V.int i=V.int j)=(i==j):=by
 rw [Bool.eq_iff_iff]
 simp
theorem YcY {i j:Bool}:decide (V.bl i=V.bl j)=(i==j):=by
 rw [Bool.eq_iff_iff]
 simp
theorem Yba {i j:Str}:decide (V.str i=V.str j)=(i==j):=by
 rw [Bool.eq_iff_iff]
 simp
theorem Ybb {i j:Array UInt8}:decide (V.byt i=V.byt j)=(i.toList==j.toList):=by
 rw [Bool.eq_iff_iff]
 cases i
 cases j
 simp
section
variable {X:Cx} {a b c:Expr} {ta tb tc:TE} {pos:Pos}
theorem YK {pins:List (Addr×Obj)} {σ:St} {H:Hp} {s:Shared} {Q:VK} {k k':Bool} (I:Inv X pins σ H s) (q:Q (.bl k) H) (e:k=k'):EP X pins σ Q (.bool k') s:=by
 subst e
 exact ⟨.bl k,H,I,rfl,q⟩
theorem Xa:OpR X (compareOp .Eq) rEq:=by
 intro pins s σ H x y v u Q I rx ry h
 obtain ⟨hs,q⟩:=YbY.mp h
 cases x with
 | non =>
  cases rx
  cases y with
  | non=>cases ry;exact PySem.EqNone.eq_none_none (YK I q (by simp))
  | bl j=>cases ry;exact PySem.EqNone.eq_none_bool (YK I q (by simp))
  | int j=>obtain ⟨t',rfl⟩:=ry;exact PySem.EqNone.eq_none_int (YK I q (by simp))
  | str j=>obtain ⟨t',rfl⟩:=ry;exact PySem.EqNone.eq_none_str (YK I q (by simp))
  | _=>exact absurd (show false=true from hs) Bool.false_ne_true
 | bl i =>
  cases rx
  cases y with
  | non=>cases ry;exact PySem.EqNone.eq_bool_none (YK I q (by simp))
  | bl j=>cases ry;exact eq_bool (YK I q YcY)
  | str j=>obtain ⟨t',rfl⟩:=ry;exact PySem.EqMixed.eq_bool_str (YK I q (by simp))
  | _=>exact absurd (show false=true from hs) Bool.false_ne_true
 | int i =>
  obtain ⟨t,rfl⟩:=rx
  cases y with
  | non=>cases ry;exact PySem.EqNone.eq_int_none (YK I q (by simp))
  | int j=>obtain ⟨t',rfl⟩:=ry;exact eq_int (YK I q Ya9)
  | str j=>obtain ⟨t',rfl⟩:=ry;exact PySem.EqMixed.eq_int_str (YK I q (by simp))
  | _=>exact absurd (show false=true from hs) Bool.false_ne_true
 | str i =>
  obtain ⟨t,rfl⟩:=rx
  cases y with
  | non=>cases ry;exact PySem.EqNone.eq_str_none (YK I q (by simp))
  | bl j=>cases ry;exact PySem.EqMixed.eq_str_bool (YK I q (by simp))
  | int j=>obtain ⟨t',rfl⟩:=ry;exact PySem.EqMixed.eq_str_int (YK I q (by simp))
  | str j=>obtain ⟨t',rfl⟩:=ry;exact eq_str (YK I q Yba)
  | _=>exact absurd (show false=true from hs) Bool.false_ne_true
 | byt i =>
  obtain ⟨t,rfl⟩:=rx
  cases y with
  | byt j=>obtain ⟨t',rfl⟩:=ry;exact PySem.W.eq_bytes (YK I q Ybb)
  | _=>exact absurd (show false=true from hs) Bool.false_ne_true
 | _=>cases y<;>exact absurd (show false=true from hs) Bool.false_ne_true
theorem VY:OpR X (compareOp .NotEq) rNe:=by
 intro pins s σ H x y v u Q I rx ry h
 obtain ⟨hs,q⟩:=YbY.mp h
 cases x with
 | non =>
  cases rx
  cases y with
  | non=>cases ry;exact PySem.EqNone.ne_none_none (YK I q (by simp))
  | bl j=>cases ry;exact PySem.EqNone.ne_none_bool (YK I q (by simp))
  | int j=>obtain ⟨t',rfl⟩:=ry;exact PySem.EqNone.ne_none_int (YK I q (by simp))
  | str j=>obtain ⟨t',rfl⟩:=ry;exact PySem.EqNone.ne_none_str (YK I q (by simp))
  | _=>exact absurd (show false=true from hs) Bool.false_ne_true
 | bl i =>
  cases rx
  cases y with
  | non=>cases ry;exact PySem.EqNone.ne_bool_none (YK I q (by simp))
  | bl j=>cases ry;exact ne_bool (YK I q (congrArg not YcY))
  | str j=>obtain ⟨t',rfl⟩:=ry;exact PySem.EqMixed.ne_bool_str (YK I q (by simp))
  | _=>exact absurd (show false=true from hs) Bool.false_ne_true
 | int i =>
  obtain ⟨t,rfl⟩:=rx
  cases y with
  | non=>cases ry;exact PySem.EqNone.ne_int_none (YK I q (by simp))
  | int j=>obtain ⟨t',rfl⟩:=ry;exact ne_int (YK I q (congrArg not Ya9))
  | str j=>obtain ⟨t',rfl⟩:=ry;exact PySem.EqMixed.ne_int_str (YK I q (by simp))
  | _=>exact absurd (show false=true from hs) Bool.false_ne_true
 | str i =>
  obtain ⟨t,rfl⟩:=rx
  cases y with
  | non=>cases ry;exact PySem.EqNone.ne_str_none (YK I q (by simp))
  | bl j=>cases ry;exact PySem.EqMixed.ne_str_bool (YK I q (by simp))
  | int j=>obtain ⟨t',rfl⟩:=ry;exact PySem.EqMixed.ne_str_int (YK I q (by simp))
  | str j=>obtain ⟨t',rfl⟩:=ry;exact ne_str (YK I q (congrArg not Yba))
  | _=>exact absurd (show false=true from hs) Bool.false_ne_true
 | byt i =>
  obtain ⟨t,rfl⟩:=rx
  cases y with
  | byt j=>obtain ⟨t',rfl⟩:=ry;exact PySem.W.ne_bytes (YK I q (congrArg not Ybb))
  | _=>exact absurd (show false=true from hs) Bool.false_ne_true
 | _=>cases y<;>exact absurd (show false=true from hs) Bool.false_ne_true
theorem QJ:OpR X (compareOp .Lt) (rI0 fun i j => .bl (decide (i<j))):=YbV fun _ _ _ _ _ _ _ q=>lt_int q
theorem WW:OpR X (compareOp .LtE) (rI0 fun i j => .bl (decide (i≤j))):=YbV fun _ _ _ _ _ _ _ q=>le_int q
theorem op_gt:OpR X (compareOp .Gt) (rI0 fun i j => .bl (decide (j<i))):=YbV fun _ _ _ _ _ _ _ q=>gt_int q
theorem op_ge:OpR X (compareOp .GtE) (rI0 fun i j => .bl (decide (j≤i))):=YbV fun _ _ _ _ _ _ _ q=>ge_int q
theorem Yv (b:Expr) {op:CmpOp} (h:op ≠ .In:=by decide) (h2:op ≠ .NotIn:=by decide):behindInMarks op b=false:=by
 have e1:(op==CmpOp.In)=false:=by cases op<;>first | rfl | exact absurd rfl h
 have e2:(op==CmpOp.NotIn)=false:=by cases op<;>first | rfl | exact absurd rfl h2
 cases b<;>simp [behindInMarks,e1,e2]
theorem VZ {op:CmpOp} {r:R2} (ho:OpR X (compareOp op) r) (ha:PE X a ta) (hb:PE X b tb) (hm:behindInMarks op b=false):PE X (.Compare a [op] [b] pos) (tOp r ta tb):=by
 intro pins s σ H Q I h
 exact wpAny_Compare1 (binT ha hb I h fun v u s2 x y H2 I2 rx ry q=>ho pins s2 σ H2 x y v u Q I2 rx ry q) hm
def QK (t:TE):TT:=fun σ H Q=>t σ H fun x H'=>kB x fun k=>Q k H'
theorem Yt {op:CmpOp} {r:R2} (ho:OpR X (compareOp op) r) (ha:PE X a ta) (hb:PE X b tb) (hm:behindInMarks op b=false):PT X (.Compare a [op] [b] pos) (QK (tOp r ta tb)):=by
 intro pins s σ H Q I h
 refine wpAny_isTrue_Compare1 (thn (ha pins s σ H _ I h) fun v s1 ⟨x,H1,I1,r1,q1⟩=>thn (hb pins s1 σ H1 _ I1 q1) fun u s2 ⟨y,H2,I2,r2,q2⟩ =>
  thn (ho pins s2 σ H2 x y v u _ I2 r1 r2 q2) fun c s3 ⟨z,H3,I3,r3,q3⟩=>?_) hm
 replace q3:=Uh.mp q3
 obtain ⟨k,e,q3⟩:=q3
 subst e
 cases r3
 exact wpAny_truthy_bool ⟨H3,I3,q3⟩
def Q7 (r r':R2) (ta tb tc:TE):TE:=fun σ H Q=>ta σ H fun x H1=>tb σ H1 fun y H2=>r x y H2 fun z H3=>kB z fun k =>
 (if k=true then tc σ H3 fun w' H4=>r' y w' H4 Q else Q (.bl false) H3)
theorem YdV {op op':CmpOp} {r r':R2} (ho:OpR X (compareOp op) r) (ho':OpR X (compareOp op') r') (ha:PE X a ta) (hb:PE X b tb) (hc:PE X c tc)
  (hm:lastMarks [op,op'] [b,c]=false):PT X (.Compare a [op,op'] [b,c] pos) (QK (Q7 r r' ta tb tc)):=by
 intro pins s σ H Q I h
 refine isTrue_chain (thn (ha pins s σ H _ I h) fun v s1 ⟨x,H1,I1,r1,q1⟩=>test_link (thn (hb pins s1 σ H1 _ I1 q1) fun u s2 ⟨y,H2,I2,r2,q2⟩ =>
  thn (ho pins s2 σ H2 x y v u _ I2 r1 r2 q2) fun d s3 ⟨z,H3,I3,r3,q3⟩=>?_)) hm
 replace q3:=Uh.mp q3
 obtain ⟨k,e,q3⟩:=q3
 subst e
 cases r3
 refine wpAny_truthy_bool ?_
 cases k with
 | false =>
  exact ite_ff ⟨H3,I3,q3⟩
 | true =>
  refine ite_tt (test_last (thn (hc pins s3 σ H3 _ I3 q3) fun w' s4 ⟨z',H4,I4,r4,q4⟩=>thn (ho' pins s4 σ H4 y z' u w' _ I4 r2 r4 q4) fun d' s5 ⟨z2,H5,I5,r5,q5⟩=>?_))
  replace q5:=Uh.mp q5
  obtain ⟨k2,e2,q5⟩:=q5
  subst e2
  cases r5
  exact wpAny_truthy_bool ⟨H5,I5,q5⟩
theorem VG:(sizeLine:Nat)<2^63:=by rw [sizeLine_eq];decide
theorem YbZ:OpR X (binaryOp .Add) (fun x y H Q=>∃ i j,x = .str i∧y = .str j∧i.length+j.length≤sizeLine∧Q (.str (i++j)) H):=by
 intro pins s σ H x y v u Q I rx ry h
 obtain ⟨i,j,rfl,rfl,hz,q⟩:=h
 obtain ⟨t,rfl⟩:=rx
 obtain ⟨t',rfl⟩:=ry
 exact add_str (fun t' tk=>⟨.str (i++j),H,I.tok _,⟨_,rfl⟩,q⟩) hz
theorem WB {x:V} {us:List Value} (r:Yp [x] us):∃ u,us=[u]∧Yz x u:=by
 cases r with
 | cons r1 r2=>cases r2;exact ⟨_,rfl,r1⟩
theorem Yb0 {x y:V} {us:List Value} (r:Yp [x,y] us):∃ u w',us=[u,w']∧Yz x u∧Yz y w':=by
 cases r with
 | cons r1 r2 =>
  cases r2 with
  | cons r3 r4=>cases r4;exact ⟨_,_,rfl,r1,r3⟩
def Yb1:List V→Hp→VK→Prop:=fun xs H Q=>k2 xs fun x y=>kI x fun i=>kI y fun j=>Q (.int (if j>i then j else i)) H
theorem Qn (hc:X.calm=true):XA X (.builtin "max") (Yb1):=by
 intro pins s σ H xs us Q I r h
 obtain ⟨x,y,rfl,h1⟩:=k2_e h
 obtain ⟨i,j,rfl,rfl,q⟩:=kII h1
 obtain ⟨u,w',rfl,⟨t,rfl⟩,⟨t',rfl⟩⟩:=Yb0 r
 refine max_two_ints (I.ok.hd hc) fun h' tk k=>⟨_,H,I.kept k,?_,q⟩
 by_cases hj:j>i
 ·rw [if_pos hj,if_pos hj];exact ⟨_,rfl⟩
 ·rw [if_neg hj,if_neg hj];exact ⟨_,rfl⟩
def Yb2:List V→Hp→VK→Prop:=fun xs H Q=>k2 xs fun x y=>kI x fun i=>kI y fun j=>Q (.int (if j<i then j else i)) H
theorem Qo (hc:X.calm=true):XA X (.builtin "min") (Yb2):=by
 intro pins s σ H xs us Q I r h
 obtain ⟨x,y,rfl,h1⟩:=k2_e h
 obtain ⟨i,j,rfl,rfl,q⟩:=kII h1
 obtain ⟨u,w',rfl,⟨t,rfl⟩,⟨t',rfl⟩⟩:=Yb0 r
 refine min_two_ints (I.ok.hd hc) fun h' tk k=>⟨_,H,I.kept k,?_,q⟩
 by_cases hj:j<i
 ·rw [if_pos hj,if_pos hj];exact ⟨_,rfl⟩
 ·rw [if_neg hj,if_neg hj];exact ⟨_,rfl⟩
end
end L2
namespace L2
open PySem PySem.Spec PyProof.Rows
structure ObjM (h:Heap) (x dx C:Addr) (mA:Str→Option Value):Prop where
 obj:h.get? x=some (PySem.W.instObj C dx)
 ns:h.Ns1 dx mA
 ne:dx≠x
theorem YcZ {h:Heap} {dx:Addr} {mA:Str→Option Value} (n:h.Ns1 dx mA):∃ od,h.get? dx=some od∧∀ name,PySem.W.lookIn name od=some (mA name):=by
 obtain ⟨o,es,ep,ho,hd,hk,_,hm⟩:=n
 refine ⟨o,ho,fun name=>?_⟩
 have e:=hm name
 unfold nsFind findBy at e
 rw [← Array.find?_toList] at e
 unfold PySem.W.lookIn
 rw [hd]
 dsimp only
 split
 ·rename_i y q
  rw [q] at e
  exact congrArg some e
 ·rename_i q
  rw [q] at e
  have a:es.toList.any (·.refKey)=false:=by
   rw [List.any_eq_false]
   intro y hy
   obtain ⟨z,t,hkey⟩:=hk y (Array.mem_toList_iff.mp hy)
   simp [DictEntry.refKey,hkey]
  have a':¬ es.toList.any (·.refKey)=true:=by rw [a];exact Bool.false_ne_true
  rw [if_neg a']
  exact congrArg some e
theorem ObjM.look {h:Heap} {x dx C:Addr} {mA:Str→Option Value} (I:ObjM h x dx C mA):∃ od,PySem.W.InstAt h x (PySem.W.instObj C dx) C (some od)∧∀ name,PySem.W.lookIn name od=some (mA name) :=
 let ⟨od,ho,hl⟩:=YcZ I.ns
 ⟨od,⟨I.obj,rfl,rfl,ho⟩,hl⟩
section
variable {prog:Program} {w:World} {A:Around} {E:Value→Shared→Prop} {s:Shared} {K:PySem.W.Frag} {x dx C f:Addr} {mA:Str→Option Value} {name:Str} {v:Value}
theorem Yfa {expr:Bool} {Q:Value→Shared→Prop} (X:K.In s.heap) (I:ObjM s.heap x dx C mA) (hg:PySem.W.plainGet K C name=true) (hh:PySem.W.hasDictIn K C=true)
  (ha:PySem.W.findIn K (.ref C) name=some none) (hv:mA name=some v) (hv':PySem.W.handedIn v=true) (h:Q v { s with toks:=s.toks+1 }) :
  wpAny (model prog w) A (getAttr (.ref x) name expr) Q E s:=by
 obtain ⟨od,J,hl⟩:=I.look
 exact PySem.W.get_value X J (PySem.W.plainGet_of hg).1 (PySem.W.findObj_own hh ha rfl (by rw [hl,hv])) hv' h
theorem YdW {pl:Sem Bool} {Q:Value×List Value→Shared→Prop} (X:K.In s.heap) (I:ObjM s.heap x dx C mA) (hg:PySem.W.plainGet K C name=true)
  (hf:PySem.W.findIn K (.ref C) name=some (some (.ref f))) (ht:PySem.W.isFn K (.ref f)=true) (hv:mA name=none) (h:Q (.ref f,[.ref x]) s) :
  wpAny (model prog w) A (getMethod (.ref x) name pl) Q E s:=by
 obtain ⟨od,J,hl⟩:=I.look
 exact PySem.W.method_fn X J (PySem.W.plainGet_of hg).1 (PySem.W.plainGet_of hg).2 hf (beq_iff_eq.mp ht) (by show (PySem.W.lookIn name od).map (·.isSome)=some false;rw [hl,hv];rfl) h
theorem Yfb {ns:List Str} {Q:Unit→Shared→Prop} (X:K.In s.heap) (I:ObjM s.heap x dx C mA)
  (hs:PySem.W.findIn K (.ref C) "__setattr__"=some (some (.builtin "object.__setattr__"))) (hp:PySem.W.plainOver K C=true) (ht:PySem.W.takerIn K C name=some none) (hh:PySem.W.hasDictIn K C=true)
  (hw:PySem.Within mA ns) (hsz:ns.length≤sizeLine)
  (h:∀ h',ObjM h' x dx C (fun y=>if y=name then some v else mA y)→Heap.SameBut dx s.heap h'→Q () { s with heap:=h',toks:=s.toks+2 }) :
  wpAny (model prog w) A (setAttr (.ref x) name v) Q E s:=by
 obtain ⟨od,J,hl⟩:=I.look
 refine PySem.W.set_plain X J hs (PySem.W.osa_open (s:={ s with toks:=s.toks+1 }) (r:=none) X J hp ht fun b=>?_)
 obtain ⟨cd,hc,hd'⟩:=PySem.W.any_some hh
 have hx:s.heap.get? x=some ⟨.ref C,some dx,.plain,#[]⟩:=I.obj
 refine wpAny_bind (wpAny_pure (wpAny_bind (wpAny_bind (wpAny_loadPart hx (wpAny_bind (PySem.W.Looks.here (s:={ s with toks:=s.toks+1 }) (PySem.W.looks_clsIn X hc) ?_))))))
 rw [hd']
 refine wpAny_pure (a:=some dx) (wpAny_bind (wpAny_pure (wpAny_bind ?_)))
 refine wpAny_nsSet1 (s:={ s with toks:=s.toks+1 }) I.ns fun h' hn2 hs2=>?_
 obtain ⟨oD,esD,epD,hoD,hdD,hcD⟩:=hn2.count (PySem.Within.cons name v hw)
 refine wpAny_bind (wpAny_lookBehind hoD (by rw [hdD];exact pastItsLine_dict (Nat.le_trans hcD (by rw [List.length_cons];omega))) ?_)
 exact wpAny_pure (h _ ⟨(hs2.2 _ (Ne.symm I.ne)).trans I.obj,hn2,I.ne⟩ hs2)
theorem YdX {R:Result→Shared→Prop} {vs:List Value} {kw:List (Str×Value)} (X:K.In s.heap) (hm:PySem.W.makesIn K C=true)
  (hi:PySem.W.findIn K (.ref C) "__init__"=some (some (.ref f))) (hf:PySem.W.typeIn K (.ref f)=some (.type "function"))
  (h:codeAny (model prog w) (A.under (.builtin "type.__call__" ⟨.ref C::vs,kw⟩)) (.call (.ref f) ⟨.ref (s.heap.objs.size+1)::vs,kw⟩) (PySem.W.InitBack (s.heap.objs.size+1) R)
   { s with heap:=(s.heap.push PySem.W.emptyDict).push (PySem.W.instObj C s.heap.objs.size) }) :
  codeAny (model prog w) A (.call (.ref C) ⟨vs,kw⟩) R s:=by
 obtain ⟨hh,g,d,t,os⟩:=s
 exact PySem.W.make_core (PySem.W.makes_of X hm) (PySem.W.looks_findIn X hi) (fun self=>PySem.W.bind_fn X self hf) (.inl rfl) h
end
def YS (f:Str) (v:V):List (Str×V)→List (Str×V)
 | []=>[(f,v)]
 | (g,x)::r=>if g=f then (g,v)::r else (g,x)::YS f v r
theorem Ud (f g:Str) (v:V):∀ fs:List (Str×V),(YS f v fs).lookup g=if g=f then some v else fs.lookup g
 | []=>by
  show List.lookup g [(f,v)]=_
  by_cases h:g=f
  ·have hb:(g==f)=true:=beq_iff_eq.mpr h
   simp only [List.lookup,hb,if_pos h]
  ·have hb:(g==f)=false:=beq_eq_false_iff_ne.mpr h
   simp only [List.lookup,hb,if_neg h]
 | (k,x)::r=>by
  have ih:=Ud f g v r
  rw [show YS f v ((k,x)::r)=(if k=f then (k,v)::r else (k,x)::YS f v r) from rfl]
  by_cases hk:k=f
  ·rw [if_pos hk]
   by_cases h:g=k
   ·have hb:(g==k)=true:=beq_iff_eq.mpr h
    simp only [List.lookup,hb,if_pos (h.trans hk)]
   ·have hb:(g==k)=false:=beq_eq_false_iff_ne.mpr h
    simp only [List.lookup,hb,if_neg (fun e:g=f=>h (e.trans hk.symm))]
  ·rw [if_neg hk]
   by_cases h:g=k
   ·have hb:(g==k)=true:=beq_iff_eq.mpr h
    simp only [List.lookup,hb,if_neg (fun e:g=f=>hk (h.symm.trans e))]
   ·have hb:(g==k)=false:=beq_eq_false_iff_ne.mpr h
    simp only [List.lookup,hb]
    exact ih
theorem VH (f:Str) (v:V):∀ fs:List (Str×V),f∈(YS f v fs).map (·.1)∧∀ g,g∈fs.map (·.1)→g∈(YS f v fs).map (·.1)
 | []=>⟨by simp [YS],fun g h=>by simp at h⟩
 | (k,x)::r=>by
  obtain ⟨i1,i2⟩:=VH f v r
  rw [show YS f v ((k,x)::r)=(if k=f then (k,v)::r else (k,x)::YS f v r) from rfl]
  by_cases hk:k=f
  ·rw [if_pos hk]
   subst hk
   exact ⟨by simp,fun g h=>by simpa using h⟩
  ·rw [if_neg hk]
   refine ⟨?_,fun g h=>?_⟩
   ·rw [List.map_cons]
    exact List.mem_cons_of_mem _ i1
   ·rw [List.map_cons] at h ⊢
    rcases List.mem_cons.mp h with e | e
    ·exact List.mem_cons.mpr (.inl e)
    ·exact List.mem_cons_of_mem _ (i2 g e)
theorem Xr (f:Str) (v:V):∀ fs:List (Str×V),(YS f v fs).length≤fs.length+1
 | []=>by simp [YS]
 | (k,x)::r=>by
  have ih:=Xr f v r
  rw [show YS f v ((k,x)::r)=(if k=f then (k,v)::r else (k,x)::YS f v r) from rfl]
  by_cases hk:k=f
  ·rw [if_pos hk,List.length_cons,List.length_cons];omega
  ·rw [if_neg hk,List.length_cons,List.length_cons];omega
theorem W1.some_of {v:V} {o:Option Value} (r:W1 (some v) o):∃ u,o=some u∧Yz v u:=by
 cases o with
 | none=>exact (show False from r).elim
 | some u=>exact ⟨u,rfl,r⟩
theorem W1.none_of {o:Option Value} (r:W1 none o):o=none:=by
 cases o with
 | none=>rfl
 | some u=>exact (show False from r).elim
theorem Yc0 {v:V} {u:Value} (r:Yz v u):PySem.W.handedIn u=true:=by
 cases v with
 | non=>cases (show u=Value.none from r);rfl
 | bl b=>cases (show u=Value.bool b from r);rfl
 | int i=>obtain ⟨t,e⟩:=(show ∃ t,u=Value.int i t from r);cases e;rfl
 | str x=>obtain ⟨t,e⟩:=(show ∃ t,u=Value.str x t from r);cases e;rfl
 | byt b=>obtain ⟨t,e⟩:=(show ∃ t,u=Value.bytes b t from r);cases e;rfl
 | flt b=>obtain ⟨t,e⟩:=(show ∃ t,u=Value.float b t from r);cases e;rfl
 | ref a=>cases (show u=Value.ref a from r);rfl
 | ty n=>cases (show u=Value.type n from r);rfl
section
variable {P:Program} {w:World} {H H':Hp} {h h':Heap} {a C dx:Addr} {fs fs':List (Str×V)}
theorem V0 (hok:HOk P w H h) (e:H a=some (.ins C dx fs)):∃ mA,ObjM h a dx C mA∧(∀ f,W1 (fs.lookup f) (mA f))∧PySem.Within mA (fs.map (·.1))∧fs.length≤1000∧H dx=some (.own a):=by
 obtain ⟨d,z,ne,ob,mA,n,r,q⟩:=(show YR P w H h a (.ins C dx fs) from hok a _ e)
 exact ⟨mA,⟨ob,n,ne⟩,r,q,z,d⟩
end
structure Cls (K:PySem.W.Frag) (C:Addr):Prop where
 pg:PySem.W.plainGet K C Str.empty=true
 hd:PySem.W.hasDictIn K C=true
 po:PySem.W.plainOver K C=true
 sa:PySem.W.findIn K (.ref C) "__setattr__"=some (some (.builtin "object.__setattr__"))
theorem Cls.get {K:PySem.W.Frag} {C:Addr} (c:Cls K C) (f:Str):PySem.W.plainGet K C f=true:=c.pg
def Yb (K:PySem.W.Frag) (C:Addr) (f:Str):Prop:=PySem.W.findIn K (.ref C) f=some none
theorem Yb.taker {K:PySem.W.Frag} {C:Addr} {f:Str} (n:Yb K C f):PySem.W.takerIn K C f=some none:=by
 unfold PySem.W.takerIn
 rw [show PySem.W.findIn K (.ref C) f=some none from n]
 rfl
structure Meth (K:PySem.W.Frag) (C:Addr) (m:Str) (f:Addr):Prop where
 at_:PySem.W.findIn K (.ref C) m=some (some (.ref f))
 fn:PySem.W.isFn K (.ref f)=true
 kp:PySem.W.keepIn K (.ref f)=true
section
variable {X:Cx} {pins:List (Addr×Obj)} {σ:St} {H:Hp} {s:Shared} {a C dx:Addr} {fs:List (Str×V)} {f:Str} {v:V} {A:Around} {E:Value→Shared→Prop}
theorem Yb3 {b:Bool} {Q:Value→Shared→Prop} (I:Inv X pins σ H s) (e:H a=some (.ins C dx fs)) (c:Cls X.K C) (n:Yb X.K C f) (l:fs.lookup f=some v)
  (h:∀ u s',Inv X pins σ H s'→Yz v u→Q u s'):wpAny (model X.prog X.w) A (getAttr (.ref a) f b) Q E s:=by
 obtain ⟨mA,O,r,_,_,_⟩:=V0 I.hok e
 obtain ⟨u,hu,ru⟩:=W1.some_of (v:=v) (o:=mA f) (by rw [← l];exact r f)
 exact Yfa I.kIn O (c.get f) c.hd n hu (Yc0 ru) (h u _ (I.tok _) ru)
theorem Uv {m:Str} {g:Addr} {pl:Sem Bool} {Q:Value×List Value→Shared→Prop} (I:Inv X pins σ H s) (e:H a=some (.ins C dx fs)) (c:Cls X.K C) (k:Meth X.K C m g) (l:fs.lookup m=none)
  (h:Q (.ref g,[.ref a]) s):wpAny (model X.prog X.w) A (getMethod (.ref a) m pl) Q E s:=by
 obtain ⟨mA,O,r,_,_,_⟩:=V0 I.hok e
 have hn:mA m=none:=W1.none_of (by rw [← l];exact r m)
 exact YdW I.kIn O (c.get m) k.at_ k.fn hn h
theorem Yb4 {y:V} {u:Value} {Q:Unit→Shared→Prop} (I:Inv X pins σ H s) (e:H a=some (.ins C dx fs)) (c:Cls X.K C) (n:Yb X.K C f) (hl:fs.length<1000) (ry:Yz y u)
  (h:∀ s',Inv X pins σ (upd H a (.ins C dx (YS f y fs))) s'→Q () s'):wpAny (model X.prog X.w) A (setAttr (.ref a) f u) Q E s:=by
 obtain ⟨mA,O,r,wi,_,ho⟩:=V0 I.hok e
 have hz:(fs.map (·.1)).length≤sizeLine:=by rw [List.length_map,sizeLine_eq];omega
 refine Yfb I.kIn O c.sa c.po n.taker c.hd wi hz fun h' O' sb=>h _ ?_
 have hd:∃ o,h'.get? dx=some o:=let ⟨o,_,_,e',_⟩:=O'.ns;⟨o,e'⟩
 refine I.write (x:=a) (e:=dx) (by rw [e];exact True.intro) (.inr ho) (fun b q hb z=>(sb.2 b hb).trans z) hd ?_
 refine ⟨by rw [Yd O.ne];exact ho,?_,O.ne,O'.obj,_,O'.ns,fun g=>?_,fun g hg=>?_⟩
 ·have:=Xr f y fs;omega
 ·show W1 ((YS f y fs).lookup g) (if g=f then some u else mA g)
  rw [Ud]
  by_cases q:g=f
  ·rw [if_pos q,if_pos q];exact ry
  ·rw [if_neg q,if_neg q];exact r g
 ·by_cases q:g=f
  ·rw [q];exact (VH f y fs).1
  ·refine (VH f y fs).2 g (wi g fun z=>hg ?_)
   show (if g=f then some u else mA g)=none
   rw [if_neg q];exact z
theorem Inv.made (I:Inv X pins σ H s):Inv X pins σ (upd (upd H s.heap.objs.size (.own (s.heap.objs.size+1))) (s.heap.objs.size+1) (.ins C s.heap.objs.size []))
  { s with heap:=(s.heap.push PySem.W.emptyDict).push (PySem.W.instObj C s.heap.objs.size) }:=by
 have e1:(s.heap.push PySem.W.emptyDict).get? s.heap.objs.size=some PySem.W.emptyDict:=Heap.get?_push_size s.heap rfl
 have e2:((s.heap.push PySem.W.emptyDict).push (PySem.W.instObj C s.heap.objs.size)).get? (s.heap.objs.size+1)=some (PySem.W.instObj C s.heap.objs.size):=by
  have:=Heap.get?_push_size (s.heap.push PySem.W.emptyDict) (o:=PySem.W.instObj C s.heap.objs.size) rfl
  rwa [Heap.size_push] at this
 have e3:(s.heap.push PySem.W.emptyDict).Ns s.heap.objs.size (fun _=>none):=⟨PySem.W.emptyDict,#[],_,e1,rfl,(fun e he=>absurd he (by simp)),fun _=>rfl⟩
 have I1:=I.laid (a:=s.heap.objs.size) (o := .own (s.heap.objs.size+1)) (h':=s.heap.push PySem.W.emptyDict) (t':=s.toks) (fun b u q=>Heap.get?_push_of_some _ q) (Nat.le_refl _) ⟨_,e1⟩
 refine I1.laid (a:=s.heap.objs.size+1) (o := .ins C s.heap.objs.size []) (t':=s.toks) (fun b u q=>Heap.get?_push_of_some _ q) (Nat.le_of_eq (Heap.size_push _ _)) ?_
 have ne:s.heap.objs.size≠s.heap.objs.size+1:=Nat.ne_of_lt (Nat.lt_succ_self _)
 refine ⟨by rw [Yd ne,Yg],Nat.zero_le _,ne,e2,fun _=>none,(Heap.Ns1.of_empty e3).at fun o q=>Heap.get?_push_of_some _ q,fun _=>True.intro,fun y hy=>absurd rfl hy⟩
theorem Yfc {prog:Program} {w:World} {env:Env} {e:Expr} {f:Str} {pos:Pos} {s:Shared} {Q:Value→Shared→Prop} (hb:attributeBase e f env (eval e env)=eval e env)
  (h:wpAny (model prog w) A (eval e env) (fun o s₁=>wpAny (model prog w) A (getAttr o f true) Q E s₁) E s):wpAny (model prog w) A (eval (.Attribute e f pos) env) Q E s :=
 Attribute_any_ h (by rw [arm_eval_Attribute,hb])
end
inductive FldQ (K:PySem.W.Frag) (H:Hp) (a:Addr) (f:Str) (Q:V→Prop):Prop
 | mk (C dx:Addr) (fs:List (Str×V)) (h:H a=some (.ins C dx fs)) (c:Cls K C) (n:Yb K C f) (v:V) (l:fs.lookup f=some v) (q:Q v)
inductive SFdQ (K:PySem.W.Frag) (H:Hp) (a:Addr) (f:Str) (Q:Addr→Addr→List (Str×V)→Prop):Prop
 | mk (C dx:Addr) (fs:List (Str×V)) (h:H a=some (.ins C dx fs)) (c:Cls K C) (n:Yb K C f) (l:fs.length<1000) (q:Q C dx fs)
def tFld (K:PySem.W.Frag) (ta:TE) (f:Str):TE:=fun σ H Q=>ta σ H fun x H1=>kR x fun a=>FldQ K H1 a f fun v=>Q v H1
def sFld (K:PySem.W.Frag) (ta tv:TE) (f:Str):TS:=fun D σ H=>tv σ H fun y H1=>ta σ H1 fun x H2=>kR x fun a=>SFdQ K H2 a f fun C dx fs=>D.nx σ (upd H2 a (.ins C dx (YS f y fs)))
section
variable {X:Cx} {o e value:Expr} {f:Str} {pos pos' tpos:Pos} {ta tv:TE}
theorem Ys (he:PE X e ta) (hb:attributeBase e f X.env (eval e X.env)=eval e X.env):PE X (.Attribute e f pos) (tFld X.K ta f):=by
 intro pins s σ H Q I h
 refine Yfc hb (thn (he pins s σ H _ I h) fun u s1 ⟨x,H1,I1,rx,q⟩=>?_)
 replace q:=Vj.mp q
 obtain ⟨a,ex,C,dx,fs,ea,c,n,v,l,q⟩:=q
 subst ex
 obtain rfl:u=Value.ref a:=rx
 exact Yb3 I1 ea c n l fun u' s2 I2 ru=>⟨v,H1,I2,ru,q⟩
theorem Xh (ha:PE X o ta) (hv:PE X value tv) (hs:swapsWith value (some (.Attribute o f pos')) pos.line X.env=pure false):PS X (.Assign [.Attribute o f pos'] value pos) (sFld X.K ta tv f):=by
 intro pins s σ H D I h
 refine plainObj_wpAny_Assign_Attribute (thn (hv pins s σ H _ I h) fun u s1 ⟨y,H1,I1,ry,q⟩=>thn (ha pins s1 σ H1 _ I1 q) fun ov s2 ⟨x,H2,I2,rx,q2⟩=>?_) hs
 replace q2:=Vj.mp q2
 obtain ⟨a,ex,C,dx,fs,ea,c,n,l,q2⟩:=q2
 subst ex
 obtain rfl:ov=Value.ref a:=rx
 exact Yb4 I2 ea c n l ry fun s3 I3=>⟨σ,_,I3,q2⟩
end
section
variable {X:Cx} {pins:List (Addr×Obj)} {σ:St} {H:Hp} {s:Shared} {A:Around} {E:Value→Shared→Prop} {Q:Value→Shared→Prop} {c:Value} {b:Bool}
inductive TyOf (K:PySem.W.Frag) (H:Hp):V→Value→Prop where
 | non:TyOf K H .non (.type "NoneType")
 | bl (x:Bool):TyOf K H (.bl x) (.type "bool")
 | int (i:Int):TyOf K H (.int i) (.type "int")
 | str (x:Str):TyOf K H (.str x) (.type "str")
 | flt (x:UInt64):TyOf K H (.flt x) (.type "float")
 | lst {a:Addr} {xs:List V} (e:H a=some (.lst xs)):TyOf K H (.ref a) (.type "list")
 | frz {a:Addr} {o:Obj} {xs:List V} (e:H a=some (.frz o (.lst xs))):TyOf K H (.ref a) (.type "list")
 | tup {a:Addr} {xs:List V} (e:H a=some (.tup xs)):TyOf K H (.ref a) (.type "tuple")
 | dK {a:Addr} {kvs:List (Key×V)} (e:H a=some (.dK kvs)):TyOf K H (.ref a) (.type "dict")
 | dT {a:Addr} {kvs:List (List Key×V)} (e:H a=some (.dT kvs)):TyOf K H (.ref a) (.type "dict")
 | ins {a C dx:Addr} {fs:List (Str×V)} (e:H a=some (.ins C dx fs)) (cl:Cls K C) (ha:PySem.W.findIn K (.ref C) "__class__"=some (some (.builtin "object.__class__")))
   (hn:PySem.W.specialIn K (.builtin "object.__class__") "__get__"=some (some (.builtin "getset_descriptor.__get__"))) (htk:PySem.W.takesIn K (.builtin "object.__class__")=some true)
   (hm:PySem.W.mroIn K C (.type "object")=some true):TyOf K H (.ref a) (.ref C)
theorem Yc1 {x:V} {u t:Value} (I:Inv X pins σ H s) (rx:Yz x u) (ty:TyOf X.K H x t) (e:PySem.W.kitOne X.K t c=some b) (h:∀ tk,Q (.bool b) { s with toks:=tk }) :
  wpAny (model X.prog X.w) A (call (.builtin "isinstance") [u,c]) Q E s:=by
 cases ty with
 | non=>cases (show u=Value.none from rx);exact PySem.W.kia_one PySem.W.kitx_none I.kIn True.intro e (fun z=>nomatch z) h
 | bl y=>cases (show u=Value.bool y from rx);exact PySem.W.kia_one PySem.W.kitx_bool I.kIn True.intro e (fun z=>nomatch z) h
 | int i=>obtain ⟨t,q⟩:=(show ∃ t,u=Value.int i t from rx);cases q;exact PySem.W.kia_one PySem.W.kitx_int I.kIn True.intro e (fun z=>nomatch z) h
 | str y=>obtain ⟨t,q⟩:=(show ∃ t,u=Value.str y t from rx);cases q;exact PySem.W.kia_one PySem.W.kitx_str I.kIn True.intro e (fun z=>nomatch z) h
 | flt y=>obtain ⟨t,q⟩:=(show ∃ t,u=Value.float y t from rx);cases q;exact PySem.W.kia_one PySem.W.kitx_float I.kIn True.intro e (fun z=>nomatch z) h
 | @lst a xs ea =>
  cases (show u=Value.ref a from rx)
  obtain ⟨_,_,n,_,h1⟩:=(show YR X.prog X.w H s.heap a (.lst xs) from I.hok a _ ea)
  exact PySem.W.kia_one PySem.W.kitx_list I.kIn ⟨_,h1,rfl⟩ e (fun z=>nomatch z) h
 | @frz a ob xs ea =>
  cases (show u=Value.ref a from rx)
  obtain ⟨_,_,_,n,_,h1⟩:=(show YR X.prog X.w H s.heap a (.frz ob (.lst xs)) from I.hok a _ ea)
  exact PySem.W.kia_one PySem.W.kitx_list I.kIn ⟨_,h1,rfl⟩ e (fun z=>nomatch z) h
 | @tup a xs ea =>
  cases (show u=Value.ref a from rx)
  obtain ⟨_,_,_,p⟩:=(show YR X.prog X.w H s.heap a (.tup xs) from I.hok a _ ea)
  obtain ⟨o,h1,h2,_⟩:=p
  exact PySem.W.kia_one PySem.W.kitx_tuple I.kIn ⟨o,h1,h2⟩ e (fun z=>nomatch z) h
 | @dK a kvs ea =>
  cases (show u=Value.ref a from rx)
  obtain ⟨_,_,vs,_,p⟩:=(show YR X.prog X.w H s.heap a (.dK kvs) from I.hok a _ ea)
  obtain ⟨o,es,ep,h1,h2,_⟩:=p
  exact PySem.W.kia_one PySem.W.kitx_dict I.kIn ⟨o,h1,h2.1⟩ e (fun z=>nomatch z) h
 | @dT a kvs ea =>
  cases (show u=Value.ref a from rx)
  obtain ⟨_,_,xs,_,o,es,ep,h1,h2,_⟩:=(show YR X.prog X.w H s.heap a (.dT kvs) from I.hok a _ ea)
  exact PySem.W.kia_one PySem.W.kitx_dict I.kIn ⟨o,h1,h2.1⟩ e (fun z=>nomatch z) h
 | @ins a C dx fs ea cl ha hn htk hm =>
  cases (show u=Value.ref a from rx)
  obtain ⟨mA,O,_⟩:=V0 I.hok ea
  obtain ⟨od,J,_⟩:=O.look
  exact PySem.W.kia_one (PySem.W.kitx_own (cl.get _) cl.hd ha hn htk hm) I.kIn J e (fun z=>nomatch z) h
end
end L2
namespace L2
open PySem PySem.Spec PyProof.Rows
structure Room (k:Nat) (A:Around):Prop where
 hd:A.handled=none
 dp:A.depth+3*k+5<recursionLimit
 un:A.units+16*k+200<cLine
 gd:A.guards=some []
theorem Room.mono {j k:Nat} {A:Around} (r:Room k A) (h:j≤k):Room j A:=⟨r.hd,by have:=r.dp;omega,by have:=r.un;omega,r.gd⟩
theorem Room.deeper {k:Nat} {A:Around} (r:Room (k+1) A) (env:Env):Room k (A.deeper env) :=
 ⟨r.hd,by have:=r.dp;show A.depth+1+3*k+5<_;omega,by have:=r.un;show A.units+3+16*k+200<_;omega,r.gd⟩
theorem Yb5 {A:Around} {C:Addr} {us:List Value} {kw:List (Str×Value)}:(A.under (.builtin "type.__call__" ⟨.ref C::us,kw⟩)).depth=A.depth+1:=by
 first | rfl | simp [Around.under,Code.weight,Code.isCreation,Code.isGuard,Code.isCaller,Code.frames,Code.isFrame,guardIds]
theorem Yb6 {A:Around} {C:Addr} {us:List Value} {kw:List (Str×Value)}:(A.under (.builtin "type.__call__" ⟨.ref C::us,kw⟩)).units=A.units+1:=by
 first | rfl | simp [Around.under,Code.cUnits,Code.frames,Code.isFrame]
theorem Room.make {k:Nat} {A:Around} (r:Room (k+1) A) (C:Addr) (us:List Value) (kw:List (Str×Value)):Room k (A.under (.builtin "type.__call__" ⟨.ref C::us,kw⟩)) :=
 ⟨r.hd,by have:=r.dp;rw [Yb5];omega,by have:=r.un;rw [Yb6];omega,by first | exact r.gd | simpa [Around.under,Code.isGuard,Code.isFrame,guardIds] using r.gd⟩
theorem Room.depth {k:Nat} {A:Around} (r:Room k A):A.depth<recursionLimit:=by have:=r.dp;omega
theorem Room.units {k:Nat} {A:Around} (r:Room k A):A.units+64<cLine:=by have:=r.un;omega
def W3:TA:=fun _ H Q=>Q [] H
def Wm (ta:TE) (tr:TA):TA:=fun σ H Q=>ta σ H fun x H1=>tr σ H1 fun xs H2=>Q (x::xs) H2
section
variable {X:Cx} {e:Expr} {es:List Expr} {te:TE} {t:TA} {pos:Pos}
theorem Yc:PA X [] W3:=fun _ _ _ _ H Q I h=>Calls.spliced_nil ⟨[],H,I,.nil,h⟩
theorem Ya (ha:PE X e te) (hr:PA X es t) (hs:starEach (e::es) X.env=(false,eval e X.env)::starEach es X.env):PA X (e::es) (Wm te t):=by
 intro pos pins s σ H Q I h
 rw [hs]
 show wpAny _ _ (spliced ((false,eval e X.env)::backTo pos (starEach es X.env))) _ _ s
 refine Calls.spliced_cons (thn (ha pins s σ H _ I h) fun u s1 ⟨x,H1,I1,r1,q1⟩=>?_)
 exact thn (hr pos pins s1 σ H1 _ I1 q1) fun us s2 ⟨xs,H2,I2,r2,q2⟩=>⟨x::xs,H2,I2,.cons r1 r2,q2⟩
def UQ (t:TA):TE:=fun σ H Q=>t σ H fun xs H1=>xs.length≤sizeLine∧∀ p,H1 p=none→Q (.ref p) (upd H1 p (.tup xs))
def Yb7 (t:TA):TE:=fun σ H Q=>t σ H fun xs H1=>xs.length≤sizeLine∧∀ p,H1 p=none→Q (.ref p) (upd H1 p (.lst xs))
theorem Xi {x1} (h:PA X es t):PE X (.Tuple es x1 pos) (UQ t):=by
 intro pins s σ H Q I hq
 refine wpAny_Tuple_spliced (thn (h pos pins s σ H _ I hq) fun us s1 ⟨xs,H1,I1,r,z,q⟩=>⟨by rw [← r.length];exact z,?_⟩)
 have hf:H1 s1.heap.objs.size=none:=I1.hok.fresh (Nat.le_refl _)
 refine ⟨.ref s1.heap.objs.size,upd H1 s1.heap.objs.size (.tup xs),I1.laid (t':=s1.toks) (fun b u e=>Heap.get?_push_of_some _ e) (Nat.le_refl _) ?_,rfl,q _ hf⟩
 exact ⟨z,us,r,⟨_,Heap.get?_push_size _ rfl,rfl,_,rfl⟩⟩
theorem W7 (h:PA X es t):PE X (.List es pos) (Yb7 t):=by
 intro pins s σ H Q I hq
 refine wpAny_List_spliced (thn (h pos pins s σ H _ I hq) fun us s1 ⟨xs,H1,I1,r,z,q⟩=>⟨by rw [← r.length];exact z,?_⟩)
 have hf:H1 s1.heap.objs.size=none:=I1.hok.fresh (Nat.le_refl _)
 refine ⟨.ref s1.heap.objs.size,upd H1 s1.heap.objs.size (.lst xs),I1.laid (t':=s1.toks) (fun b u e=>Heap.get?_push_of_some _ e) (Nat.le_refl _) ?_,rfl,q _ hf⟩
 exact ⟨z,us,0,r,Heap.get?_push_size _ rfl⟩
end
abbrev Sp:=List V→Hp→VK→XK→Prop
abbrev CXT:=List Env→Hp→Shared→XK→Value→Shared→Prop
structure Env0 (P:Program) (w:World) (K:PySem.W.Frag) (mg:Str→Option Value) (base:Heap) (A:Around) (outer:List Env) (s:Shared) (H:Hp):Prop where
 frames:A.frames=some outer
 mod:Mod K mg base
 bs:∀ b o,base.get? b=some o→s.heap.get? b=some o∧H b=none
 bsz:base.objs.size≤s.heap.objs.size
 funs:s.heap.FunFrames base outer
 frf:∀ b∈frs outer,H b=none
 hok:HOk P w H s.heap
 bare:AllBare s.gens
def CE (outer:List Env) (P:Program) (w:World) (H:Hp) (s:Shared) (Q:VK) (u:Value) (s':Shared):Prop :=
 ∃ v H',s'.os=s.os∧AllBare s'.gens∧Un (frs outer) [] H H' s.heap s'.heap∧HOk P w H' s'.heap∧Yz v u∧Q v H'
def CR (CX:CXT) (outer:List Env) (P:Program) (w:World) (H:Hp) (s:Shared) (Q:VK) (E:XK) (r:Result) (s':Shared):Prop :=
 match r with
 | .ok (.ret u)=>CE outer P w H s Q u s'
 | .ok _=>False
 | .error e=>CX outer H s E e s'
structure FnOk (P:Program) (w:World) (K:PySem.W.Frag) (mg:Str→Option Value) (base:Heap) (CX:CXT) (k:Nat) (f:Addr) (fd:FuncData) (ps:List Str) (sp:Sp):Prop where
 len:∀ vs H Q E,sp vs H Q E→vs.length=ps.length
 run:∀ (A:Around) (outer:List Env) (s:Shared) (H:Hp) (args:Args) (us:List Value) (vs:List V) (Q:VK) (E:XK),Room k A→Env0 P w K mg base A outer s H→BindsTo s fd args (ps.zip us)→Yp vs us→sp vs H Q E →
  codeAny (model P w) A (.call (.ref f) args) (CR CX outer P w H s Q E) s
theorem FnOk.mono {P:Program} {w:World} {K:PySem.W.Frag} {mg:Str→Option Value} {base:Heap} {CX:CXT} {j k:Nat} {f:Addr} {fd:FuncData} {ps:List Str} {sp:Sp} (F:FnOk P w K mg base CX j f fd ps sp) (h:j≤k) :
  FnOk P w K mg base CX k f fd ps sp:=⟨F.len,fun A outer s H args us vs Q E hr=>F.run A outer s H args us vs Q E (hr.mono h)⟩
theorem Env0.make {P:Program} {w:World} {K:PySem.W.Frag} {mg:Str→Option Value} {base:Heap} {A:Around} {outer:List Env} {s:Shared} {H:Hp} (e:Env0 P w K mg base A outer s H) (C:Addr) (us:List Value) (kw:List (Str×Value)) :
  Env0 P w K mg base (A.under (.builtin "type.__call__" ⟨.ref C::us,kw⟩)) outer s H:=⟨by first | exact e.frames | (simpa [Around.under,Code.envs,Code.isFrame,pushEnvs] using e.frames),e.mod,e.bs,e.bsz,e.funs,e.frf,e.hok,e.bare⟩
section
variable {X:Cx} {pins:List (Addr×Obj)} {σ:St} {H:Hp} {s s':Shared}
theorem Inv.env0 (I:Inv X pins σ H s):Env0 X.prog X.w X.K X.mg X.base X.A X.stack s H :=
 ⟨I.ok.frames,I.ok.mod,I.bs,Nat.le_trans I.ok.bsz I.sz,I.stack,I.stkFree,I.hok,I.bare⟩
theorem Inv.after {Q:VK} {u:Value} (I:Inv X pins σ H s) (h:CE X.stack X.prog X.w H s Q u s'):EP X pins σ Q u s':=by
 obtain ⟨v,H',os,bare,un,hok,r,q⟩:=h
 obtain ⟨hh,g,d,t,os'⟩:=s'
 obtain rfl:os'=s.os:=os
 exact ⟨v,H',I.call (h':=hh) (g':=g) (d':=d) (t':=t) (ch:=[]) un hok bare (fun b z=>absurd z (by simp)),r,q⟩
end
def Vm (sp:Sp) (dvs:List V) (E:XK) (t:TA):TE:=fun σ H Q=>t σ H fun vs H1=>sp (vs++dvs) H1 Q E
inductive MeQ (H:Hp) (a C:Addr) (m:Str) (Q:Prop):Prop
 | mk (dx:Addr) (fs:List (Str×V)) (h:H a=some (.ins C dx fs)) (l:fs.lookup m=none) (q:Q)
def Uw (C:Addr) (m:Str) (sp:Sp) (dvs:List V) (E:XK) (ta:TE) (t:TA):TE:=fun σ H Q=>ta σ H fun x H1=>kR x fun a=>MeQ H1 a C m (t σ H1 fun vs H2=>sp (.ref a::(vs++dvs)) H2 Q E)
def V1 (C:Addr) (sp:Sp) (dvs:List V) (E:XK) (t:TA):TE:=fun σ H Q=>t σ H fun vs H1=>∀ x dx,H1 x=none→H1 dx=none→dx≠x →
 sp (.ref x::(vs++dvs)) (upd (upd H1 dx (.own x)) x (.ins C dx [])) (fun v H2=>v = .non∧Q (.ref x) H2) E
def YY (K:PySem.W.Frag) (fd:FuncData) (ps:List Str) (ds:List Value):Prop :=
 ∀ (s:Shared) (us:List Value),K.In s.heap→(us++ds).length=ps.length→BindsTo s fd ⟨us,[]⟩ (ps.zip (us++ds))
theorem YY.all {K:PySem.W.Frag} {fd:FuncData} {ps:List Str} (h:∀ us:List Value,us.length=ps.length→bindArgs fd ⟨us,[]⟩=pure (ps.zip us)):YY K fd ps []:=fun s us _ hl=>by
 rw [List.append_nil] at hl ⊢
 exact .of_eq (h us hl)
def WM (CX:CXT) (X:Cx) (E:XK):Prop:=∀ (pins:List (Addr×Obj)) (σ:St) (H:Hp) (s:Shared) (e:Value) (s':Shared),Inv X pins σ H s→CX X.stack H s E e s'→X.xe e s'
section
variable {X:Cx} {CX:CXT} {k:Nat} {f C:Addr} {fd:FuncData} {ps:List Str} {sp:Sp} {dvs:List V} {ds:List Value} {E:XK} {x m:Str} {p pos apos:Pos} {e o:Expr} {es:List Expr} {ta:TE} {t:TA}
theorem VI {pins:List (Addr×Obj)} {σ:St} {H:Hp} {s:Shared} {Q:VK} {us:List Value} {vs:List V} (F:FnOk X.prog X.w X.K X.mg X.base CX k f fd ps sp) (hr:Room k X.A) (hb:YY X.K fd ps ds) (hd:Yp dvs ds) (hx:WM CX X E)
  (I:Inv X pins σ H s) (r:Yp vs us) (h:sp (vs++dvs) H Q E):wpAny (model X.prog X.w) X.A (call (.ref f) us) (EP X pins σ Q) X.xe s:=by
 have r2:Yp (vs++dvs) (us++ds):=r.append hd
 have hl:(us++ds).length=ps.length:=by rw [← r2.length];exact F.len _ _ _ _ h
 refine wpAny_call (codeAny_mono (F.run X.A X.stack s H ⟨us,[]⟩ (us++ds) (vs++dvs) Q E hr I.env0 (hb s us I.kIn hl) r2 h) fun r s' hq=>?_)
 cases r with
 | error e=>exact hx pins σ H s e s' I hq
 | ok fl =>
  cases fl with
  | ret u=>exact I.after hq
  | next=>exact False.elim hq
  | brk=>exact False.elim hq
  | cont=>exact False.elim hq
theorem Ybc (F:FnOk X.prog X.w X.K X.mg X.base CX k f fd ps sp) (hr:Room k X.A) (hg:Gl X x) (hm:X.mg x=some (.ref f)) (hk:PySem.W.keepIn X.K (.ref f)=true) (hb:YY X.K fd ps ds) (hd:Yp dvs ds) (hx:WM CX X E)
  (ha:PA X (e::es) t) (hdb:(x==("__debug__":Str))=false:=by decide) (he:starEach (e::es) X.env=(false,eval e X.env)::starEach es X.env:=by rfl) (hpl:(backTo pos (starEach es X.env)).any (·.1)=false:=by rfl) :
  PE X (.Call (.Name x p) (e::es) [] pos) (Vm sp dvs E t):=by
 intro pins s σ H Q I h
 refine wpAny_Call_Name_kw (W5 I hg hm ?_ hdb)
 refine PySem.W.callWith_K (h₀:=X.base) I.ok.mod.kin hk (thn (ha pos pins s σ H _ I h) fun us s1 ⟨vs,H1,I1,r,q⟩=>⟨I1.kIn,?_⟩) he hpl
 exact VI F hr hb hd hx I1 r q
theorem Yfd {pl:Sem Bool} (he:PE X o ta) (c:Cls X.K C) (hm:Meth X.K C m f) (F:FnOk X.prog X.w X.K X.mg X.base CX k f fd ps sp) (hr:Room k X.A) (hb:YY X.K fd ps ds) (hd:Yp dvs ds) (hx:WM CX X E) (ha:PA X (e::es) t)
  (hst:starEach (e::es) X.env=(false,eval e X.env)::starEach es X.env:=by rfl) (hpl:(backTo pos (starEach es X.env)).any (·.1)=false:=by rfl)
  (ht:eval (.Call (.Attribute o m apos) (e::es) [] pos) X.env=(do
   let ov ← eval o X.env
   standAt apos.atName
   let (f,first) ← holding [ov] (getMethod ov m pl)
   callWith pos f first (backTo pos (starEach (e::es) X.env)) (backToKw pos (keywordEach [] X.env))):=by rfl) :
  PE X (.Call (.Attribute o m apos) (e::es) [] pos) (Uw C m sp dvs E ta t):=by
 intro pins s σ H Q I h
 refine PySem.W.methodCall_KW (pl:=pl) (thn (he pins s σ H _ I h) fun u s1 ⟨x,H1,I1,rx,q⟩=>?_) ht
 replace q:=Vj.mp q
 obtain ⟨a,ex,dx,fs,ea,l,q⟩:=q
 subst ex
 obtain rfl:u=Value.ref a:=rx
 refine Uv I1 ea c hm l ?_
 refine PySem.W.callWith_K (first:=[.ref a]) (h₀:=X.base) I.ok.mod.kin hm.kp (thn (ha pos pins s1 σ H1 _ I1 q) fun us s2 ⟨vs,H2,I2,r,q2⟩=>⟨I2.kIn,?_⟩) hst hpl
 exact VI (us := .ref a::us) (vs := .ref a::vs) F hr hb hd hx I2 (.cons rfl r) q2
structure Mk (K:PySem.W.Frag) (C f:Addr):Prop where
 makes:PySem.W.makesIn K C=true
 init:PySem.W.findIn K (.ref C) "__init__"=some (some (.ref f))
 fn:PySem.W.isFn K (.ref f)=true
 kp:PySem.W.keepIn K (.ref C)=true
theorem Q8 {pins:List (Addr×Obj)} {σ:St} {H:Hp} {s:Shared} {Q:VK} {us:List Value} {vs:List V} (M:Mk X.K C f) (F:FnOk X.prog X.w X.K X.mg X.base CX k f fd ps sp) (hr:Room (k+1) X.A) (hb:YY X.K fd ps ds) (hd:Yp dvs ds)
  (hx:WM CX X E) (I:Inv X pins σ H s) (r:Yp vs us)
  (h:∀ x dx,H x=none→H dx=none→dx≠x→sp (.ref x::(vs++dvs)) (upd (upd H dx (.own x)) x (.ins C dx [])) (fun v H2=>v = .non∧Q (.ref x) H2) E) :
  wpAny (model X.prog X.w) X.A (call (.ref C) us) (EP X pins σ Q) X.xe s:=by
 have hq:=h (s.heap.objs.size+1) s.heap.objs.size (I.hok.fresh (Nat.le_succ _)) (I.hok.fresh (Nat.le_refl _)) (Nat.ne_of_lt (Nat.lt_succ_self _))
 have I2:=Inv.made (C:=C) I
 have r2:Yp (V.ref (s.heap.objs.size+1)::(vs++dvs)) (Value.ref (s.heap.objs.size+1)::(us++ds)) := .cons rfl (r.append hd)
 have hl:(Value.ref (s.heap.objs.size+1)::us++ds).length=ps.length:=by
  have e:=r2.length
  rw [F.len _ _ _ _ hq] at e
  exact e.symm
 refine wpAny_call (YdX (f:=f) I.kIn M.makes M.init (beq_iff_eq.mp M.fn) (codeAny_mono (F.run _ X.stack _ _ ⟨Value.ref (s.heap.objs.size+1)::us,[]⟩ (Value.ref (s.heap.objs.size+1)::(us++ds)) _ _ E (hr.make C us [])
  (I2.env0.make C us []) (hb _ (Value.ref (s.heap.objs.size+1)::us) I2.kIn hl) r2 hq) fun r s' hq'=>?_))
 cases r with
 | error e=>exact hx pins σ _ _ e s' I2 hq'
 | ok fl =>
  cases fl with
  | ret u =>
   obtain ⟨v,H',I3,rv,ev,q3⟩:=I2.after hq'
   subst ev
   exact ⟨rv,⟨V.ref (s.heap.objs.size+1),H',I3,rfl,q3⟩⟩
  | next=>exact False.elim hq'
  | brk=>exact False.elim hq'
  | cont=>exact False.elim hq'
theorem Yfe (M:Mk X.K C f) (F:FnOk X.prog X.w X.K X.mg X.base CX k f fd ps sp) (hr:Room (k+1) X.A) (hg:Gl X x) (hm:X.mg x=some (.ref C)) (hb:YY X.K fd ps ds) (hd:Yp dvs ds) (hx:WM CX X E)
  (ha:PA X (e::es) t) (hdb:(x==("__debug__":Str))=false:=by decide) (he:starEach (e::es) X.env=(false,eval e X.env)::starEach es X.env:=by rfl) (hpl:(backTo pos (starEach es X.env)).any (·.1)=false:=by rfl) :
  PE X (.Call (.Name x p) (e::es) [] pos) (V1 C sp dvs E t):=by
 intro pins s σ H Q I h
 refine wpAny_Call_Name_kw (W5 I hg hm ?_ hdb)
 refine PySem.W.callWith_K (h₀:=X.base) I.ok.mod.kin M.kp (thn (ha pos pins s σ H _ I h) fun us s1 ⟨vs,H1,I1,r,q⟩=>⟨I1.kIn,?_⟩) he hpl
 exact Q8 M F hr hb hd hx I1 r q
theorem YdY (M:Mk X.K C f) (F:FnOk X.prog X.w X.K X.mg X.base CX k f fd ps sp) (hr:Room (k+1) X.A) (hg:Gl X x) (hm:X.mg x=some (.ref C)) (hb:YY X.K fd ps ds) (hd:Yp dvs ds) (hx:WM CX X E)
  (hdb:(x==("__debug__":Str))=false:=by decide):PE X (.Call (.Name x p) [] [] pos) (V1 C sp dvs E W3):=by
 intro pins s σ H Q I h
 refine wpAny_Call_Name_kw (W5 I hg hm ?_ hdb)
 exact PySem.W.callWith_K0 I.kIn M.kp (Q8 (us:=[]) M F hr hb hd hx I .nil h)
end
section
variable {X:Cx} {CX:CXT} {k:Nat} {f C:Addr} {fd:FuncData} {ps ks:List Str} {sp:Sp} {E:XK} {x m:Str} {p pos apos kpos:Pos} {e o:Expr} {es:List Expr} {kws:List Keyword} {te ta:TE} {t tk:TA} {nm:Option Str}
variable {g:List Value→List Value→List Value} {gV:List V→List V→List V}
end
structure FnScope (N P:List Str) (sc:Scope):Prop where
 kind:sc.kind = .function
 co:sc.isCoroutine=false
 gen:sc.isGenerator=false
 nd:N.Nodup
 pre:N.take P.length=P
 par:∀ x∈P,sc.names.lookup x=some .local∨sc.names.lookup x=some .cell
 nofree:∀ y∈sc.names,y.2 ≠ .free
theorem Qp {kindOf:Str→Option NameKind} {x:Str}:∀ {binds:List (Str×Value)} {m:Str→Option Value},(∀ v,(x,v)∉binds)→bindL kindOf binds m x=m x
 | [],_,_=>rfl
 | (n,v)::r,m,h=>by
  unfold bindL
  rw [Qp fun w hw=>h w (List.mem_cons_of_mem _ hw)]
  split
  ·have:x≠n:=by rintro rfl;exact h v List.mem_cons_self
   simp [this]
  ·rfl
theorem Qq {kindOf:Str→Option NameKind} {x:Str}:∀ {binds:List (Str×Value)} {m:Str→Option Value},(∀ v,(x,v)∉binds)→bindC kindOf binds m x=m x
 | [],_,_=>rfl
 | (n,v)::r,m,h=>by
  unfold bindC
  rw [Qq fun w hw=>h w (List.mem_cons_of_mem _ hw)]
  split
  ·rfl
  ·have:x≠n:=by rintro rfl;exact h v List.mem_cons_self
   simp [this]
theorem Qr {kindOf:Str→Option NameKind} {x:Str} {v:Value}:∀ {P:List Str} {vs:List Value} {i:Nat} {m:Str→Option Value},P.Nodup→P[i]?=some x→vs[i]?=some v→kindOf x=some .local →
  bindL kindOf (P.zip vs) m x=some v
 | [],_,_,_,_,h,_,_=>by simp at h
 | _::_,[],_,_,_,_,h,_=>by simp at h
 | p::P,w::vs,0,m,nd,h1,h2,hk=>by
  simp at h1 h2;subst h1;subst h2
  show bindL kindOf ((p,w)::P.zip vs) m p=_
  unfold bindL
  rw [Qp fun v hv=>(List.nodup_cons.mp nd).1 (List.of_mem_zip hv).1,if_pos hk]
  simp
 | p::P,w::vs,i+1,m,nd,h1,h2,hk=>by
  show bindL kindOf ((p,w)::P.zip vs) m x=_
  unfold bindL
  exact Qr (i:=i) (List.nodup_cons.mp nd).2 (by simpa using h1) (by simpa using h2) hk
theorem Qs {kindOf:Str→Option NameKind} {x:Str} {v:Value}:∀ {P:List Str} {vs:List Value} {i:Nat} {m:Str→Option Value},P.Nodup→P[i]?=some x→vs[i]?=some v→kindOf x≠some .local →
  bindC kindOf (P.zip vs) m x=some v
 | [],_,_,_,_,h,_,_=>by simp at h
 | _::_,[],_,_,_,_,h,_=>by simp at h
 | p::P,w::vs,0,m,nd,h1,h2,hk=>by
  simp at h1 h2;subst h1;subst h2
  show bindC kindOf ((p,w)::P.zip vs) m p=_
  unfold bindC
  rw [Qq fun v hv=>(List.nodup_cons.mp nd).1 (List.of_mem_zip hv).1,if_neg hk]
  simp
 | p::P,w::vs,i+1,m,nd,h1,h2,hk=>by
  show bindC kindOf ((p,w)::P.zip vs) m x=_
  unfold bindC
  exact Qs (i:=i) (List.nodup_cons.mp nd).2 (by simpa using h1) (by simpa using h2) hk
def XQ (N:List Str) (vs:List V):St:=vs.map some++List.replicate (N.length - vs.length) none
def VJ (CX:CXT) (P:Program) (w:World) (K:PySem.W.Frag) (mg:Str→Option Value) (base:Heap) (N:List Str) (qual:Str) (scope:Scope) (f:Addr) (cd:Value) (A:Around) (outer:List Env) (s:Shared) (H:Hp) (E:XK):Cx where
 prog:=P
 w:=w
 K:=K
 mg:=mg
 base:=base
 A:=A.deeper (envOfC qual scope s.heap.objs.size f cd)
 N:=N
 s₀:=s
 H₀:=H
 env:=envOfC qual scope s.heap.objs.size f cd
 outer:=outer
 stack:=envOfC qual scope s.heap.objs.size f cd::outer
 ex:=[]
 calm:=true
 fn:=fun _=>true
 pn:=[]
 xe:=fun e s'=>wpAny (model P w) (A.deeper (envOfC qual scope s.heap.objs.size f cd)) (leaving (envOfC qual scope s.heap.objs.size f cd) e) (fun _ s''=>CX outer H s E e s'') (fun e' s''=>CX outer H s E e' s'') s'
theorem Q9 {sc:Scope} {n:Nat} {x:Str} (h:sc.names.lookup x=some .cell):∃ c,(cellsFrom n sc.names []).lookup x=some c:=by
 have q:=PySem.W.cellsFrom_some sc.names n [] (.inl h)
 exact Option.isSome_iff_exists.mp q
theorem Yc2 {CX:CXT} {P:Program} {w:World} {K:PySem.W.Frag} {mg:Str→Option Value} {base:Heap} {N ps:List Str} {qual:Str} {scope:Scope} {f:Addr} {cd:Value} {A:Around} {outer:List Env} {s s1:Shared} {H:Hp} {E:XK} {us:List Value} {vs:List V}
  (S:FnScope N ps scope) (hd:A.handled=none) (e0:Env0 P w K mg base A outer s H) (hl:vs.length=ps.length) (r:Yp vs us)
  (x:InCallC s s.heap.objs.size (bindL (envOfC qual scope s.heap.objs.size f cd).kindOf (ps.zip us) fun _=>none) (cellsFrom (s.heap.objs.size+1) scope.names []) (bindC (envOfC qual scope s.heap.objs.size f cd).kindOf (ps.zip us) fun _=>none) s1) :
  Inv (VJ CX P w K mg base N qual scope f cd A outer s H E) [] (XQ N vs) H s1:=by
 have hpl:ps.length≤N.length:=by have:=congrArg List.length S.pre;rw [List.length_take] at this;omega
 obtain ⟨h1,tk,rfl,hk⟩:=x.done
 have noA:∀ b:Addr,b∉(VJ CX P w K mg base N qual scope f cd A outer s H E).ex:=fun b z=>absurd (show b∈([]:List Addr) from z) (by simp)
 refine ⟨⟨e0.mod,S.kind,rfl,rfl,Nat.le_refl _,fun y z c h1 h2=>?_,fun y hy=>?_,fun y c _ h=>?_,fun _=>hd,Around.frames_deeper e0.frames,.inr ⟨rfl,rfl⟩,fun b z=>absurd z (noA b),e0.bs,e0.bsz,fun b _ _=>noA b,fun b z=>absurd z (noA b),e0.funs,e0.frf⟩,
  rfl,e0.bare,Un.kept hk,⟨_,x.toInCall.ns,fun i y v h1 h2 h3=>?_⟩,fun y c h=>⟨_,x.cell y c h⟩,e0.hok.fresh (Nat.le_refl _),fun y c h=>?_,fun p hp=>absurd (show p∈([]:List (Addr×Obj)) from hp) (by simp),e0.hok.kept hk,?_⟩
 ·exact name_of_addr x.apart (PySem.mem_of_lookup h1) (PySem.mem_of_lookup h2)
 ·have hy:scope.names.lookup y=some .cell∨scope.names.lookup y=some .free:=hy
  rcases hy with hy | hy
  ·exact Q9 hy
  ·exact absurd rfl (S.nofree _ (PySem.mem_of_lookup hy))
 ·exact Nat.le_of_lt (x.above y c (PySem.mem_of_lookup h))
 ·have hi:i<vs.length:=by
   unfold XQ at h2
   by_cases hi:i<vs.length
   ·exact hi
   ·rw [List.getElem?_append_right (by simpa using hi)] at h2
    rw [List.getElem?_replicate] at h2
    split at h2<;>cases h2
  have ha:vs[i]?=some v:=by
   unfold XQ at h2
   rw [List.getElem?_append_left (by simpa using hi),List.getElem?_map] at h2
   cases e:vs[i]? with
   | none=>rw [e] at h2;cases h2
   | some a=>rw [e] at h2;cases h2;rfl
  obtain ⟨u,hu,rv⟩:=r.get ha
  have hp:ps[i]?=some y:=by
   rw [← S.pre,List.getElem?_take_of_lt (by omega)];exact h1
  have ndP:ps.Nodup:=by rw [← S.pre];exact S.nd.sublist (List.take_sublist _ _)
  refine ⟨u,rv,?_⟩
  rcases S.par y (List.mem_of_getElem? hp) with k | k
  ·exact .inl ⟨k,Qr ndP hp hu k⟩
  ·obtain ⟨c,e⟩:=Q9 (n:=s.heap.objs.size+1) k
   refine .inr ⟨.inl k,c,e,?_⟩
   have q:=x.cell y c e
   rw [Qs ndP hp hu (by show scope.names.lookup y≠_;rw [k];decide)] at q
   exact q
 ·exact e0.hok.fresh (Nat.le_of_lt (x.above y c (PySem.mem_of_lookup h)))
 ·unfold XQ
  show _=N.length
  rw [List.length_append,List.length_map,List.length_replicate]
  omega
theorem QL {CX:CXT} {P:Program} {w:World} {K:PySem.W.Frag} {mg:Str→Option Value} {base:Heap} {k:Nat} {f:Addr} {name qual:Str} {params:Arguments} {body:List Stmt} {scope:Scope} {dV kV doc pm cdv ct oc:Value} {an od:Option Addr}
  {osl:Array (Option Value)} {N ps:List Str} {sp:Sp} (lk:K.lookup f=some ⟨oc,od,.func (PySem.W.fnOf name qual params body scope dV kV doc pm an cdv ct),osl⟩) (hcd:PySem.W.codeIn K cdv qual=true) (S:FnScope N ps scope)
  (len:∀ vs H Q E,sp vs H Q E→vs.length=ps.length)
  (hbody:∀ (A:Around) (outer:List Env) (s:Shared) (H:Hp) (vs:List V) (Q:VK) (E:XK),Room k (A.deeper (envOfC qual scope s.heap.objs.size f cdv))→sp vs H Q E →
   ∃ t,PSs (VJ CX P w K mg base N qual scope f cdv A outer s H E) body t∧t { nx:=fun _ H'=>Q .non H',rt:=Q } (XQ N vs) H) :
  FnOk P w K mg base CX (k+1) f (PySem.W.fnOf name qual params body scope dV kV doc pm an cdv ct) ps sp:=by
 refine ⟨len,fun A outer s H args us vs Q E hr e0 hb r hsp=>?_⟩
 have hl:=len _ _ _ _ hsp
 have KX:K.In s.heap:=e0.mod.kin.keeps fun b o e=>(e0.bs b o e).1
 have lim:s.heap.NoLimit:=e0.mod.nolimit.keeps fun b o e=>(e0.bs b o e).1
 have hkind:∀ y∈ps.zip us,scope.names.lookup y.1=some .local∨(scope.names.lookup y.1=some .cell∧((cellsFrom (s.heap.objs.size+1) scope.names []).lookup y.1).isSome=true):=fun ⟨n,v⟩ hy=>by
  rcases S.par n (List.of_mem_zip hy).1 with q | q
  ·exact .inl q
  ·exact .inr ⟨q,PySem.W.cellsFrom_some _ _ _ (.inl q)⟩
 refine codeAny_call_function hr.depth (KX _ _ lk) rfl S.co S.gen rfl (PySem.W.codeRec_of KX hcd) (hb _ _ _ _ ?_)
 refine wpAny_newFunctionEnv_cells S.kind hkind fun env he s1 x=>?_
 subst he
 refine ⟨lim.keeps x.toInCall.keep,codeAny_func ?_⟩
 obtain ⟨t,ht,hq⟩:=hbody A outer s H vs Q E (hr.deeper _) hsp
 have I:Inv (VJ CX P w K mg base N qual scope f cdv A outer s H E) [] (XQ N vs) H s1:=Yc2 S hr.hd e0 hl r x
 refine wpAny_mono (ht [] s1 (XQ N vs) H _ I hq) (fun fl s' hs=>?_) fun e s' hs=>hs
 have fin:∀ {σ':St} {H':Hp} {v:V} {u:Value},Inv (VJ CX P w K mg base N qual scope f cdv A outer s H E) [] σ' H' s'→Yz v u→Q v H'→CE outer P w H s Q u s' :=
  fun {σ' H' v u} J rv q=>⟨v,H',J.os,J.bare,J.base,J.hok,rv,q⟩
 cases fl with
 | ret u =>
  obtain ⟨v,σ',H',J,rv,q⟩:=hs
  exact fin J rv q
 | next =>
  obtain ⟨σ',H',J,q⟩:=hs
  exact fin (v:=V.non) (u:=Value.none) J rfl q
 | brk =>
  obtain ⟨_,_,_,q⟩:=hs
  exact False.elim q
 | cont =>
  obtain ⟨_,_,_,q⟩:=hs
  exact False.elim q
end L2
namespace L2
open PySem PySem.Spec PyProof.Rows
section
variable {X:Cx} {x:Str} {p pos:Pos} {e:Expr} {es:List Expr} {t:TA} {id T:String} {r:List V→Hp→VK→Prop}
def tCB (r:List V→Hp→VK→Prop) (t:TA):TE:=fun σ H Q=>t σ H fun vs H1=>r vs H1 Q
theorem YdZ (hc:XA X (.builtin id) r) (hg:Gl X x) (hm:X.mg x=none) (hv:bootBuiltins x=some (.builtin id)) (ha:PA X (e::es) t) (hn:x≠"__name__":=by decide) (hdb:(x==("__debug__":Str))=false:=by decide)
  (he:starEach (e::es) X.env=(false,eval e X.env)::starEach es X.env:=by rfl) (hpl:(backTo pos (starEach es X.env)).any (·.1)=false:=by rfl):PE X (.Call (.Name x p) (e::es) [] pos) (tCB r t):=by
 intro pins s σ H Q I h
 refine wpAny_Call_Name_kw (WL I hg hm hv ?_ hn hdb)
 exact PyProof.Rows.callWith_builtin1 (thn (ha pos pins s σ H _ I h) fun us s1 ⟨vs,H1,I1,r1,q1⟩=>hc pins s1 σ H1 vs us Q I1 r1 q1) he hpl
theorem Yc3 (hc:XA X (.type T) r) (hg:Gl X x) (hm:X.mg x=none) (hv:bootBuiltins x=some (.type T)) (ha:PA X (e::es) t) (hn:x≠"__name__":=by decide) (hdb:(x==("__debug__":Str))=false:=by decide)
  (he:starEach (e::es) X.env=(false,eval e X.env)::starEach es X.env:=by rfl) (hpl:(backTo pos (starEach es X.env)).any (·.1)=false:=by rfl):PE X (.Call (.Name x p) (e::es) [] pos) (tCB r t):=by
 intro pins s σ H Q I h
 refine wpAny_Call_Name_kw (WL I hg hm hv ?_ hn hdb)
 exact PyProof.Rows.callWith_type1 (thn (ha pos pins s σ H _ I h) fun us s1 ⟨vs,H1,I1,r1,q1⟩=>hc pins s1 σ H1 vs us Q I1 r1 q1) he hpl
end
end L2
namespace HT
open PySem PyProof.Rows
section
open PySem.SeqAt
open PySem.AutoSeq1 (wpAny_loadPart')
open PySem.MeetsSeq PySem.MeetsSeq2 PySem.MeetsSeq3
end
section
variable {prog:Program} {w:World} {A:Around} {E:Value→Shared→Prop} {s:Shared}
def sIx (n d:Nat):Option Int→Nat
 | none=>d
 | some v=>if v<0 then (v+(n:Int)).toNat else min v.toNat n
end
end HT
namespace L2
open PySem PySem.Spec PyProof.Rows
abbrev TO:=St→Hp→(Option Int→Hp→Prop)→Prop
def PO (X:Cx) (e:Option Expr) (t:TO):Prop :=
 ∀ (pins:List (Addr×Obj)) (s:Shared) (σ:St) (H:Hp) (Q:Option Int→Hp→Prop),Inv X pins σ H s→t σ H Q →
  wpAny (model X.prog X.w) X.A (evalPart e X.env) (fun u s'=>∃ o H',Inv X pins σ H' s'∧IsPart u o∧Q o H') X.xe s
def UR:TO:=fun _ H Q=>Q none H
def Yb8 (t:TE):TO:=fun σ H Q=>t σ H fun x H1=>kI x fun i=>Q (some i) H1
theorem Yb9 {ns:List Int}:∀ {us:List Value},Yp (ns.map V.int) us→IntsAre us ns:=by
 induction ns with
 | nil=>intro us r;rw [List.map_nil] at r;cases r;exact .nil
 | cons n ns ih =>
  intro us r
  rw [List.map_cons] at r
  cases r with
  | cons r1 r2 =>
   obtain ⟨t,e⟩:=r1
   subst e
   exact .cons n t (ih r2)
section
variable {X:Cx} {e:Expr} {te:TE} {lo hi:Option Expr} {tl th:TO} {pos p2:Pos}
theorem Yff:PO X none UR:=by
 intro pins s σ H Q I h
 rw [evalPart_none]
 exact wpAny_pure ⟨none,H,I,.none,h⟩
theorem Yfg (h:PE X e te):PO X (some e) (Yb8 te):=by
 intro pins s σ H Q I hw
 rw [evalPart_some]
 refine thn (h pins s σ H _ I hw) fun u s1 ⟨x,H1,I1,r1,q1⟩=>?_
 obtain ⟨i,rfl,q⟩:=UP.mp q1
 obtain ⟨t,rfl⟩:=r1
 exact ⟨some i,H1,I1,.int i t,q⟩
def SlR (X:Cx) (r:V→Option Int→Option Int→Hp→VK→Prop):Prop :=
 ∀ (pins:List (Addr×Obj)) (s:Shared) (σ:St) (H:Hp) (x:V) (v vl vu:Value) (lo hi:Option Int) (sl:Addr) (Q:VK),Inv X pins σ H s→Yz x v→s.heap.IsSliceOf sl vl vu .none→IsPart vl lo→IsPart vu hi→r x lo hi H Q →
  ∃ T id,typeLookup (.type T) "__getitem__"=pure (some (.builtin id))∧s.TypeIs v T∧wpAny (model X.prog X.w) X.A (getItem v (.ref sl)) (EP X pins σ Q) X.xe s
def tSl (r:V→Option Int→Option Int→Hp→VK→Prop) (te:TE) (tl th:TO):TE:=fun σ H Q=>te σ H fun x H1=>tl σ H1 fun l H2=>th σ H2 fun u H3=>r x l u H3 Q
theorem Yd0 {r:V→Option Int→Option Int→Hp→VK→Prop} (hr:SlR X r) (he:PE X e te) (hl:PO X lo tl) (hu:PO X hi th):PE X (.Subscript e (.Slice lo hi none p2) pos) (tSl r te tl th):=by
 intro pins s σ H Q I h
 refine Subscript_ (thn (he pins s σ H _ I h) fun v s1 ⟨x,H1,I1,r1,q1⟩=>?_)
 refine wpAny_Slice (thn (hl pins s1 σ H1 _ I1 q1) fun vl s2 ⟨l,H2,I2,pl,q2⟩=>thn (hu pins s2 σ H2 _ I2 q2) fun vu s3 ⟨u,H3,I3,pu,q3⟩=>?_)
 rw [evalPart_none]
 refine wpAny_pure ?_
 have I4:Inv X pins σ H3 { s3 with heap:=s3.heap.push { cls := .type "slice",data := .fields #[vl,vu,.none] } }:=I3.kept (t':=s3.toks) fun b ob q=>Heap.get?_push_of_some _ q
 obtain ⟨T,id,hT,ht,hg⟩:=hr pins { s3 with heap:=s3.heap.push { cls := .type "slice",data := .fields #[vl,vu,.none] } } σ H3 x v vl vu l u s3.heap.objs.size Q I4 r1 (Heap.IsSliceOf.new ..) pl pu q3
 show wpAny (model X.prog X.w) X.A (subscriptTail e (.Slice lo hi none p2) v (.ref s3.heap.objs.size)) (EP X pins σ Q) X.xe { s3 with heap:=s3.heap.push { cls := .type "slice",data := .fields #[vl,vu,.none] } }
 exact tail_any (ops:=[.ref s3.heap.objs.size,v]) ht hT hg (by with_unfolding_all rfl)
def US (xs:List V) (lo hi:Option Int):List V:=(xs.drop (HT.sIx xs.length 0 lo)).take (HT.sIx xs.length xs.length hi - HT.sIx xs.length 0 lo)
theorem YaW (xs:List V) (lo hi:Option Int):(US xs lo hi).length≤xs.length:=by
 unfold US
 rw [List.length_take,List.length_drop]
 omega
end
end L2
namespace L2
open PySem PySem.Spec PyProof.Rows
def ixN (n:Nat) (i:Int):Option Nat:=if 0≤i then (if i<n then some i.toNat else none) else if -(n:Int)≤i then some (i+n).toNat else none
def atI {α:Type} (xs:List α) (i:Int):Option α:=(ixN xs.length i).bind fun j=>xs[j]?
theorem Ybd {n:Nat} {i:Int} {j:Nat} (h:ixN n i=some j):seqIndex? i n=some j∧j<n ∧ -(n:Int)≤i∧i<n:=by
 unfold ixN at h
 by_cases h0:0≤i
 ·rw [if_pos h0] at h
  by_cases h1:i<n
  ·rw [if_pos h1] at h
   have e:i.toNat=j:=Option.some.inj h
   exact ⟨by rw [seqIndex_of h0 h1,e],by omega,by omega,h1⟩
  ·rw [if_neg h1] at h;cases h
 ·rw [if_neg h0] at h
  by_cases h1 : -(n:Int)≤i
  ·rw [if_pos h1] at h
   have e:(i+n).toNat=j:=Option.some.inj h
   exact ⟨by rw [seqIndex_neg (by omega) h1,e],by omega,h1,by omega⟩
  ·rw [if_neg h1] at h;cases h
theorem UT {α:Type} {xs:List α} {i:Int} {v:α} (h:atI xs i=some v):∃ j,seqIndex? i xs.length=some j∧xs[j]?=some v∧j<xs.length ∧ -(xs.length:Int)≤i∧i<xs.length:=by
 unfold atI at h
 cases e:ixN xs.length i with
 | none=>rw [e] at h;cases h
 | some j =>
  rw [e] at h
  obtain ⟨h1,h2,h3,h4⟩:=Ybd e
  exact ⟨j,h1,h,h2,h3,h4⟩
theorem Yu {α:Type} {xs:List α} {j:Nat} {v:α} (h:xs[j]?=some v):atI xs (j:Int)=some v:=by
 have hj:j<xs.length:=(List.getElem?_eq_some_iff.mp h).1
 have e:ixN xs.length (j:Int)=some j:=by
  unfold ixN
  rw [if_pos (by omega),if_pos (by omega)];simp
 unfold atI;rw [e];exact h
theorem Yd1 {α:Type} (xs:List α) (v:α):atI (xs++[v]) (-1)=some v:=by
 have hl:(xs++[v]).length=xs.length+1:=by simp
 have e:ixN (xs++[v]).length (-1)=some xs.length:=by
  unfold ixN
  rw [hl,if_neg (by decide),if_pos (by omega)]
  congr 1
  omega
 unfold atI
 rw [e]
 show (xs++[v])[xs.length]?=some v
 simp
def Yfh (b:Expr):Prop:=∀ o i,subscripted b false o i=operate [o,i] (getItem o i)
def IxR (X:Cx) (r:R2):Prop :=
 ∀ (value slice:Expr) (pins:List (Addr×Obj)) (s:Shared) (σ:St) (H:Hp) (x y:V) (v u:Value) (Q:VK),Inv X pins σ H s→Yz x v→Yz y u→r x y H Q →
  subscripted slice false v u=operate [v,u] (getItem v u)→wpAny (model X.prog X.w) X.A (subscriptTail value slice v u) (EP X pins σ Q) X.xe s
def MtR (X:Cx) (id:String) (r:V→List V→Hp→VK→Prop):Prop :=
 ∀ (pins:List (Addr×Obj)) (s:Shared) (σ:St) (H:Hp) (x:V) (xs:List V) (v:Value) (us:List Value) (Q:VK),Inv X pins σ H s→Yz x v→Yp xs us→r x xs H Q →
  wpAny (model X.prog X.w) X.A (call (.builtin id) (v::us)) (EP X pins σ Q) X.xe s
section
variable {X:Cx} {a b:Expr} {ta tb:TE} {pos:Pos}
theorem Yn {r:R2} (hr:IxR X r) (ha:PE X a ta) (hb:PE X b tb) (hs:Yfh b):PE X (.Subscript a b pos) (tOp r ta tb):=by
 intro pins s σ H Q I h
 exact Subscript_ (binT ha hb I h fun v u s2 x y H2 I2 rx ry q=>hr a b pins s2 σ H2 x y v u Q I2 rx ry q (hs _ _))
inductive IxQ (S:List V→Prop) (i:Int) (Q:V→Prop):Prop
 | mk (xs:List V) (h:S xs) (v:V) (e:atI xs i=some v) (q:Q v)
def rIxL (K:PySem.W.Frag):R2:=fun x y H Q=>kR x fun p=>kI y fun i=>IxQ (SqL K H p) i fun v=>Q v H
theorem IxQ.e {S:Addr→List V→Prop} {x y:V} {Q:V→Prop} (h:kR x fun p=>kI y fun i=>IxQ (S p) i Q):∃ p xs i v,x = .ref p∧y = .int i∧S p xs∧atI xs i=some v∧Q v:=by
 obtain ⟨p,e1,h⟩:=Vj.mp h
 obtain ⟨i,e2,xs,h1,v,h2,h3⟩:=UP.mp h
 exact ⟨p,xs,i,v,e1,e2,h1,h2,h3⟩
def rIxT (K:PySem.W.Frag):R2:=fun x y H Q=>kR x fun p=>kI y fun i=>IxQ (SqT K H p) i fun v=>Q v H
def rIxS:R2:=fun x y H Q=>∃ z i c,x = .str z∧y = .int i∧z.length≤sizeLine∧atI z.cps.toList i=some c∧Q (.str ⟨#[c]⟩) H
theorem Yw:IxR X (rIxL X.K):=by
 intro value slice pins s σ H x y v u Q I rx ry h hs
 replace h:=IxQ.e h
 obtain ⟨p,xs,i,z,rfl,rfl,hq,he,q⟩:=h
 cases rx
 obtain ⟨t,rfl⟩:=ry
 obtain ⟨its,r,pl,hz⟩:=I.list hq
 obtain ⟨j,h1,h2,h3,h4,h5⟩:=UT he
 obtain ⟨w,ew,rw'⟩:=r.get h2
 have hl:=r.length
 have hn:=VG
 have fin:EP X pins σ Q w s:=⟨z,H,I,rw',q⟩
 by_cases h0:0≤i
 ·have hj:i.toNat=j:=by
   rw [seqIndex_of h0 h5] at h1
   exact Option.some.inj h1
  exact item_listR pl.isList h0 (by omega) (by rw [hj];simpa using ew) fin hs
 ·have hj:(i+(its.toArray.size:Int)).toNat=j:=by
   rw [seqIndex_neg (by omega) h4] at h1
   rw [List.size_toArray,← hl]
   exact Option.some.inj h1
  exact subscriptTail_builtinR (x:=w) pl.isList.typeIs slot_list_getitem.lookup
   (wpAny_getItem_list_neg (Q:=fun r s'=>r=w∧EP X pins σ Q r s') pl.isList (by omega) (by rw [List.size_toArray]<;>omega) (by omega) (by rw [hj];simpa using ew) ⟨rfl,fin⟩) hs
theorem YL:IxR X (rIxT X.K):=by
 intro value slice pins s σ H x y v u Q I rx ry h hs
 replace h:=IxQ.e h
 obtain ⟨p,xs,i,z,rfl,rfl,hq,he,q⟩:=h
 cases rx
 obtain ⟨t,rfl⟩:=ry
 obtain ⟨its,r,pl,hz⟩:=I.tuple hq
 obtain ⟨j,h1,h2,h3,h4,h5⟩:=UT he
 obtain ⟨w,ew,rw'⟩:=r.get h2
 have hl:=r.length
 have hn:=VG
 have fin:EP X pins σ Q w s:=⟨z,H,I,rw',q⟩
 exact subscriptTail_builtinR (x:=w) pl.typeIs slot_tuple_getitem.lookup
  (getItem_tuple (j:=j) (Q:=fun r s'=>r=w∧EP X pins σ Q r s') pl (by omega) (by omega) (by rw [List.size_toArray,← hl];exact h1) (by simpa using ew) ⟨rfl,fin⟩) hs
theorem YfZ:IxR X rIxS:=by
 intro value slice pins s σ H x y v u Q I rx ry h hs
 obtain ⟨z,i,c,rfl,rfl,hz,he,q⟩:=h
 obtain ⟨t,rfl⟩:=rx
 obtain ⟨t',rfl⟩:=ry
 obtain ⟨j,h1,h2,h3,h4,h5⟩:=UT he
 have hl:z.cps.toList.length=z.length:=by simp [Str.length]
 rw [hl] at h1 h4 h5
 have hn:=VG
 exact tail_any (typeIs_str s z t) slot_str_getitem.lookup (getItem_str (c:=c) (by
  have e1:decide (i < -(2^63:Int))=false:=decide_eq_false (by omega)
  have e2:decide (i≥2^63)=false:=decide_eq_false (by omega)
  rw [e1,e2,Bool.or_false]) (by rw [h1];simpa using h2) ⟨.str ⟨#[c]⟩,H,I.tok _,⟨_,rfl⟩,q⟩) hs
theorem Yca (its:List Value) (n j:Nat) (u:Value):Obj.mapSeq (·.setIfInBounds j u) { cls := .type "list",data := .seq its.toArray n }={ cls := .type "list",data := .seq (its.set j u).toArray n }:=by
 simp [Obj.mapSeq]
theorem Inv.lst {pins:List (Addr×Obj)} {σ:St} {H:Hp} {s:Shared} {p:Addr} {xs:List V} (I:Inv X pins σ H s) (h:H p=some (.lst xs)) :
  ∃ (its:List Value) (n:Nat),Yp xs its∧s.heap.get? p=some { cls := .type "list",data := .seq its.toArray n }∧xs.length≤sizeLine:=by
 obtain ⟨z,its,n,r,e⟩:=I.hok p _ h
 exact ⟨its,n,r,e,z⟩
theorem Inv.lstUpd {pins:List (Addr×Obj)} {σ:St} {H:Hp} {s:Shared} {p:Addr} {xs ys:List V} {its its':List Value} {n n':Nat} {f:Obj→Obj} (I:Inv X pins σ H s) (h:H p=some (.lst xs))
  (ho:s.heap.get? p=some { cls := .type "list",data := .seq its.toArray n }) (hf:f { cls := .type "list",data := .seq its.toArray n }={ cls := .type "list",data := .seq its'.toArray n' }) (r:Yp ys its') (hz:ys.length≤sizeLine) (t:Nat) :
  Inv X pins σ (upd H p (.lst ys)) { s with heap:=s.heap.update p f,toks:=t }:=by
 have e:(s.heap.update p f).get? p=some { cls := .type "list",data := .seq its'.toArray n' }:=by
  rw [Heap.get?_update_self f ho (by rw [hf]<;>rfl),hf]
 refine I.write (x:=p) (e:=p) (by rw [h];trivial) (.inl rfl) (fun b u hb q=>(Heap.get?_update_other _ _ (Ne.symm hb)).trans q) ⟨_,e⟩ ?_
 exact ⟨hz,its',n',r,e⟩
def Ycb:V→V→V→Hp→(Hp→Prop)→Prop:=fun o i v H Q=>∃ p xs k j,o = .ref p∧i = .int k∧H p=some (.lst xs)∧ixN xs.length k=some j∧Q (upd H p (.lst (xs.set j v)))
theorem Yaa:PSet X Ycb:=by
 intro pins s σ H o i v ov iv u Q I ro ri rv h
 obtain ⟨p,xs,k,j,rfl,rfl,hp,hj,q⟩:=h
 cases ro
 obtain ⟨t,rfl⟩:=ri
 obtain ⟨its,n,r,ho,hz⟩:=I.lst hp
 obtain ⟨h1,h2,h3,h4⟩:=Ybd hj
 have hl:=r.length
 have hn:=VG
 have I':Inv X pins σ (upd H p (.lst (xs.set j v))) { s with heap:=s.heap.update p (Obj.mapSeq (·.setIfInBounds j u)) } :=
  I.lstUpd hp ho (Yca its n j u) (r.set rv j) (by rw [List.length_set];exact hz) s.toks
 by_cases h0:0≤k
 ·have hk:k.toNat=j:=by
   rw [seqIndex_of h0 h4] at h1
   exact Option.some.inj h1
  exact PySem.W.ki_setAt ho h0 (by omega) (by rw [List.size_toArray,← hl];exact h4) (by rw [hk];exact ⟨_,I',q⟩)
 ·have hk:(k+(its.toArray.size:Int)).toNat=j:=by
   rw [seqIndex_neg (by omega) h3] at h1
   rw [List.size_toArray,← hl]
   exact Option.some.inj h1
  exact PySem.W.ki_setBack ho (by omega) (by rw [List.size_toArray,← hl];exact h3) (by omega) (by rw [hk];exact ⟨_,I',q⟩)
theorem Yab (lo hi:Option Int) (n:Nat):(sliceBounds lo hi none n).1=((HT.sIx n 0 lo:Nat):Int)∧(sliceBounds lo hi none n).2.1=((HT.sIx n n hi:Nat):Int)∧(sliceBounds lo hi none n).2.2=1:=by
 refine ⟨?_,?_,rfl⟩
 ·cases lo with
  | none=>simp [sliceBounds,HT.sIx]
  | some i =>
   simp only [sliceBounds,HT.sIx,Option.getD_none,show (1:Int)>0 by decide,if_true]
   by_cases h:i<0
   ·simp only [h,if_true]<;>omega
   ·simp only [h,if_false]<;>omega
 ·cases hi with
  | none=>simp [sliceBounds,HT.sIx]
  | some i =>
   simp only [sliceBounds,HT.sIx,Option.getD_none,show (1:Int)>0 by decide,if_true]
   by_cases h:i<0
   ·simp only [h,if_true]<;>omega
   ·simp only [h,if_false]<;>omega
theorem QD (its:List Value) (lo hi:Option Int):slicePick its.toArray lo hi none=((its.drop (HT.sIx its.length 0 lo)).take (HT.sIx its.length its.length hi - HT.sIx its.length 0 lo)).toArray:=by
 obtain ⟨h1,h2,h3⟩:=Yab lo hi its.toArray.size
 unfold slicePick
 rw [h1,h2,h3]
 simp only [sliceRange_one,pick_run,List.size_toArray]<;>rfl
inductive SlQ (K:PySem.W.Frag) (H:Hp) (a:Addr) (Q:List V→Prop):Prop
 | mk (xs:List V) (h:SqL K H a xs) (q:Q xs)
def rSlL (K:PySem.W.Frag):V→Option Int→Option Int→Hp→VK→Prop:=fun x lo hi H Q=>kR x fun a=>SlQ K H a fun xs=>∀ p,H p=none→Q (.ref p) (upd H p (.lst (US xs lo hi)))
theorem Yfi:SlR X (rSlL X.K):=by
 intro pins s σ H x v vl vu lo hi sl Q I rx hs pl pu h
 obtain ⟨a,rfl,xs,hx,q⟩:=Vj.mp h
 cases rx
 obtain ⟨its,r,ht,hz⟩:=I.list hx
 have hlen:=r.length
 refine ⟨"list",_,slot_list_getitem.lookup,ht.isList.typeIs,?_⟩
 refine wpAny_getItem_list_slice ht.isList hs pl pu .none (by simp) ?_ (by rw [List.size_toArray]<;>omega)
 rw [QD,← hlen]
 refine ⟨.ref s.heap.objs.size,_,I.laid (t':=s.toks) (o := .lst (US xs lo hi)) (fun b ob q=>Heap.get?_push_of_some _ q) (Nat.le_refl _) ?_,rfl,q _ (I.hok.fresh (Nat.le_refl _))⟩
 exact ⟨Nat.le_trans (YaW xs lo hi) hz,_,0,(r.drop (HT.sIx xs.length 0 lo)).take (HT.sIx xs.length xs.length hi - HT.sIx xs.length 0 lo),Heap.get?_push_size _ rfl⟩
def YeM:V→Bool
 | .non=>true
 | .bl _=>true
 | .int _=>true
 | .str _=>true
 | _=>false
def eqV:V→V→Bool
 | .non,.non=>true
 | .bl a,.bl b=>a==b
 | .bl a,.int b=>(if a then 1 else 0)==b
 | .int a,.bl b=>a==(if b then 1 else 0)
 | .int a,.int b=>a==b
 | .str a,.str b=>a==b
 | _,_=>false
def inV (x:V) (xs:List V):Bool:=xs.any fun y=>eqV y x
def rIn (K:PySem.W.Frag) (neg:Bool):R2:=fun x y H Q=>∃ p xs,y = .ref p∧(SqL K H p xs∨SqT K H p xs)∧YeM x=true∧xs.all YeM=true∧Q (.bl (if neg then !inV x xs else inV x xs)) H
inductive LenQ (K:PySem.W.Frag) (H:Hp) (p:Addr) (Q:Int→Prop):Prop
 | mk (ys:List V) (h:SqL K H p ys∨SqT K H p ys) (q:Q ys.length)
def rLen (K:PySem.W.Frag):List V→Hp→VK→Prop:=fun xs H Q=>k1 xs fun x=>kR x fun p=>LenQ K H p fun n=>Q (.int n) H
theorem YA:XA X (.builtin "len") (rLen X.K):=by
 intro pins s σ H xs us Q I r h
 obtain ⟨x,rfl,h1⟩:=k1_e h
 obtain ⟨p,rfl,ys,hq,q⟩:=Vj.mp h1
 obtain ⟨u,rfl,rx⟩:=WB r
 cases rx
 have hn:=VG
 rcases hq with hq | hq
 ·obtain ⟨its,r',pl,hz⟩:=I.list hq
  have hlen:=r'.length
  exact Calls.call_len_list pl.isList (by simp only [List.size_toArray]<;>omega) ⟨.int ys.length,H,I.tok _,⟨s.toks+1,by rw [List.size_toArray,hlen]⟩,q⟩
 ·obtain ⟨its,r',pl,hz⟩:=I.tuple hq
  have hlen:=r'.length
  exact len_tuple pl (by simp only [List.size_toArray]<;>omega) ⟨.int ys.length,H,I.tok _,⟨s.toks+1,by rw [List.size_toArray,hlen]⟩,q⟩
theorem Yac:XA X (.type "list") (fun xs H Q=>∃ p ys,xs=[.ref p]∧(SqL X.K H p ys∨SqT X.K H p ys)∧∀ l,H l=none→Q (.ref l) (upd H l (.lst ys))):=by
 intro pins s σ H xs us Q I r h
 obtain ⟨p,ys,rfl,hq,q⟩:=h
 obtain ⟨u,rfl,rx⟩:=WB r
 cases rx
 have fin:∀ (its:List Value),Yp ys its→ys.length≤sizeLine→∀ (h':Heap) (c':Nat),(∀ b o',s.heap.get? b=some o'→h'.get? b=some o') →
   h'.get? s.heap.objs.size=some { cls := .type "list",dict:=none,data := .seq its.toArray c',slots:=#[] }→EP X pins σ Q (.ref s.heap.objs.size) { s with heap:=h' }:=fun its r' hz h' c' kp e =>
  ⟨.ref s.heap.objs.size,_,I.laid (t':=s.toks) kp (Nat.le_refl _) (show YR X.prog X.w _ h' _ (.lst ys) from ⟨hz,its,c',r',e⟩),rfl,q _ (I.hok.fresh (Nat.le_refl _))⟩
 rcases hq with hq | hq
 ·obtain ⟨its,r',pl,hz⟩:=I.list hq
  have hlen:=r'.length
  obtain ⟨o,ho,hc,n,hd⟩:=pl.isList
  exact call_list_seq p (.inl rfl) ho hc hd (fun h' c' kp e=>fin its r' hz h' c' kp e) (by simp only [List.size_toArray]<;>omega)
 ·obtain ⟨its,r',pl,hz⟩:=I.tuple hq
  have hlen:=r'.length
  obtain ⟨o,ho,hc,n,hd⟩:=pl
  exact call_list_seq p (.inr rfl) ho hc hd (fun h' c' kp e=>fin its r' hz h' c' kp e) (by simp only [List.size_toArray]<;>omega)
theorem VC:XA X (.type "tuple") (fun xs H Q=>∃ p ys,xs=[.ref p]∧((SqL X.K H p ys∧∀ l,H l=none→Q (.ref l) (upd H l (.tup ys)))∨(SqT X.K H p ys∧Q (.ref p) H))):=by
 intro pins s σ H xs us Q I r h
 obtain ⟨p,ys,rfl,h⟩:=h
 obtain ⟨u,rfl,rx⟩:=WB r
 cases rx
 rcases h with ⟨hq,q⟩ | ⟨hq,q⟩
 ·obtain ⟨its,r',pl,hz⟩:=I.list hq
  have hlen:=r'.length
  refine call_tuple_list pl.isList (fun h' kp=>?_) (by simp only [List.size_toArray]<;>omega)
  have I1:Inv X pins σ H { s with heap:=h' }:=I.kept (t':=s.toks) kp
  have I2:Inv X pins σ (upd H h'.objs.size (.tup ys)) { s with heap:=h'.push { cls := .type "tuple",data := .seq its.toArray } } :=
   I1.laid (t':=s.toks) (fun b o e=>Heap.get?_push_of_some _ e) (Nat.le_refl _) (show YR X.prog X.w _ _ _ (.tup ys) from ⟨hz,its,r',IsTup.new _ _⟩)
  exact ⟨.ref h'.objs.size,_,I2,rfl,q _ (I1.hok.fresh (Nat.le_refl _))⟩
 ·obtain ⟨its,r',pl,hz⟩:=I.tuple hq
  exact call_tuple_same pl ⟨.ref p,H,I,rfl,q⟩
def tyV (K:PySem.W.Frag) (T:String) (x:V) (H:Hp):Prop:=match x with
 | .str _=>T="str"
 | .int _=>T="int"
 | .ref p=>(T="list"∧∃ xs,SqL K H p xs)∨(T="tuple"∧∃ o,K.lookup p=some o∧o.cls = .type "tuple"∧o.dict=none) ∨
   (T="dict"∧((∃ kvs,H p=some (.dK kvs))∨∃ kvs,H p=some (.dT kvs)))∨(T="set"∧∃ S n,H p=some (.set S n))
 | _=>False
theorem Yc4 {pins:List (Addr×Obj)} {σ:St} {H:Hp} {s:Shared} {T:String} {x:V} {v:Value} (I:Inv X pins σ H s) (r:Yz x v) (ty:tyV X.K T x H) :
  s.TypeIs v T∧∀ a,v = .ref a→∃ ob,s.heap.get? a=some ob∧ob.dict=none:=by
 cases x with
 | str z =>
  obtain ⟨t,rfl⟩:=r
  cases (show T="str" from ty)
  exact ⟨typeIs_str s z t,fun _ e=>nomatch e⟩
 | int i =>
  obtain ⟨t,rfl⟩:=r
  cases (show T="int" from ty)
  exact ⟨typeIs_int s i t,fun _ e=>nomatch e⟩
 | ref p =>
  cases r
  rcases ty with ⟨rfl,xs,hq⟩ | ⟨rfl,o,hk,hc,hd⟩ | ⟨rfl,hk⟩ | ⟨rfl,S,n,hk⟩
  ·obtain ⟨its,_,pl,_⟩:=I.list hq
   refine ⟨pl.isList.typeIs,fun a e=>?_⟩
   cases e
   obtain ⟨o,n,e,c,hd,_⟩:=pl
   exact ⟨o,e,hd⟩
  ·refine ⟨⟨o,I.kIn p o hk,hc⟩,fun a e=>?_⟩
   cases e
   exact ⟨o,I.kIn _ o hk,hd⟩
  ·have z:∃ o,s.heap.get? p=some o∧o.ExactDict:=by
    rcases hk with ⟨kvs,hk⟩ | ⟨kvs,hk⟩
    ·obtain ⟨_,_,_,_,o,_,_,e,ex,_⟩:=I.hok p _ hk
     exact ⟨o,e,ex⟩
    ·obtain ⟨_,_,_,_,o,_,_,e,ex,_⟩:=I.hok p _ hk
     exact ⟨o,e,ex⟩
   obtain ⟨o,e,ex⟩:=z
   refine ⟨⟨o,e,ex.1⟩,fun a e2=>?_⟩
   cases e2
   exact ⟨o,e,ex.2.1⟩
  ·obtain ⟨o,_,_,_,e,ex,_⟩:=I.hok p _ hk
   refine ⟨⟨o,e,ex.1⟩,fun a e2=>?_⟩
   cases e2
   exact ⟨o,e,ex.2.1⟩
 | _=>exact False.elim ty
def tBM0 (K:PySem.W.Frag) (T:String) (r:V→List V→Hp→VK→Prop) (to:TE):TE:=fun σ H Q=>to σ H fun x H1=>tyV K T x H1∧r x [] H1 Q
def tBM (K:PySem.W.Frag) (T:String) (r:V→List V→Hp→VK→Prop) (to:TE) (t:TA):TE:=fun σ H Q=>to σ H fun x H1=>tyV K T x H1∧t σ H1 fun xs H2=>r x xs H2 Q
variable {o e:Expr} {es:List Expr} {to:TE} {t:TA} {name:Str} {apos cpos:Pos} {T id:String} {r:V→List V→Hp→VK→Prop}
theorem Yf0 (pa:PlainAttrs T) (slot:Slot T name id) (hty:typeOf (.builtin id)=pure (.type "method_descriptor")) (hm:MtR X id r) (ho:PE X o to)
  (hbase:attributeBase o name X.env (eval o X.env)=eval o X.env) (hline:(apos.endLine==cpos.line)=true):PE X (.Call (.Attribute o name apos) [] [] cpos) (tBM0 X.K T r to):=by
 intro pins s σ H Q I h
 refine wpAny_Call_method0_late hbase hline (thn (ho pins s σ H _ I h) fun v s1 ⟨x,H1,I1,r1,ty,q1⟩=>?_)
 obtain ⟨h1,h2⟩:=Yc4 I1 r1 ty
 exact ⟨T,id,pa,slot,hty,h1,h2,Calls.callWith_builtin rfl (PySem.evalArgs_none (hm pins s1 σ H1 x [] v [] Q I1 r1 .nil q1))⟩
theorem WX (pa:PlainAttrs T) (slot:Slot T name id) (hty:typeOf (.builtin id)=pure (.type "method_descriptor")) (hm:MtR X id r) (ho:PE X o to) (ha:PA X (e::es) t)
  (hbase:attributeBase o name X.env (eval o X.env)=eval o X.env)
  (hfew:((backTo cpos (starEach (e::es) X.env)).all (fun x => !x.1)&&(backToKw cpos (keywordEach [] X.env)).all (fun x=>x.1.isSome)
   && decide ((e::es).length+([]:List Keyword).length+(if ([]:List Keyword).isEmpty then 0 else 1)<30))=true)
  (hline:(apos.endLine==cpos.line)=true) (hs:starEach (e::es) X.env=(false,eval e X.env)::starEach es X.env) (hplain:(backTo cpos (starEach es X.env)).any (·.1)=false) :
  PE X (.Call (.Attribute o name apos) (e::es) [] cpos) (tBM X.K T r to t):=by
 intro pins s σ H Q I h
 refine wpAny_Call_method_late hbase hfew hline rfl (thn (ho pins s σ H _ I h) fun v s1 ⟨x,H1,I1,r1,ty,q1⟩=>?_)
 obtain ⟨h1,h2⟩:=Yc4 I1 r1 ty
 refine ⟨T,id,pa,slot,hty,h1,h2,?_⟩
 have hA:=ha cpos pins s1 σ H1 _ I1 q1
 rw [hs] at hA ⊢
 refine Calls.callWith_builtin (by show (false||(backTo cpos (starEach es X.env)).any (·.1))=false;rw [hplain]<;>rfl) (Calls.evalArgs_plain ?_)
 exact thn hA fun us s2 ⟨vs,H2,I2,r2,q2⟩=>hm pins s2 σ H2 x vs v us Q I2 r1 r2 q2
/- xs.append(e),list.index on a module's tuple .. are MtR facts of 06m -/
end
end L2
namespace L2
open PySem PySem.Spec PyProof.Rows
def MtM (X:Cx) (id:String) (r:V→List V→Hp→VK→Prop):Prop :=
 ∀ (pins:List (Addr×Obj)) (s:Shared) (σ:St) (H:Hp) (x:V) (xs:List V) (v:Value) (us:List Value) (Q:VK),Inv X pins σ H s→Yz x v→Yp xs us→r x xs H Q →
  wpAny (model X.prog X.w) X.A (call (.builtin id) (v::us)) (EP X pins σ Q) X.xe s
theorem Yp.one:∀ {x:V} {us:List Value},Yp [x] us→∃ u,us=[u]∧Yz x u
 | _,_,.cons r .nil=>⟨_,rfl,r⟩
section
variable {X:Cx} {pins:List (Addr×Obj)} {σ:St} {H:Hp} {s:Shared} {l b:Addr} {xs ys zs:List V}
theorem Inv.lset {its its':List Value} {n:Nat} {f:Array Value→Array Value} {t':Nat} (I:Inv X pins σ H s) (hH:H l=some (.lst xs))
  (e:s.heap.get? l=some { cls := .type "list",data := .seq its.toArray n }) (hf:f its.toArray=its'.toArray) (hv:Yp ys its') (hz:ys.length≤sizeLine) :
  Inv X pins σ (upd H l (.lst ys)) { s with heap:=s.heap.update l (Obj.mapSeq f),toks:=t' }:=by
 have q:=PySem.IsL.update e f
 rw [hf] at q
 refine I.write (x:=l) (e:=l) (by rw [hH];exact trivial) (.inl rfl) (fun b' u hb hu=>(Heap.get?_update_other s.heap (Obj.mapSeq f) (Ne.symm hb)).trans hu) ⟨_,q⟩ ?_
 exact ⟨hz,its',_,hv,q⟩
theorem Inv.lnew {its:List Value} {t':Nat} (I:Inv X pins σ H s) (hv:Yp ys its) (hz:ys.length≤sizeLine) :
  Inv X pins σ (upd H s.heap.objs.size (.lst ys)) { s with heap:=s.heap.push { cls := .type "list",data := .seq its.toArray },toks:=t' } :=
 I.laid (fun _ _ q=>Heap.get?_push_of_some _ q) (Nat.le_refl _) ⟨hz,its,0,hv,Heap.get?_push_size _ rfl⟩
theorem Inv.lstM (I:Inv X pins σ H s) (hH:H l=some (.lst xs)):xs.length≤sizeLine∧∃ (its:List Value) (n:Nat),Yp xs its∧xs.length=its.length∧s.heap.get? l=some { cls := .type "list",data := .seq its.toArray n }:=by
 obtain ⟨z,its,n,r,e⟩:=I.hok l _ hH
 exact ⟨z,its,n,r,r.length,e⟩
end
section
variable {X:Cx}
inductive AppQ (H:Hp) (l:Addr) (Q:List V→Prop):Prop
 | mk (xs:List V) (h:H l=some (.lst xs)) (hz:xs.length<sizeLine) (q:Q xs)
def UU:V→List V→Hp→VK→Prop:=fun x vs H Q=>kR x fun l=>k1 vs fun y=>AppQ H l fun xs=>Q .non (upd H l (.lst (xs++[y])))
theorem Xn:MtM X "list.append" UU:=by
 intro pins s σ H x vs v us Q I rx rv h
 obtain ⟨l,rfl,h1⟩:=Vj.mp h
 obtain ⟨y,rfl,xs,hH,hz,q⟩:=k1_e h1
 cases rx
 obtain ⟨u,rfl,ru⟩:=rv.one
 obtain ⟨z,its,n,r,hl,e⟩:=I.lstM hH
 refine call_meets F.slot_list_append ⟨_,e,rfl⟩ F.entry_list_append (F.args_list_append_2 _ _) (PySem.list_append l its.toArray n u (by rw [List.size_toArray];omega)) ⟨e,?_⟩
 refine ⟨.non,_,I.lset (its':=its++[u]) hH e (by simp) (r.append (.cons ru .nil)) ?_,rfl,q⟩
 rw [List.length_append,List.length_singleton]
 omega
def Yad:V→List V→Hp→VK→Prop:=fun x vs H Q=>∃ l xs,x = .ref l∧vs=[]∧H l=some (.lst xs)∧Q .non (upd H l (.lst xs.reverse))
inductive CatQ (H:Hp) (l b:Addr) (Q:List V→List V→Prop):Prop
 | mk (xs:List V) (h:H l=some (.lst xs)) (zs:List V) (h':H b=some (.lst zs)) (hz:xs.length+zs.length≤sizeLine) (q:Q xs zs)
def rCat:R2:=fun x y H Q=>kR x fun l=>kR y fun b=>CatQ H l b fun xs zs=>∀ p,H p=none→Q (.ref p) (upd H p (.lst (xs++zs)))
end
section
variable {prog:Program} {w:World} {A:Around} {E:Value→Shared→Prop} {s:Shared}
end
section
variable {X:Cx}
end
end L2
namespace Att
open PySem PySem.W PySem.Calls PyProof.Rows
theorem Ux {P:Params} {h:Heap}:∀ (ns:List Int) (vs:List Value),WellAll P h vs (ns.map WData.int)→IntsAre vs ns:=by
 intro ns
 induction ns with
 | nil =>
  intro vs w
  rw [List.map_nil] at w
  cases w
  exact .nil
 | cons n ns ih =>
  intro vs w
  rw [List.map_cons] at w
  cases w with
  | cons a b =>
   cases a
   exact .cons _ _ (ih _ b)
theorem Yc5 {l:OpenLaw} {n:Nat} (hn:l.most=some n) {P:Params} {h:Heap} {args:List WData} {vals:List Value}
  (hpre:l.row.toRowW.claim.pre args=true) (hwl:WellAll P h vals args) :
  ∃ a vs ns,vals=[Value.ref a]∧args=[WData.list (ns.map WData.int)]∧h.get? a=some { cls := .type "list",data := .seq vs.toArray }∧IntsAre vs ns∧ns.length≤n:=by
 have hsh:WShape.hasAll [] args [.list .int]=true:=(pre_splitW hpre).1
 have hc:l.pre.holds [] { args:=args }=true:=(pre_splitW hpre).2
 obtain ⟨d,r,rfl,h1,h2⟩:=hasAllW_cons hsh
 obtain rfl:=hasAllW_nil h2
 obtain ⟨xs,rfl,h3⟩:=hasW_list h1
 obtain ⟨ns,rfl⟩:=items_int h3
 have hlen:ns.length≤n:=by
  unfold OpenLaw.pre at hc
  have h4:(WTm.not (.lt (.lit (.int (n:Int))) (.len (.arg 0)))).holds [] { args:=[.list (ns.map .int)] }=true:=by
   have h4:=(holds_andW hc).1
   rw [hn] at h4
   exact h4
  have h5:=condW_of h4 (w_not (w_lt w_lit (w_len_list (w_arg rfl))))
  rw [List.length_map] at h5
  refine Nat.le_of_not_lt fun q=>?_
  have q':(n:Int)<((ns.length:Nat):Int):=by omega
  first
   | (rw [decide_eq_true q'] at h5;exact absurd h5 (by decide))
   | (simp at h5;omega)
 cases hwl with
 | cons w1 w2 =>
  cases w2
  cases w1 with
  | list ho hall=>exact ⟨_,_,ns,rfl,rfl,ho,Ux ns _ hall,hlen⟩
theorem Yc6 (l:OpenLaw) (args:List WData):l.row.toRowW.claim.post args (.bool true) args=true :=
 postW_of (r:=l.row.toRowW) (X:=(true==true))
  (show WShape.has [] (.bool true) .bool=true by first | rfl | decide | simp [WShape.has,WShape.arms,WShape.armsAll])
  (show (WTm.eq .res (.lit (.bool true))).value [] { args:=args,res:=some (.bool true),after:=args }=some (.bool (true==true)) from w_eq_bool (w_res rfl) w_lit) rfl
theorem attach_call {l:OpenLaw} {n:Nat} {q:Program} {loose:List Str} {XP:(Str→Option Value)→Heap→Prop} {YP:World→Heap→Prop} {d:DefRec}
  (hn:l.most=some n) (hdf:d.params.defaults=[])
  (call:∀ (w:World) (s₀ s₁:Shared) (mg mb:Str→Option Value) (fa:Addr) (o:Obj) (pm cd doc:Value) (a:Addr) (vs:List Value) (ns:List Int),
   Ground q loose [] XP w s₀ mg mb s₁.heap→YP w s₁.heap →
   s₁.heap.get? fa=some o→o.data = .func (docDef d.name d.params d.body d.scope pm cd doc)→s₁.heap.CodeRec cd d.name→mg d.name=some (.ref fa) →
   s₁.heap.get? a=some { cls := .type "list",data := .seq vs.toArray }→IntsAre vs ns→ns.length≤n→s₁.gens=#[] →
   codeAny (model l.prog w) callerA (.call (.ref fa) ⟨[.ref a],[]⟩) (fun r s'=>r = .ok (.ret (.bool true))∧OldK s₁.heap s'.heap∧s'.os=s₁.os∧AllBare s'.gens) s₁) :
  WalkO q loose XP YP l.row.toRowW d [] (fun f vs=>PySem.call f vs):=by
 intro w s₀ s₁ mg mb G Y fa o pm cd doc dV kV ho hd hcd hD hmg hg args vals as hpre hlay hrd hwl hlo
 obtain rfl:dV = .none:=Dflts.none hD hdf
 obtain rfl:kV = .none:=Dflts.noKw hD
 obtain ⟨a,vs,ns,rfl,rfl,hobj,hints,hlen⟩:=Yc5 hn hpre hwl
 refine enter_call (codeAny_mono (call w s₀ s₁ mg mb fa o pm cd doc a vs ns G Y ho (fd_plain hd) hcd hmg hobj hints hlen hg) fun r s' hq=>?_)
 obtain ⟨rfl,h2,h3,h4⟩:=hq
 exact ⟨.inl ⟨.bool true,.bool true,[],rfl,fun _=>rfl,.bool true,Yc6 l _,fun _=>⟨List.Pairwise.nil,fun _ hm=>(nomatch hm)⟩⟩,h2,h3,h4⟩
section
variable {prog:Program} {w:World} {A:Around} {E:Value→Shared→Prop} {s:Shared} {K:Frag}
def ledger (h:Heap) (L d:Addr):List (Addr×Obj):=(List.range h.objs.size).filterMap fun a=>if a=L∨a=d then none else (h.get? a).map fun o=>(a,o)
end
end Att
namespace L2
open PySem PySem.Spec PyProof.Rows
theorem Qt:∀ {vs:List Value} {ns:List Int},IntsAre vs ns→Yp (ns.map V.int) vs
 | _,_,.nil => .nil
 | _,_,.cons n t h => .cons ⟨t,rfl⟩ (Qt h)
end L2
namespace L2
open PySem PySem.Spec PyProof.Rows
end L2
namespace L2
open PySem PySem.Spec PyProof.Rows
def YE (s:Stmt) (j:Nat):Stmt:=match s with
 | .ClassDef _ _ _ body _ _ _ _ _ _ _=>body.getD j (.Pass ⟨0,0,0,0⟩)
 | _ => .Pass ⟨0,0,0,0⟩
def YT (s:Stmt):Arguments:=match s with
 | .FunctionDef _ a _ _ _ _ _ _ _ _=>a
 | _=>{ posonlyargs:=[],args:=[],vararg:=none,kwonlyargs:=[],kw_defaults:=[],kwarg:=none,defaults:=[] }
def YM (s:Stmt):List Stmt:=match s with
 | .FunctionDef _ _ b _ _ _ _ _ _ _=>b
 | _=>[]
def Yi (s:Stmt):Scope:=match s with
 | .FunctionDef _ _ _ _ _ _ sc _ _ _=>sc
 | _=>{ kind := .function,names:=[],isGenerator:=false,isCoroutine:=false }
abbrev CX0:CXT:=fun _ _ _ _ _ _=>False
abbrev E0:XK:=fun _ _ _=>False
theorem WY {X:Cx}:WM CX0 X E0:=fun _ _ _ _ _ _ _ h=>h.elim
structure Fun (K:PySem.W.Frag) (x qual:Str) (st:Stmt) (f:Addr) (fd:FuncData):Prop where
 ex:∃ (oc:Value) (od:Option Addr) (kV doc pm:Value) (an:Option Addr) (cdv ct:Value) (osl:Array (Option Value)),
  fd=PySem.W.fnOf x qual (YT st) (YM st) (Yi st) .none kV doc pm an cdv ct∧K.lookup f=some ⟨oc,od,.func fd,osl⟩∧PySem.W.codeIn K cdv qual=true
 kp:PySem.W.keepIn K (.ref f)=true
section
variable {P:Program} {w:World} {K:PySem.W.Frag} {mg:Str→Option Value} {base:Heap}
theorem Fun.ok {x qual:Str} {st:Stmt} {f:Addr} {fd:FuncData} {N ps:List Str} {k:Nat} {sp:Sp} (F:Fun K x qual st f fd) (S:FnScope N ps (Yi st)) (len:∀ vs H Q E,sp vs H Q E→vs.length=ps.length)
  (hbody:∀ (cdv:Value) (A:Around) (outer:List Env) (s:Shared) (H:Hp) (vs:List V) (Q:VK) (E:XK),Room k (A.deeper (envOfC qual (Yi st) s.heap.objs.size f cdv))→sp vs H Q E →
   ∃ t,PSs (VJ CX0 P w K mg base N qual (Yi st) f cdv A outer s H E).nox (YM st) t∧t { nx:=fun _ H'=>Q .non H',rt:=Q } (XQ N vs) H):FnOk P w K mg base CX0 (k+1) f fd ps sp:=by
 obtain ⟨oc,od,kV,doc,pm,an,cdv,ct,osl,rfl,lk,hcd⟩:=F.ex
 refine QL lk hcd S len fun A outer s H vs Q E hr hsp=>?_
 obtain ⟨t,h,q⟩:=hbody cdv A outer s H vs Q E hr hsp
 exact ⟨t,h.nox,q⟩
theorem Fun.binds {x qual:Str} {st:Stmt} {f:Addr} {fd:FuncData} {ps:List Str} (F:Fun K x qual st f fd)
  (h:∀ (kV doc pm:Value) (an:Option Addr) (cdv ct:Value) (us:List Value),us.length=ps.length→bindArgs (PySem.W.fnOf x qual (YT st) (YM st) (Yi st) .none kV doc pm an cdv ct) ⟨us,[]⟩=pure (ps.zip us)):YY K fd ps []:=by
 obtain ⟨oc,od,kV,doc,pm,an,cdv,ct,osl,rfl,lk,hcd⟩:=F.ex
 exact .all (h kV doc pm an cdv ct)
theorem VM {x qual:Str} {st:Stmt} {f:Addr} {oc:Value} {od an:Option Addr} {osl:Array (Option Value)} {kV doc pm cdv ct:Value} (l:K.lookup f=some ⟨oc,od,.func (PySem.W.fnOf x qual (YT st) (YM st) (Yi st) .none kV doc pm an cdv ct),osl⟩)
  (c:PySem.W.codeIn K cdv qual=true) (k:PySem.W.keepIn K (.ref f)=true):Fun K x qual st f (PySem.W.fnOf x qual (YT st) (YM st) (Yi st) .none kV doc pm an cdv ct):=⟨⟨oc,od,kV,doc,pm,an,cdv,ct,osl,rfl,l,c⟩,k⟩
end
section
variable {X:Cx}
theorem pv (i:Nat) {x:Str} {pos:Pos} (hN:X.N[i]?=some x:=by rfl) (hv:Vis X.env.scope x:=by first | exact .inl rfl | exact .inr (.inl rfl) | exact .inr (.inr rfl)) (hd:(x==("__debug__":Str))=false:=by decide)
  (hcd:(x==("__classdict__":Str))=false:=by decide):PE X (.Name x pos) (Vk i):=YcQ hN hv hd hcd
end
theorem iteF {A B:Prop} (h:B):if false=true then A else B:=by
 rw [if_neg Bool.false_ne_true]
 exact h
theorem iteT {A B:Prop} (h:A):if true=true then A else B:=by
 rw [if_pos rfl]
 exact h
theorem UV {c A B:Prop} [Decidable c] (h1:c→A) (h2:¬ c→B):if c then A else B:=by
 by_cases h:c
 ·rw [if_pos h]
  exact h1 h
 ·rw [if_neg h]
  exact h2 h
def Yk (H H':Hp):Prop:=∀ b o,H b=some o→H' b=some o
theorem Yk.refl (H:Hp):Yk H H:=fun _ _ h=>h
theorem Yk.trans {H H1 H2:Hp} (a:Yk H H1) (b:Yk H1 H2):Yk H H2:=fun c o h=>b c o (a c o h)
theorem Yk.free {H H':Hp} (e:Yk H H') {l:Addr} (h:H' l=Option.none):H l=Option.none:=by
 cases q:H l with
 | none=>rfl
 | some o =>
  rw [e l o q] at h
  cases h
theorem Yk.seq {K:PySem.W.Frag} {H H':Hp} {a:Addr} {xs:List V} (e:Yk H H') (h:SqL K H a xs):SqL K H' a xs:=by
 rcases h with (h | ⟨o,h⟩) | h
 ·exact .inl (.inl (e _ _ h))
 ·exact .inl (.inr ⟨o,e _ _ h⟩)
 ·exact .inr h
end L2
namespace L2
open PySem PySem.Spec PyProof.Rows
section
variable {κ:Type} [DecidableEq κ]
def valV (kvs:List (κ×V)) (k:κ):Option V:=(kvs.find? fun kv=>decide (kv.1=k)).map (·.2)
def putK (kvs:List (κ×V)) (k:κ) (v:V):List (κ×V) :=
 if (kvs.any fun kv=>decide (kv.1=k))=true then kvs.map (fun kv=>if kv.1=k then (kv.1,v) else kv) else kvs++[(k,v)]
end
theorem YeN {P:Program} {w:World} {k:Key} {u:Value} (r:Yz (kV k) u):(XL P w).is k u=true:=by
 cases k with
 | inl i=>obtain ⟨t,e⟩:=(show ∃ t,u=Value.int i t from r);subst e;exact YaU P w i t
 | inr x=>obtain ⟨t,e⟩:=(show ∃ t,u=Value.str x t from r);subst e;exact YaV P w x t
section
variable {P:Program} {w:World} {H:Hp} {h:Heap} {a:Addr}
end
def DGet (H:Hp) (a:Addr) (y:V) (r:Option V):Prop :=
 (∃ kvs k,Rd H a (.dK kvs)∧y=kV k∧r=valV kvs k)∨∃ kvs k b,Rd H a (.dT kvs)∧y = .ref b∧H b=some (.tup (k.map kV))∧r=valV kvs k
def DPut (H:Hp) (a:Addr) (y v:V) (H':Hp):Prop :=
 (∃ kvs k,H a=some (.dK kvs)∧y=kV k∧kvs.length<sizeLine∧H'=upd H a (.dK (putK kvs k v))) ∨
 ∃ kvs k b,H a=some (.dT kvs)∧y = .ref b∧H b=some (.tup (k.map kV))∧kvs.length<sizeLine∧H'=upd H a (.dT (putK kvs k v))
section
variable {X:Cx} {pins:List (Addr×Obj)} {σ:St} {H:Hp} {s:Shared} {a:Addr} {y v:V} {u r:Value} {o:Option V} {A:Around} {E:Value→Shared→Prop}
theorem Inv.big (I:Inv X pins σ H s):sysModules<s.heap.objs.size:=by
 have h:mainGlobals<s.heap.objs.size:=(I.mod.glob.keeps I.bk).lt
 exact Nat.lt_trans (by decide) h
theorem Ybe {h':Heap} {t':Nat} {ob:HO} (I:Inv X pins σ H s) (mu:Mut (H a)) (hs:Heap.SameBut a s.heap h') (he:∃ q,h'.get? a=some q) (new:YR X.prog X.w (upd H a ob) h' a ob) :
  Inv X pins σ (upd H a ob) { s with heap:=h',toks:=t' } :=
 I.write (x:=a) (e:=a) mu (.inl rfl) (fun b q hb z=>(hs.2 b hb).trans z) he new
end
section
variable {X:Cx} {pins:List (Addr×Obj)} {σ:St} {H:Hp} {s:Shared} {a:Addr} {kvs:List (Key×V)} {k:Key} {u:Value} {A:Around} {E:Value→Shared→Prop}
end
def NoSl (i:Expr):Prop:=∀ ov iv,subscripted i false ov iv=operate [ov,iv] (getItem ov iv)
theorem Yfj {prog:Program} {w:World} {A:Around} {E:Value→Shared→Prop} {s:Shared} {env:Env} {value slice:Expr} {pos:Pos} {T id:String} {Q:Value→Shared→Prop}
  (hl:typeLookup (.type T) "__getitem__"=pure (some (.builtin id))) (hs:NoSl slice)
  (h:wpAny (model prog w) A (eval value env) (fun o s₁=>wpAny (model prog w) A (eval slice env) (fun i s₂=>s₂.TypeIs o T∧wpAny (model prog w) A (getItem o i) Q E s₂) E s₁) E s) :
  wpAny (model prog w) A (eval (.Subscript value slice pos) env) Q E s:=by
 refine Subscript_ (wpAny_mono h (fun o s₁ h₁=>wpAny_mono h₁ (fun i s₂ h₂=>?_) fun _ _ x=>x) fun _ _ x=>x)
 obtain ⟨hT,h₂⟩:=h₂
 unfold subscriptTail
 refine wpAny_bind ?_
 rw [getitemInPython_of_ne hT.not_modules]
 refine wpAny_bind (wpAny_specialOf hT hl ?_)
 have fin:wpAny (model prog w) A (subscripted slice false o i) (fun r s₃=>wpAny (model prog w) A (letTemporaryGo value o r >>= fun _=>pure r) Q E s₃) E s₂:=by
  rw [hs o i]
  exact wpAny_operating (wpAny_mono h₂ (fun r s₃ h₃=>wpAny_bind (wpAny_letTemporaryGo (wpAny_pure h₃))) fun _ _ x=>x)
 first
  | exact wpAny_pure (wpAny_bind fin)
  | exact wpAny_bind (wpAny_pure (wpAny_bind fin))
  | exact wpAny_bind fin
def YeO (td ty:TE):TE:=fun σ H Q=>td σ H fun x H1=>ty σ H1 fun y H2=>∃ a v,x = .ref a∧DGet H2 a y (some v)∧Q v H2
def YeP (td ty tv:TE):TS:=fun D σ H=>tv σ H fun v H1=>td σ H1 fun x H2=>ty σ H2 fun y H3=>∃ a H4,x = .ref a∧DPut H3 a y v H4∧D.nx σ H4
section
variable {X:Cx} {o i e value:Expr} {pos pos' tpos:Pos} {td ty tv:TE}
end
def Yc7:TE:=fun _ H Q=>∀ p,H p=none→Q (.ref p) (upd H p (.dT []))
section
variable {X:Cx} {pos:Pos}
end
structure M2 (X:Cx) (o:Expr) (m:Str) (apos:Pos) (e f:Expr) (cpos:Pos):Prop where
 base:attributeBase o m X.env (eval o X.env)=eval o X.env
 few:((backTo cpos (starEach [e,f] X.env)).all (fun x => !x.1)&&(backToKw cpos (keywordEach [] X.env)).all (fun x=>x.1.isSome)
  && decide (([e,f]:List Expr).length+([]:List Keyword).length+(if ([]:List Keyword).isEmpty then 0 else 1)<30))=true
 line:(apos.endLine==cpos.line)=true
 trees:backTo cpos (starEach [e,f] X.env)=[(false,eval e X.env),(false,eval f X.env)]
section
variable {X:Cx} {pins:List (Addr×Obj)} {σ:St} {H:Hp} {s:Shared} {a:Addr} {y d:V} {u r:Value} {o:Option V} {A:Around} {E:Value→Shared→Prop}
end
section
variable {X:Cx} {o e f:Expr} {apos cpos:Pos} {td ty tx:TE}
end
section
variable {X:Cx} {pins:List (Addr×Obj)} {σ:St} {H:Hp} {s:Shared} {a:Addr} {kvs:List (Key×V)} {A:Around} {E:Value→Shared→Prop}
end
section
variable {X:Cx} {pins:List (Addr×Obj)} {σ:St} {H:Hp} {s:Shared} {a:Addr} {y:V} {u:Value} {A:Around} {E:Value→Shared→Prop}
end
end L2
namespace L2
open PySem PySem.Spec PyProof.Rows
theorem WN (env:Env):∀ (names:List (Str×NameKind)) (cs:List (Str×Addr)),(∀ x,(x,NameKind.free)∈names→∃ c,env.cells.lookup x=some c) →
  ∃ cl,(forIn names cs fun (p:Str×NameKind) (cs:List (Str×Addr))=>(if (p.2==NameKind.free)=true then (do let c ← cellOf env p.1;pure (ForInStep.yield ((p.1,c)::cs))) else pure (ForInStep.yield cs):Sem (ForInStep (List (Str×Addr)))))=pure cl ∧
   (∀ x c,cl.lookup x=some c→env.cells.lookup x=some c∨cs.lookup x=some c)∧(∀ x,(x,NameKind.free)∈names→∃ c,cl.lookup x=some c)∧(∀ x c,cs.lookup x=some c→∃ d,cl.lookup x=some d)
 | [],cs,_=>⟨cs,by simp,fun _ _ h => .inr h,(fun _ h=>nomatch h),fun x c h=>⟨c,h⟩⟩
 | (n,k)::r,cs,h=>by
  by_cases hk:k=NameKind.free
  ·subst hk
   obtain ⟨c,hc⟩:=h n (List.mem_cons_self ..)
   obtain ⟨cl,e,a,b,d⟩:=WN env r ((n,c)::cs) (fun x hx=>h x (List.mem_cons_of_mem _ hx))
   have hcell:cellOf env n=pure c:=by unfold cellOf;rw [hc]
   refine ⟨cl,?_,fun x c' hx=>?_,fun x hx=>?_,fun x c' hx=>?_⟩
   ·rw [List.forIn_cons]
    simp only [beq_self_eq_true,if_true,hcell,pure_bind]
    exact e
   ·rcases a x c' hx with q | q
    ·exact .inl q
    ·rw [List.lookup_cons] at q
     by_cases hxn:(x==n)=true
     ·rw [hxn] at q
      have hx':x=n:=by simpa using hxn
      subst hx'
      have:c=c':=by simpa using q
      subst this
      exact .inl hc
     ·rw [Bool.eq_false_iff.mpr hxn] at q
      exact .inr q
   ·rcases List.mem_cons.mp hx with q | q
    ·have hx':x=n:=congrArg Prod.fst q
     subst hx'
     exact d x c (by rw [List.lookup_cons];simp)
    ·exact b x q
   ·have:∃ d',((n,c)::cs).lookup x=some d':=by
     rw [List.lookup_cons]
     by_cases hxn:(x==n)=true
     ·rw [hxn];exact ⟨c,rfl⟩
     ·rw [Bool.eq_false_iff.mpr hxn];exact ⟨c',hx⟩
    obtain ⟨d',hd'⟩:=this
    exact d x d' hd'
  ·obtain ⟨cl,e,a,b,d⟩:=WN env r cs (fun x hx=>h x (List.mem_cons_of_mem _ hx))
   have hkf:(k==NameKind.free)=false:=by simpa using hk
   refine ⟨cl,?_,a,fun x hx=>?_,d⟩
   ·rw [List.forIn_cons]
    simp only [hkf,Bool.false_eq_true,if_false,pure_bind]
    exact e
   ·rcases List.mem_cons.mp hx with q | q
    ·exact absurd (congrArg Prod.snd q).symm hk
    ·exact b x q
theorem Uy (env:Env) (scope:Scope) (h:∀ x,(x,NameKind.free)∈scope.names→∃ c,env.cells.lookup x=some c) :
  ∃ cl,closureFor scope env=pure cl∧(∀ x c,cl.lookup x=some c→env.cells.lookup x=some c)∧(∀ x,(x,NameKind.free)∈scope.names→∃ c,cl.lookup x=some c):=by
 obtain ⟨cl,e,a,b,_⟩:=WN env scope.names [] h
 refine ⟨cl,?_,fun x c hx=>(a x c hx).elim id (fun z=>by simp at z),b⟩
 unfold closureFor
 simp only [bind_pure]
 exact e
def cxC (X:Cx) (scope:Scope) (N':List Str) (cl:List (Str×Addr)) (C:Addr) (s₀:Shared) (H₀:Hp) (fp:List Addr) (pn:List (Addr×Obj)):Cx :=
 { X with N:=N',s₀:=s₀,H₀:=H₀,env:=compEnvC scope cl C X.env,outer:=X.stack,ex:=fp,fn:=fun _=>false,pn:=pn,xe:=fun _ _=>False }
inductive Cap (X:Cx) (scope:Scope):List (Option Nat)→List Str→Prop
 | nil:Cap X scope [] []
 | own {x src N'}:Cap X scope src N'→Cap X scope (none::src) (x::N')
 | cap {x i src N'}:X.N[i]?=some x→scope.names.lookup x=some NameKind.free→(X.env.scope.names.lookup x=some NameKind.cell∨X.env.scope.names.lookup x=some NameKind.free)→Cap X scope src N'→Cap X scope (some i::src) (x::N')
def YD (src:List (Option Nat)) (σ:St):St:=src.map fun o=>match o with | none=>none | some i=>σ.getD i none
theorem Cap.length {X:Cx} {scope:Scope}:∀ {src:List (Option Nat)} {N':List Str},Cap X scope src N'→src.length=N'.length
 | _,_,.nil=>rfl
 | _,_,.own h=>congrArg (·+1) h.length
 | _,_,.cap _ _ _ h=>congrArg (·+1) h.length
theorem Cap.get {X:Cx} {scope:Scope} {σ:St}:∀ {src:List (Option Nat)} {N':List Str},Cap X scope src N'→∀ (j:Nat) (x:Str) (v:V),N'[j]?=some x→(YD src σ)[j]?=some (some v) →
  ∃ i:Nat,X.N[i]?=some x∧σ[i]?=some (some v)∧scope.names.lookup x=some NameKind.free∧(X.env.scope.names.lookup x=some NameKind.cell∨X.env.scope.names.lookup x=some NameKind.free)
 | _,_,.nil,j,x,v,h,_=>by simp at h
 | _,_,.own h,0,x,v,_,e=>by simp [YD] at e
 | _,_,.own h,j+1,x,v,e1,e2=>h.get j x v (by simpa using e1) (by simpa [YD] using e2)
 | _,_,.cap (x:=y) (i:=i) hN hf hk h,0,x,v,e1,e2=>by
  have ex:y=x:=by simpa using e1
  subst ex
  refine ⟨i,hN,?_,hf,hk⟩
  simp only [YD,List.map_cons,List.getElem?_cons_zero,Option.some.injEq] at e2
  rw [List.getD_eq_getElem?_getD] at e2
  cases q:σ[i]? with
  | none=>rw [q] at e2;simp at e2
  | some o=>rw [q] at e2;simp at e2;rw [e2]
 | _,_,.cap hN hf hk h,j+1,x,v,e1,e2=>h.get j x v (by simpa using e1) (by simpa [YD] using e2)
theorem W8 (env:Env) (x:Str):∀ {names:List (Str×NameKind)},
  (names.map fun (n,k)=>if (k==NameKind.free&&env.scope.kind == .function&&env.kindOf n==some .cell) then (n,NameKind.cell) else (n,k)).lookup x =
   (names.lookup x).map fun k=>if (k==NameKind.free&&env.scope.kind == .function&&env.kindOf x==some .cell) then NameKind.cell else k
 | []=>rfl
 | (n,k)::r=>by
  have ih:=@W8 env x r
  rw [List.map_cons]
  dsimp only
  by_cases hx:(x==n)=true
  ·have e:x=n:=by simpa using hx
   subst e
   by_cases hc:(k==NameKind.free&&env.scope.kind == .function&&env.kindOf x==some .cell)=true
   ·rw [if_pos hc,List.lookup_cons,List.lookup_cons,hx]
    simp only [Option.map_some]
    rw [if_pos hc]
   ·rw [if_neg hc,List.lookup_cons,List.lookup_cons,hx]
    simp only [Option.map_some]
    rw [if_neg hc]
  ·have hx':=Bool.eq_false_iff.mpr hx
   by_cases hc:(k==NameKind.free&&env.scope.kind == .function&&env.kindOf n==some .cell)=true
   ·rw [if_pos hc];simp only [List.lookup_cons,hx'];exact ih
   ·rw [if_neg hc];simp only [List.lookup_cons,hx'];exact ih
theorem WZ {names:List (Str×NameKind)} {x:Str} (h:names.lookup x=some NameKind.free):(x,NameKind.free)∈names:=PySem.mem_of_lookup h
section
variable {X:Cx}
theorem Yd2 {scope:Scope} {N':List Str} {src:List (Option Nat)} {cl:List (Str×Addr)} {pins:List (Addr×Obj)} {σ:St} {H:Hp} {s s':Shared} {h':Heap} {tk:Nat} {fp:List Addr} {m:Str→Option Value}
  (hk:scope.kind = .function) (hcell:∀ y∈scope.names,y.2 ≠ .cell) (hcap:Cap X scope src N')
  (a:∀ x c,cl.lookup x=some c→X.env.cells.lookup x=some c) (b:∀ x,(x,NameKind.free)∈scope.names→∃ c,cl.lookup x=some c)
  (I:Inv X pins σ H s) (hf:∀ b∈fp,X9 X pins H b) (hfl:∀ b∈fp,b<s.heap.objs.size) (es':s'={ s with heap:=h',toks:=tk })
  (keep:∀ b o,s.heap.get? b=some o→h'.get? b=some o) (hn:h'.Ns s.heap.objs.size m) :
  Inv (cxC X scope N' cl s.heap.objs.size s H fp (X.pn++pins)) [] (YD src σ) H s':=by
 subst es'
 have kindOf:∀ x,(compEnvC scope cl s.heap.objs.size X.env).kindOf x=(scope.names.lookup x).map fun k=>if (k==NameKind.free&&X.env.scope.kind == .function&&X.env.kindOf x==some .cell) then NameKind.cell else k:=fun x=>W8 X.env x
 have freeOf:∀ x,((compEnvC scope cl s.heap.objs.size X.env).kindOf x=some .cell∨(compEnvC scope cl s.heap.objs.size X.env).kindOf x=some .free)→scope.names.lookup x=some .free:=fun x h=>by
  rw [kindOf] at h
  cases q:scope.names.lookup x with
  | none=>rw [q] at h;simp at h
  | some k =>
   rw [q] at h
   by_cases hkf:k=NameKind.free
   ·rw [hkf]
   ·have hkf':(k==NameKind.free)=false:=by simpa using hkf
    simp only [Option.map_some,hkf',Bool.false_and,Bool.false_eq_true,if_false] at h
    rcases h with h | h
    ·exact absurd (Option.some.inj h) (hcell _ (PySem.mem_of_lookup q))
    ·exact absurd (Option.some.inj h) hkf
 refine ⟨⟨I.ok.mod,hk,I.ok.glob,I.ok.blt,Nat.le_refl _,fun x y c h1 h2=>I.ok.inj x y c (a x c h1) (a y c h2),fun x hx=>b x (WZ (freeOf x hx)),(fun x c z _=>nomatch z),I.ok.hd,I.ok.frames,.inl rfl,fun b' hb=>?_,I.bs,Nat.le_trans I.ok.bsz I.sz,fun b' o e hb=>?_,fun b' hb z=>?_,I.stack,I.stkFree⟩,
  rfl,I.bare,Un.kept keep,⟨m,hn,fun j x v h1 h2 h3=>?_⟩,fun x c h=>?_,I.hok.fresh (Nat.le_refl _),fun x c h=>I.freeC x c (a x c h),fun p hp=>?_,I.hok.kept keep,?_⟩
 ·obtain ⟨f0,f1,f2,f3,f4,f5⟩:=hf b' hb
  exact ⟨Nat.ne_of_lt (hfl b' hb),fun x c h=>f4 x c (a x c h)⟩
 ·obtain ⟨f0,f1,f2,f3,f4,f5⟩:=hf b' hb
  rcases f3 with z | z
  ·exact I.ok.noex b' o e z
  ·exact absurd (Nat.lt_of_lt_of_le (Heap.lt_size e) (Nat.le_trans I.ok.bsz z)) (Nat.lt_irrefl _)
 ·obtain ⟨f0,f1,f2,f3,f4,f5⟩:=hf b' hb
  rcases List.mem_cons.mp (I.stkSub b' z) with e | e
  ·exact f1 e
  ·exact f2 e
 ·obtain ⟨i,e1,e2,e3,e4⟩:=hcap.get j x v h1 h2
  obtain ⟨m0,hn0,hl⟩:=I.loc
  obtain ⟨u,r,l⟩:=hl i x v e1 e2 (by rcases e4 with e4 | e4;exact .inr (.inl e4);exact .inr (.inr e4))
  refine ⟨u,r,?_⟩
  rcases l with ⟨l,_⟩ | ⟨k,c,e,z⟩
  ·have l':X.env.scope.names.lookup x=some NameKind.local:=l
   rcases e4 with e4 | e4<;>(rw [e4] at l';cases l')
  ·refine .inr ⟨?_,?_⟩
   ·show (compEnvC scope cl s.heap.objs.size X.env).kindOf x=some .cell∨(compEnvC scope cl s.heap.objs.size X.env).kindOf x=some .free
    rw [kindOf,e3]
    simp only [Option.map_some]
    split
    ·exact .inl rfl
    ·exact .inr rfl
   ·obtain ⟨c',hc'⟩:=b x (WZ e3)
    have:=a x c' hc'
    rw [e] at this
    cases this
    obtain ⟨o,ho,hd⟩:=z
    exact ⟨c,hc',o,keep _ _ ho,hd⟩
 ·obtain ⟨v,o,ho,hd⟩:=I.cell x c (a x c h)
  exact ⟨v,o,keep _ _ ho,hd⟩
 ·have hp':p∈X.pn++pins:=by simpa [cxC] using hp
  obtain ⟨e,n,ne,nf,d⟩:=I.pin p hp'
  refine ⟨keep _ _ e,n,Nat.ne_of_lt (Heap.lt_size e),fun z=>?_,d⟩
  rcases List.mem_cons.mp (I.stkSub p.1 z) with q | q
  ·exact ne q
  ·exact nf q
 ·show (YD src σ).length=N'.length
  rw [← hcap.length]
  simp [YD]
end
end L2
namespace L2
open PySem PySem.Spec PyProof.Rows
section
variable {prog:Program} {w:World} {A:Around} {R:Result→Shared→Prop} {s:Shared}
theorem Ycc {elt tg iter:Expr} {ifs:List Expr} {scope:Scope} {pos:Pos} {it acc:Value} {env:Env} (J:Nat→Shared→Prop)
  (turn:∀ n s,J n s→wpAny (model prog w) A (pyNext it) (fun r s₁=>match r with
    | none=>R (.ok .next) s₁
    | some v=>wpAny (model prog w) A (letOwnedTupleGo tg it v) (fun _ z₁=>wpAny (model prog w) A (assign tg env v) (fun _ s₂ =>
      wpAny (model prog w) A (forIn ifs true fun c r=>if r=true then do let ok ← isTrue c env (eval c env);pure (ForInStep.yield ok) else pure (ForInStep.yield r))
       (fun ok s₃=>if ok=true then wpAny (model prog w) A (eval elt env) (fun x s₄=>wpAny (model prog w) A (call (.builtin "list.append") [acc,x]) (fun _ s₅=>∃ m,m<n∧J m s₅) (fun _ _=>False) s₄) (notedBy (model prog w) A env fun e s'=>R (.error e) s') s₃
        else ∃ m,m<n∧J m s₃) (fun _ _=>False) s₂) (fun _ _=>False) z₁) (fun _ _=>False) s₁) (fun _ _=>False) s)
  (n:Nat) (h:J n s):codeAny (model prog w) A (.compLoop (.ListComp elt [⟨tg,iter,ifs,0⟩] scope pos) 0 it acc env) R s:=by
 refine codeAny_loop rfl J (fun n s hJ=>?_) n h
 show wpAny _ A (Sem.onRaise (compTurn (.ListComp elt [⟨tg,iter,ifs,0⟩] scope pos) 0 it acc env) (fun x=>do noteFrame x env;theTreesLotGoes x)) _ _ s
 refine wpAny_noted ?_
 rw [compTurn_list]
 have no:∀ {E:Value→Shared→Prop},∀ (e:Value) (s':Shared),False→E e s':=fun _ _ f=>f.elim
 refine wpAny_bind (wpAny_standAt (wpAny_bind (wpAny_mono (turn n s hJ) (fun r s₁ h₁=>?_) no)))
 cases r with
 | none=>exact wpAny_pure h₁
 | some v =>
  refine wpAny_bind (wpAny_mono h₁ (fun _ z₁ hz=>?_) no)
  refine wpAny_bind (wpAny_mono hz (fun _ s₂ h₂=>wpAny_bind (wpAny_mono h₂ (fun ok s₃ h₃=>?_) no)) no)
  cases ok with
  | false=>exact wpAny_pure ⟨rfl,h₃⟩
  | true =>
   exact wpAny_bind (wpAny_bind (wpAny_mono h₃ (fun x s₄ h₄=>wpAny_bind (wpAny_mono h₄ (fun _ s₅ h₅=>wpAny_pure (wpAny_pure ⟨rfl,h₅⟩)) no)) fun _ _ z=>z))
end
def PTs (X:Cx) (ifs:List Expr) (t:TT):Prop :=
 ∀ (pins:List (Addr×Obj)) (s:Shared) (σ:St) (H:Hp) (Q:Bool→Hp→Prop),Inv X pins σ H s→t σ H Q →
  wpAny (model X.prog X.w) X.A (forIn ifs true fun c r=>if r=true then do let ok ← isTrue c X.env (eval c X.env);pure (ForInStep.yield ok) else pure (ForInStep.yield r)) (TP X pins σ Q) X.xe s
def XT:TT:=fun _ H Q=>Q true H
theorem Xb {X:Cx}:PTs X [] XT:=fun _ _ _ H _ I h=>wpAny_tests_nil ⟨H,I,h⟩
theorem UW {X:Cx} {c:Expr} {t:TT} (h:PT X c t):PTs X [c] t:=fun pins s σ H Q I q=>wpAny_tests_one (h pins s σ H Q I q)
def LC (src:List (Option Nat)) (J:It) (g:TG) (tt:TT) (te:TE) (σ:St) (H1:Hp) (Q:VK) (D:Addr):Prop:=∃ W:Nat→Nat→List V→St→Hp→Prop,(∃ m,W 0 m [] (YD src σ) (upd H1 D (.lst []))) ∧
 ∀ i m ys σ' H2,W i m ys σ' H2→H2 D=some (.lst ys)∧((J.stop i H2∧Q (.ref D) H2)∨(J.go i H2∧∃ N:List V→St→Hp→Prop,(∀ ys' σ3 H3,N ys' σ3 H3→∃ m',m'<m∧W (i+1) m' ys' σ3 H3)∧∀ x H3,J.yld i H2 x H3→g x σ' H3 fun σ2 H4=>tt σ2 H4 fun b H5 =>
  if b=true then te σ2 H5 fun y H6=>H6 D=some (.lst ys)∧ys.length<sizeLine∧N (ys++[y]) σ2 (upd H6 D (.lst (ys++[y])))
  else N ys σ2 H5))
def tLC (src:List (Option Nat)) (wi:TI) (g:TG) (tt:TT) (te:TE):TE:=fun σ H Q=>wi σ H fun J H1=>∀ D,H1 D=none→LC src J g tt te σ H1 Q D
section
variable {X:Cx}
theorem Yae {elt tg iter:Expr} {ifs:List Expr} {scope:Scope} {pos:Pos} {src:List (Option Nat)} {N':List Str} {g:TG} {tt:TT} {te:TE} {cl:List (Str×Addr)} {pins:List (Addr×Obj)} {σ:St} {Q:VK} {itv:Value} {s2:Shared} {Po:Value→Addr→Result→Shared→Prop} {Z:Addr→Shared→Hp→List Addr→List (Addr×Obj)→Value→Shared→Prop}
  (hcap:Cap X scope src N') (hc:X.calm=true) (hg:∀ C s₀ H₀ fp pn,PG (cxC X scope N' cl C s₀ H₀ fp pn) tg g) (ht:∀ C s₀ H₀ fp pn,PTs (cxC X scope N' cl C s₀ H₀ fp pn) ifs tt)
  (he:∀ C s₀ H₀ fp pn,PE ((cxC X scope N' cl C s₀ H₀ fp pn).wish (Z C s₀ H₀ fp pn)) elt te) (hk:scope.kind = .function) (hcell:∀ y∈scope.names,y.2 ≠ .cell) (a:∀ x c,cl.lookup x=some c→X.env.cells.lookup x=some c) (b:∀ x,(x,NameKind.free)∈scope.names→∃ c,cl.lookup x=some c)
  (h2:PIE X pins σ tg (fun J H1=>∀ D,H1 D=none→LC src J g tt te σ H1 Q D) itv s2)
  (done:∀ (D C:Addr) (s6:Shared) (H5:Hp),(∀ h',Heap.SameBut C s6.heap h'→Inv X pins σ H5 { s6 with heap:=h' })→(∃ m,s6.heap.Ns C m)→H5 C=none→(∀ {H':Hp},H' C=none→X9 X pins H' C)→Q (.ref D) H5→Po (.ref D) C (.ok .next) s6)
  (gone:∀ (D:Addr) (s3:Shared) (H3:Hp) (fp:List Addr),Inv X pins σ H3 s3→(∀ {H':Hp} {s':Shared} {σ':St} {pins':List (Addr×Obj)},Inv (cxC X scope N' cl s3.heap.objs.size s3 H3 fp (X.pn++pins)) pins' σ' H' s'→∀ h',Heap.SameBut s3.heap.objs.size s'.heap h'→Inv X pins σ H' { s' with heap:=h' }) →
   ∀ e s',Z s3.heap.objs.size s3 H3 fp (X.pn++pins) e s'→notedBy (model X.prog X.w) X.A (compEnvC scope cl s3.heap.objs.size X.env) (fun e s'=>Po (.ref D) s3.heap.objs.size (.error e) s') e s') :
  wpAny (model X.prog X.w) X.A (newList []) (fun acc s₃=>wpAny (model X.prog X.w) X.A (newFunctionEnv scope X.env.globals cl [] X.env.qual none Value.none (some X.env)) (fun cenv s₄ =>
   codeAny (model X.prog X.w) X.A (.compStart (.ListComp elt [⟨tg,iter,ifs,0⟩] scope pos) 0 itv acc { cenv with scope:=relabel scope X.env }) (Po acc cenv.locals) s₄) X.xe s₃) X.xe s2:=by
 obtain ⟨it,fp,tn,J,H2,e,I2,T,st2,f2,q⟩:=h2
 subst e
 have hD:H2 s2.heap.objs.size=none:=I2.hok.fresh (Nat.le_refl _)
 obtain ⟨W,⟨m0,w0⟩,turn⟩:=q s2.heap.objs.size hD
 have I3:=I2.lnew (t':=s2.toks) (ys:=[]) (its:=[]) .nil (Nat.zero_le _)
 have fl2:∀ b∈fp,b<s2.heap.objs.size:=fun b hb=>by
  obtain ⟨o,e,_⟩:=T.obj _ _ st2 b hb
  exact Heap.lt_size e
 refine wpAny_newObj_type ?_
 generalize es3:({ s2 with heap:=s2.heap.push { cls := .type "list",dict:=none,data := .seq ([]:List Value).toArray } }:Shared)=s3
 have I3':Inv X pins σ (upd H2 s2.heap.objs.size (.lst [])) s3:=es3▸I3
 have keep3:∀ b o,s2.heap.get? b=some o→s3.heap.get? b=some o:=fun b o e=>by rw [← es3];exact Heap.get?_push_of_some _ e
 have st3:tn 0 s3.heap:=T.keep _ _ _ st2 fun b _ o e=>keep3 b o e
 have fl3:∀ b∈fp,b<s3.heap.objs.size:=fun b hb=>by
  obtain ⟨o,e,_⟩:=T.obj _ _ st3 b hb
  exact Heap.lt_size e
 have f3:∀ b∈fp,X9 X pins (upd H2 s2.heap.objs.size (.lst [])) b:=fun b hb=>⟨by rw [Yd (Nat.ne_of_lt (fl2 b hb))];exact (f2 b hb).1,(f2 b hb).2⟩
 generalize eD:s2.heap.objs.size=D at *
 generalize eH3:upd H2 D (.lst [])=H3 at *
 refine wpAny_newFunctionEnv hcell (by intro y hy;simp at hy) (fun h₁ hns₁ hsb₁=>?_) hk
 have keep4:∀ b o,s3.heap.get? b=some o→h₁.get? b=some o:=fun b o e=>hsb₁.extBut b o (Nat.ne_of_lt (Heap.lt_size e)) (Heap.get?_push_of_some _ e)
 have I4:=Yd2 (N':=N') (src:=src) (tk:=s3.toks+([]:List (Str×Value)).length) hk hcell hcap a b I3' f3 fl3 rfl keep4 hns₁
 have stat:∀ {H':Hp},(∀ b∈fp,H' b=none)→∀ b∈fp,X9 (cxC X scope N' cl s3.heap.objs.size s3 H3 fp (X.pn++pins)) [] H' b:=fun hn b' hb=>by
  obtain ⟨f0,f1,fs,fe,f4,f5⟩:=f3 b' hb
  refine ⟨hn b' hb,Nat.ne_of_lt (fl3 b' hb),fun z=>?_,.inl hb,fun x c h=>f4 x c (a x c h),fun p hp=>f5 p (by simpa [cxC] using hp)⟩
  rcases List.mem_cons.mp (I3'.stkSub b' z) with e | e
  ·exact f1 e
  ·exact fs e
 have fin:∀ {H':Hp} {s':Shared} {σ':St} {pins':List (Addr×Obj)},Inv (cxC X scope N' cl s3.heap.objs.size s3 H3 fp (X.pn++pins)) pins' σ' H' s'→∀ h',Heap.SameBut s3.heap.objs.size s'.heap h'→Inv X pins σ H' { s' with heap:=h' }:=fun {H' s' σ' pins'} J' h' sb=>by
  have same:∀ b o,b≠s3.heap.objs.size→s'.heap.get? b=some o→h'.get? b=some o:=fun b o hb e=>sb.extBut b o hb e
  have u:Un (frs X.stack) fp H3 H' s3.heap s'.heap:=J'.base
  refine I3'.call' (s':={ s' with heap:=h' }) (ch:=fp) J'.os ⟨fun b o e n hb hx=>?_,fun b o e n hb hx=>?_,u.free,fun b o e hx=>?_,u.tups,u.frzs,u.tbls⟩ (fun b o e=>?_) J'.bare fun b hb=>?_
  ·exact same b o (Nat.ne_of_lt (Heap.lt_size e)) (u.keep b o e n hb hx)
  ·obtain ⟨sl,z⟩:=u.slot b o e n hb hx
   exact ⟨sl,same b _ (Nat.ne_of_lt (Heap.lt_size e)) z⟩
  ·obtain ⟨o',z⟩:=u.there b o e hx
   exact ⟨o',same b o' (Nat.ne_of_lt (Heap.lt_size e)) z⟩
  ·have nC:∀ c v,H' c=some v→c≠s3.heap.objs.size:=fun c v z q=>by
    have:=J'.free
    rw [show (cxC X scope N' cl s3.heap.objs.size s3 H3 fp (X.pn++pins)).env.locals=s3.heap.objs.size from rfl,← q,z] at this
    cases this
   refine (J'.hok b o e).stay (fun c v hc q=>same c v ?_ q) (fun _ q=>q) fun _ _ q=>q
   rcases hc with z | z
   ·rw [z];exact nC b o e
   ·exact nC c _ z
  ·obtain ⟨f0,f1,fs,fe,f4,f5⟩:=f3 b hb
   exact ⟨fe,f1,f4,f5⟩
 have loop:codeAny (model X.prog X.w) X.A (.compLoop (.ListComp elt [⟨tg,iter,ifs,0⟩] scope pos) 0 (.ref it) (.ref D) (compEnvC scope cl s3.heap.objs.size X.env))
   (Po (.ref D) s3.heap.objs.size) { s3 with heap:=h₁,toks:=s3.toks+([]:List (Str×Value)).length }:=by
  refine Ycc (fun n s'=>∃ i ys σ' H',Inv (cxC X scope N' cl s3.heap.objs.size s3 H3 fp (X.pn++pins)) [] σ' H' s'∧tn i s'.heap∧(∀ b∈fp,H' b=none)∧W i n ys σ' H') ?_ m0 ⟨0,[],YD src σ,H3,I4,T.keep _ _ _ st3 fun b _ o e=>keep4 b o e,fun b hb=>(f3 b hb).1,w0⟩
  rintro n s5 ⟨i,ys,σ5,H5,I5,st5,fr5,w5⟩
  obtain ⟨hDs,stop | go⟩:=turn i n ys σ5 H5 w5
  ·obtain ⟨stop,qn⟩:=stop
   refine thn (T.done (cxC X scope N' cl s3.heap.objs.size s3 H3 fp (X.pn++pins)) rfl rfl rfl hc i [] s5 σ5 H5 _ I5 (stat fr5) st5 stop) fun r s6 ⟨hr,I6⟩=>?_
   subst hr
   obtain ⟨m,hn,_⟩:=id I6.loc
   exact done D _ s6 H5 (fun h' sb=>fin I6 h' sb) ⟨m,hn⟩ I6.free (fun z=>I3'.fpOk (Nat.le_refl _) z) qn
  ·obtain ⟨go,N,hN,step⟩:=go
   refine thn (T.item (cxC X scope N' cl s3.heap.objs.size s3 H3 fp (X.pn++pins)) rfl rfl rfl hc i [] s5 σ5 H5 _ I5 (stat fr5) st5 go) fun r s6 ⟨u,hr,h6⟩=>?_
   subst hr
   refine thn h6 fun _ s7 ⟨x,H7,I7,r7,y7,st7,fr7⟩=>?_
   have I7':=I7.pinned (stat fr7) (T.obj _ _ st7)
   have again:∀ {s8:Shared} {σ8:St} {H8:Hp} {ys':List V},Inv (cxC X scope N' cl s3.heap.objs.size s3 H3 fp (X.pn++pins)) ([]++VE fp s7.heap) σ8 H8 s8→(∃ m',m'<n∧W (i+1) m' ys' σ8 H8) →
     ∃ m,m<n∧∃ i ys σ' H',Inv (cxC X scope N' cl s3.heap.objs.size s3 H3 fp (X.pn++pins)) [] σ' H' s8∧tn i s8.heap∧(∀ b∈fp,H' b=none)∧W i m ys σ' H':=fun {s8 σ8 H8 ys'} I8 ⟨m',hm,w8⟩=>by
    refine ⟨m',hm,i+1,ys',σ8,H8,I8.unpinned,T.keep _ _ _ st7 fun b hb o e=>(I8.pin (b,o) (List.mem_append_right _ (List.mem_append_right _ (X1 hb e)))).1,fun b hb=>?_,w8⟩
    obtain ⟨o,e,d⟩:=T.obj _ _ st7 b hb
    exact (I8.pin (b,o) (List.mem_append_right _ (List.mem_append_right _ (X1 hb e)))).2.1
   refine thn (hg _ s3 H3 fp _ _ s7 σ5 H7 x u _ I7' r7 (step x H7 y7)) fun _ s8 ⟨σ8,H8,I8,q8⟩=>?_
   refine thn (ht _ s3 H3 fp _ _ s8 σ8 H8 _ I8 q8) fun ok s9 ⟨H9,I9,q9⟩=>?_
   cases ok with
   | false=>exact again I9 (hN _ _ _ q9)
   | true =>
    rw [if_pos rfl]
    refine wpAny_mono (he _ s3 H3 fp _ _ s9 σ8 H9 _ (I9.wish _) q9) (fun y s10 ⟨yv,H10,I10',r10,q10⟩=>?_) (gone D s3 H3 fp I3' fin)
    have I10:=I10'.unwish
    obtain ⟨hDy,hlen,w10⟩:=q10
    refine thn (Xn (X:=cxC X scope N' cl s3.heap.objs.size s3 H3 fp (X.pn++pins)) _ s10 σ8 H10 (.ref D) [yv] (.ref D) [y] (fun _ H'=>H'=upd H10 D (.lst (ys++[yv]))) I10 rfl (.cons r10 .nil) ⟨ys,hDy,hlen,rfl⟩) fun _ s11 ⟨_,H11,I11,_,e11⟩=>?_
    subst e11
    exact again I11 (hN _ _ _ w10)
 exact codeAny_compStart_list loop (T.self _ 0 _ _ _ (T.keep _ _ _ st3 fun b _ o e=>keep4 b o e) loop)
theorem XF {elt tg iter:Expr} {ifs:List Expr} {scope:Scope} {pos:Pos} {src:List (Option Nat)} {N':List Str} {wi:TI} {g:TG} {tt:TT} {te:TE} (hcap:Cap X scope src N') (hc:X.calm=true) (hi:PI X tg iter wi)
  (hg:∀ cl C s₀ H₀ fp pn,PG (cxC X scope N' cl C s₀ H₀ fp pn) tg g) (ht:∀ cl C s₀ H₀ fp pn,PTs (cxC X scope N' cl C s₀ H₀ fp pn) ifs tt) (he:∀ cl C s₀ H₀ fp pn,PE (cxC X scope N' cl C s₀ H₀ fp pn) elt te)
  (hfree:∀ x,(x,NameKind.free)∈scope.names→X.env.scope.names.lookup x=some NameKind.cell∨X.env.scope.names.lookup x=some NameKind.free)
  (hk:scope.kind = .function) (hcell:∀ y∈scope.names,y.2 ≠ .cell) (hnames:∀ y∈scope.names,y.2 = .local→scope.names.lookup y.1=some .local)
  (hs:∀ x,foldedSetIterable iter X.env x=pure x):PE X (.ListComp elt [⟨tg,iter,ifs,0⟩] scope pos) (tLC src wi g tt te):=by
 intro pins s σ H Q I h
 obtain ⟨cl,hcl,a,b⟩:=Uy X.env scope fun x hx=>I.ok.has x (hfree x hx)
 rw [eval_ListComp]
 refine wpAny_comprehension_free (use:=none) rfl hs hcl hk hnames (thn (hi pins s σ H _ I h) fun v s1 h1=>thn h1 fun itv s2 h2=>?_)
 exact Yae (Po:=fun v C=>compPost (model X.prog X.w) X.A X.xe none (EP X pins σ Q) v C) (Z:=fun _ _ _ _ _ _ _=>False) hcap hc (hg cl) (ht cl) (he cl) hk hcell a b h2 (fun D C s6 H5 fi ⟨m,hn⟩ _ _ qn=>⟨m,hn,fun h' sb=>⟨.ref D,H5,fi h' sb,rfl,qn⟩⟩) fun _ _ _ _ _ _ _ _ z=>z.elim
end
end L2
namespace L2
open PySem PySem.Spec PyProof.Rows
section
variable {X:Cx}
end
end L2
namespace L2
open PySem PySem.Spec PyProof.Rows
section
variable {X:Cx} {tg:Expr}
def Wn (J:It) (P:Hp→Prop) (xs:List V):Prop:=∀ H,P H→∀ i,(∀ x,xs[i]?=some x→J.go i H∧∀ y H',J.yld i H y H'→H'=H∧y=x)∧(xs.length≤i→J.stop i H)
theorem Qu {K:PySem.W.Frag} {a:Addr} {xs:List V}:Wn (Itt K a) (fun H=>SqT K H a xs) xs:=fun H hq i=>by
 refine ⟨fun x hx=>⟨⟨xs,x,hq,hx⟩,fun y H' ⟨e1,e2⟩=>⟨e1,?_⟩⟩,fun hi=>⟨xs,hq,hi⟩⟩
 have:=e2 xs hq
 rw [hx] at this
 exact (Option.some.inj this).symm
theorem X2 {K:PySem.W.Frag} {a:Addr} {xs:List V}:Wn (Itl K a) (fun H=>SqL K H a xs) xs:=fun H hq i=>by
 refine ⟨fun x hx=>⟨⟨xs,x,hq,hx⟩,fun y H' ⟨e1,e2⟩=>⟨e1,?_⟩⟩,fun hi=>⟨xs,hq,hi⟩⟩
 have:=e2 xs hq
 rw [hx] at this
 exact (Option.some.inj this).symm
theorem W4 {lo:Int} {n:Nat} {P:Hp→Prop}:Wn (Itr lo n) P ((List.range n).map fun (i:Nat)=>V.int (lo+i)):=fun H hq i=>by
 refine ⟨fun x hx=>?_,fun hi=>by show n≤i;simpa using hi⟩
 have hi:i<n:=by
  have:=(List.getElem?_eq_some_iff.mp hx).1
  simpa using this
 refine ⟨hi,fun y H' ⟨e1,e2⟩=>⟨e1,?_⟩⟩
 rw [List.getElem?_map,List.getElem?_range hi] at hx
 rw [e2]
 simpa using hx
theorem Wn.imp {J:It} {P P':Hp→Prop} {xs:List V} (h:Wn J P xs) (hp:∀ H,P' H→P H):Wn J P' xs:=fun H q=>h H (hp H q)
theorem YeQ {J:It} {P:Hp→Prop} {xs:List V} (hJ:Wn J P xs) {src:List (Option Nat)} {g:TG} {tt:TT} {te:TE} {σ:St} {H1:Hp} {Q:VK} {D:Addr} (Pv:Nat→List V→St→Hp→Prop)
  (h0:Pv 0 [] (YD src σ) (upd H1 D (.lst []))) (hP:∀ i ys σ' H',Pv i ys σ' H'→P H'∧H' D=some (.lst ys))
  (step:∀ i ys σ' H' x,xs[i]?=some x→Pv i ys σ' H'→g x σ' H' fun σ2 H4=>tt σ2 H4 fun b H5=>if b=true then te σ2 H5 fun y H6=>H6 D=some (.lst ys)∧ys.length<sizeLine∧Pv (i+1) (ys++[y]) σ2 (upd H6 D (.lst (ys++[y]))) else Pv (i+1) ys σ2 H5)
  (fin:∀ ys σ' H',Pv xs.length ys σ' H'→Q (.ref D) H') :
  LC src J g tt te σ H1 Q D:=by
 refine ⟨fun i m ys σ' H'=>m=xs.length - i∧i≤xs.length∧Pv i ys σ' H',⟨xs.length,by simp,Nat.zero_le _,h0⟩,?_⟩
 rintro i m ys σ' H2 ⟨rfl,hi,p⟩
 obtain ⟨hp,hD⟩:=hP i ys σ' H2 p
 refine ⟨hD,?_⟩
 by_cases hlt:i<xs.length
 ·obtain ⟨go,yl⟩:=(hJ H2 hp i).1 xs[i] (by simp [hlt])
  refine .inr ⟨go,fun ys' σ3 H3=>Pv (i+1) ys' σ3 H3,fun ys' σ3 H3 p'=>⟨xs.length - (i+1),by omega,rfl,hlt,p'⟩,fun x H3 y=>?_⟩
  obtain ⟨e1,e2⟩:=yl x H3 y
  subst e1 e2
  exact step i ys σ' _ _ (by simp [hlt]) p
 ·have e:i=xs.length:=by omega
  subst e
  exact .inl ⟨(hJ H2 hp _).2 (Nat.le_refl _),fin ys σ' H2 p⟩
theorem Yk.upd_new {H:Hp} {p:Addr} (h:H p=none) (o:HO):Yk H (upd H p o):=fun b u q=>by rw [Yd (Yj q h)];exact q
theorem Yk.upd_over {H H':Hp} {p:Addr} (h:H p=none) (e:Yk H H') (o:HO):Yk H (upd H' p o):=fun b u q=>by rw [Yd (Yj q h)];exact e b u q
theorem Yk.tup {K:PySem.W.Frag} {H H':Hp} {a:Addr} {xs:List V} (e:Yk H H') (h:SqT K H a xs):SqT K H' a xs:=by
 rcases h with (h | ⟨o,h⟩) | h
 ·exact .inl (.inl (e _ _ h))
 ·exact .inl (.inr ⟨o,e _ _ h⟩)
 ·exact .inr h
end
section
variable {X:Cx}
def Ycd:V→Option Value
 | .ty n=>some (.type n)
 | .ref a=>some (.ref a)
 | _=>none
inductive IsQ2 (K:PySem.W.Frag) (t cv:Value) (Q:Bool→Prop):Prop
 | mk (b:Bool) (h3:PySem.W.kitOne K t cv=some b) (q:Q b)
inductive IsQ (K:PySem.W.Frag) (H:Hp) (x c:V) (Q:Bool→Prop):Prop
 | mk (cv:Value) (h1:Ycd c=some cv) (t:Value) (h2:TyOf K H x t) (q:IsQ2 K t cv Q)
def rIs (K:PySem.W.Frag):List V→Hp→VK→Prop:=fun xs H Q=>k2 xs fun x c=>IsQ K H x c fun b=>Q (.bl b) H
theorem Y5:XA X (.builtin "isinstance") (rIs X.K):=by
 intro pins s σ H xs us Q I r h
 obtain ⟨x,c,rfl,cv,ec,t,ty,b,e,q⟩:=k2_e h
 obtain ⟨u,w',rfl,ru,rw'⟩:=Yb0 r
 have ew:w'=cv:=by
  cases c with
  | ty n=>cases (show w'=Value.type n from rw');simpa [Ycd] using ec
  | ref a=>cases (show w'=Value.ref a from rw');simpa [Ycd] using ec
  | _=>simp [Ycd] at ec
 subst ew
 exact Yc1 I ru ty e fun tk=>⟨.bl b,H,I.tok tk,rfl,q⟩
end
end L2
namespace L2
open PySem PySem.Spec PyProof.Rows
structure Sub (P:Program) (w:World) (i:Addr) (St:Nat→Heap→Prop) (Y6:Heap→(Nat→Option Value)→Prop):Prop where
 obj:∀ k h,St k h→∃ o,h.get? i=some o∧∀ v,o.data ≠ .cell v
 keep:∀ k h h',St k h→(∀ o,h.get? i=some o→h'.get? i=some o)→St k h'
 item:∀ (A:Around) (k:Nat) (s:Shared) (get:Nat→Option Value) (x:Value) (Q:Value→Shared→Prop) (E:Value→Shared→Prop),St k s.heap→Y6 s.heap get→get k=some x →
  (∀ h' tk,St (k+1) h'→Heap.SameBut i s.heap h'→Q x { s with heap:=h',toks:=tk })→wpAny (model P w) A (Builtin.SmallTypes.nextOf (.ref i)) Q E s
 fin:∀ (A:Around) (k:Nat) (s:Shared) (get:Nat→Option Value) (Q:Value→Shared→Prop) (E:Value→Shared→Prop),A.handled=none→St k s.heap→Y6 s.heap get→get k=none →
  (∀ h' e,Heap.ExtBut i s.heap h'→(∃ o,h'.get? e=some o∧o.cls = .type "StopIteration")→E (.ref e) { s with heap:=h' })→wpAny (model P w) A (Builtin.SmallTypes.nextOf (.ref i)) Q E s
section
variable {prog:Program} {w:World} {A:Around} {E:Value→Shared→Prop} {s:Shared}
end
section
variable {prog:Program} {w:World} {A:Around} {E:Value→Shared→Prop} {s:Shared} {z TI TO i1 i2:Addr} {S1 S2:Nat→Heap→Prop} {R1 R2:Heap→(Nat→Option Value)→Prop} {g1 g2:Nat→Option Value} {k:Nat} {a b:Value}
end
end L2
namespace L2
open PySem PySem.Spec PyProof.Rows
section
variable {prog:Program} {w:World} {A:Around} {E:Value→Shared→Prop} {s:Shared}
end
section
variable {X:Cx} {pins:List (Addr×Obj)} {σ:St} {H:Hp} {s:Shared} {h':Heap}
theorem Inv.turnedL {t':Nat} {ch:List Addr} (I:Inv X pins σ H s) (k:∀ b o,b∉ch→s.heap.get? b=some o→h'.get? b=some o) (hf:∀ b∈ch,X9 X pins H b):Inv X pins σ H { s with heap:=h',toks:=t' }:=by
 have nit:∀ b u,H b=some u→b∉ch:=fun b u e z=>by rw [(hf b z).1] at e;cases e
 refine I.step (g':=s.gens) (d':=s.drawn) (ch:=ch) (fun b hb=>?_) (fun b o _ _ hc e _=>k b o hc e) (fun b o _ _ hc e _=>⟨o.slots,k b o hc e⟩) (fun _ _ _ _ n=>n)
  (fun b o hc e=>⟨o,k b o hc e⟩) (fun _ _ e=>e) (fun _ _ _ e=>e) (fun b ps e=>⟨#[],by rw [e];simp⟩) (fun m hm=>?_) (fun b u e=>?_) I.bare
 ·obtain ⟨f0,f1,f2,f3,f4,f5⟩:=hf b hb
  exact ⟨f3,f1,f4,f5⟩
 ·obtain ⟨o,es,ep,ho,r⟩:=hm
  exact ⟨o,es,ep,k _ o (fun z=>(hf _ z).2.1 rfl) ho,r⟩
 ·refine (I.hok b u e).stay (fun c v hc q=>k c v ?_ q) (fun _ q=>q) fun _ _ q=>q
  rcases hc with z | z
  ·rw [z];exact nit b u e
  ·exact nit c _ z
theorem Inv.turnedT {t':Nat} {ch:List Addr} {T:Addr} {vs:List V} (I:Inv X pins σ H s) (k:∀ b o,b∉ch→s.heap.get? b=some o→h'.get? b=some o) (hf:∀ b∈ch,X9 X pins H b) (hT:s.heap.objs.size≤T)
  (new:YR X.prog X.w (upd H T (.tup vs)) h' T (.tup vs)):Inv X pins σ (upd H T (.tup vs)) { s with heap:=h',toks:=t' }:=by
 have hn:H T=none:=I.hok.fresh hT
 have nit:∀ b u,H b=some u→b∉ch:=fun b u e z=>by rw [(hf b z).1] at e;cases e
 have nT:∀ b o,s.heap.get? b=some o→b≠T:=fun b o e z=>absurd (Heap.lt_size e) (by rw [z];exact Nat.not_lt.mpr hT)
 have up:∀ b u,H b=some u→upd H T (.tup vs) b=some u:=fun b u e=>by rw [Yd (Yj e hn)];exact e
 refine I.step (g':=s.gens) (d':=s.drawn) (ch:=ch) (fun b hb=>?_) (fun b o _ _ hc e _=>k b o hc e) (fun b o _ _ hc e _=>⟨o.slots,k b o hc e⟩) (fun b o _ e n=>by rw [Yd (nT b o e)];exact n)
  (fun b o hc e=>⟨o,k b o hc e⟩) (fun b xs e=>up b _ e) (fun b o u e=>up b _ e) (fun b ps e=>⟨#[],by rw [up b _ e];simp⟩) (fun m hm=>?_) (fun b u e=>?_) I.bare
 ·obtain ⟨f0,f1,f2,f3,f4,f5⟩:=hf b hb
  exact ⟨f3,f1,f4,f5⟩
 ·obtain ⟨o,es,ep,ho,r⟩:=hm
  exact ⟨o,es,ep,k _ o (fun z=>(hf _ z).2.1 rfl) ho,r⟩
 ·by_cases hb:b=T
  ·subst hb;rw [Yg] at e;cases e;exact new
  ·rw [Yd hb] at e
   refine (I.hok b u e).stay (fun c v hc q=>k c v ?_ q) (fun c q=>up c _ q) fun c xs q=>up c _ q
   rcases hc with z | z
   ·rw [z];exact nit b u e
   ·exact nit c _ z
end
end L2
namespace L2
open PySem PySem.Spec PyProof.Rows
section
variable {X:Cx} {elts:List Expr} {kk:Nat} {tpos:Pos}
theorem W0 {J:It} {P:Hp→Prop} {xs:List V} (hJ:Wn J P xs) {src:List (Option Nat)} {g:TG} {te:TE} {σ:St} {H1:Hp} {Q:VK} {D:Addr} (Pv:Nat→List V→St→Hp→Prop)
  (h0:Pv 0 [] (YD src σ) (upd H1 D (.lst []))) (hP:∀ i ys σ' H',Pv i ys σ' H'→P H'∧H' D=some (.lst ys))
  (mono:∀ x σ H Q Q',(∀ σ' H',Q σ' H'→Q' σ' H')→g x σ H Q→g x σ H Q')
  (step:∀ i ys σ' H' x,xs[i]?=some x→Pv i ys σ' H'→g x σ' H' fun σ2 H4=>te σ2 H4 fun y H6=>H6 D=some (.lst ys)∧ys.length<sizeLine∧Pv (i+1) (ys++[y]) σ2 (upd H6 D (.lst (ys++[y]))))
  (fin:∀ ys σ' H',Pv xs.length ys σ' H'→Q (.ref D) H'):LC src J g XT te σ H1 Q D :=
 YeQ hJ Pv h0 hP (fun i ys σ' H' x hx p=>by
  refine mono _ _ _ _ _ ?_ (step i ys σ' H' x hx p)
  intro σ2 H4 q
  unfold XT
  dsimp only
  rw [if_pos rfl]
  exact q) fin
theorem XM (i:Nat):∀ x σ H Q Q',(∀ σ' H',Q σ' H'→Q' σ' H')→Yy i x σ H Q→Yy i x σ H Q':=fun _ _ _ _ _ h q=>h _ _ q
end
end L2
namespace L2
open PySem PySem.Spec PyProof.Rows
structure Gx where
 P:Program
 w:World
 K:PySem.W.Frag
 mg:Str→Option Value
 base:Heap
def Cx.gx (X:Cx):Gx:=⟨X.prog,X.w,X.K,X.mg,X.base⟩
def Gx.Raw (g:Gx) (x qual:Str) (st:Stmt) (ps:List Str):Prop:=∃ f fd,Fun g.K x qual st f fd∧YY g.K fd ps []∧g.mg x=some (.ref f)
def Gx.Fn (g:Gx) (k:Nat) (x:Str) (ps:List Str) (sp:Sp):Prop:=∃ f fd,FnOk g.P g.w g.K g.mg g.base CX0 k f fd ps sp∧YY g.K fd ps []∧PySem.W.keepIn g.K (.ref f)=true∧g.mg x=some (.ref f)
def Gx.RawM (g:Gx) (C:Addr) (m qual:Str) (st:Stmt) (ps:List Str):Prop:=∃ f fd,Fun g.K m qual st f fd∧YY g.K fd ps []∧Meth g.K C m f
def Gx.Me (g:Gx) (k:Nat) (C:Addr) (m:Str) (ps:List Str) (sp:Sp):Prop:=∃ f fd,FnOk g.P g.w g.K g.mg g.base CX0 k f fd ps sp∧YY g.K fd ps []∧Meth g.K C m f
def Gx.RawI (g:Gx) (x:Str) (C:Addr) (qual:Str) (st:Stmt) (ps:List Str):Prop:=∃ f fd,Fun g.K "__init__" qual st f fd∧YY g.K fd ps []∧Mk g.K C f∧g.mg x=some (.ref C)
def Gx.Ma (g:Gx) (k:Nat) (x:Str) (C:Addr) (ps:List Str) (sp:Sp):Prop:=∃ f fd,FnOk g.P g.w g.K g.mg g.base CX0 k f fd ps sp∧YY g.K fd ps []∧Mk g.K C f∧g.mg x=some (.ref C)
abbrev Gx.cx (g:Gx) (N:List Str) (qual:Str) (st:Stmt) (f:Addr) (cdv:Value) (A:Around) (outer:List Env) (s:Shared) (H:Hp) (E:XK):Cx:=(VJ CX0 g.P g.w g.K g.mg g.base N qual (Yi st) f cdv A outer s H E).nox
def UX (g:Gx) (k:Nat) (N:List Str) (qual:Str) (st:Stmt) (sp:Sp):Prop:=∀ (f:Addr) (cdv:Value) (A:Around) (outer:List Env) (s:Shared) (H:Hp) (vs:List V) (Q:VK) (E:XK),Room k (g.cx N qual st f cdv A outer s H E).A→sp vs H Q E →
 ∃ t,PSs (g.cx N qual st f cdv A outer s H E) (YM st) t∧t { nx:=fun _ H'=>Q .non H',rt:=Q } (XQ N vs) H
section
variable {g:Gx} {k:Nat} {x qual m:Str} {st:Stmt} {N ps:List Str} {sp:Sp} {C:Addr}
theorem Gx.Raw.fn (R:g.Raw x qual st ps) (S:FnScope N ps (Yi st)) (len:∀ vs H Q E,sp vs H Q E→vs.length=ps.length) (b:UX g k N qual st sp):g.Fn (k+1) x ps sp:=by
 obtain ⟨f,fd,F,bd,hm⟩:=R
 exact ⟨f,fd,F.ok S len fun cdv A outer s H vs Q E hr h=>b f cdv A outer s H vs Q E hr h,bd,F.kp,hm⟩
theorem Gx.RawM.me (R:g.RawM C m qual st ps) (S:FnScope N ps (Yi st)) (len:∀ vs H Q E,sp vs H Q E→vs.length=ps.length) (b:UX g k N qual st sp):g.Me (k+1) C m ps sp:=by
 obtain ⟨f,fd,F,bd,hm⟩:=R
 exact ⟨f,fd,F.ok S len fun cdv A outer s H vs Q E hr h=>b f cdv A outer s H vs Q E hr h,bd,hm⟩
theorem Gx.RawI.ma (R:g.RawI x C qual st ps) (S:FnScope N ps (Yi st)) (len:∀ vs H Q E,sp vs H Q E→vs.length=ps.length) (b:UX g k N qual st sp):g.Ma (k+1) x C ps sp:=by
 obtain ⟨f,fd,F,bd,hm,hg⟩:=R
 exact ⟨f,fd,F.ok S len fun cdv A outer s H vs Q E hr h=>b f cdv A outer s H vs Q E hr h,bd,hm,hg⟩
theorem Gx.Fn.mono {j:Nat} (F:g.Fn j x ps sp) (h:j≤k):g.Fn k x ps sp:=by
 obtain ⟨f,fd,F,r⟩:=F
 exact ⟨f,fd,F.mono h,r⟩
theorem Gx.Me.mono {j:Nat} (F:g.Me j C m ps sp) (h:j≤k):g.Me k C m ps sp:=by
 obtain ⟨f,fd,F,r⟩:=F
 exact ⟨f,fd,F.mono h,r⟩
theorem Gx.Raw.none (R:g.Raw x qual st ps) (no:∀ vs H Q E,¬ sp vs H Q E):g.Fn k x ps sp:=by
 obtain ⟨f,fd,F,bd,hm⟩:=R
 exact ⟨f,fd,⟨fun vs H Q E h=>absurd h (no vs H Q E),fun A outer s H args us vs Q E _ _ _ _ h=>absurd h (no vs H Q E)⟩,bd,F.kp,hm⟩
theorem Gx.RawM.none (R:g.RawM C m qual st ps) (no:∀ vs H Q E,¬ sp vs H Q E):g.Me k C m ps sp:=by
 obtain ⟨f,fd,F,bd,hm⟩:=R
 exact ⟨f,fd,⟨fun vs H Q E h=>absurd h (no vs H Q E),fun A outer s H args us vs Q E _ _ _ _ h=>absurd h (no vs H Q E)⟩,bd,hm⟩
end
section
variable {g:Gx} {X:Cx} {k j:Nat} {x m:Str} {ps:List Str} {sp:Sp} {C:Addr} {e o:Expr} {es:List Expr} {t:TA} {ta:TE} {p pos apos:Pos}
theorem YH (F:g.Fn j x ps sp) (hr:Room k X.A) (ha:PA X (e::es) t) (hj:j≤k) (hX:X.gx=g) (hg:Gl X x) (hdb:(x==("__debug__":Str))=false)
  (he:starEach (e::es) X.env=(false,eval e X.env)::starEach es X.env) (hpl:(backTo pos (starEach es X.env)).any (·.1)=false):PE X (.Call (.Name x p) (e::es) [] pos) (Vm sp [] E0 t):=by
 subst hX
 obtain ⟨f,fd,F,b,kp,hm⟩:=F
 exact Ybc F (hr.mono hj) hg hm kp b .nil WY ha hdb he hpl
theorem Xu {pl:Sem Bool} (F:g.Me j C m ps sp) (c:Cls g.K C) (hr:Room k X.A) (ho:PE X o ta) (ha:PA X (e::es) t) (hj:j≤k) (hX:X.gx=g)
  (hst:starEach (e::es) X.env=(false,eval e X.env)::starEach es X.env) (hpl:(backTo pos (starEach es X.env)).any (·.1)=false)
  (ht:eval (.Call (.Attribute o m apos) (e::es) [] pos) X.env=(do
   let ov ← eval o X.env
   standAt apos.atName
   let (f,first) ← holding [ov] (getMethod ov m pl)
   callWith pos f first (backTo pos (starEach (e::es) X.env)) (backToKw pos (keywordEach [] X.env)))):PE X (.Call (.Attribute o m apos) (e::es) [] pos) (Uw C m sp [] E0 ta t):=by
 subst hX
 obtain ⟨f,fd,F,b,hm⟩:=F
 exact Yfd ho c hm F (hr.mono hj) b .nil WY ha hst hpl ht
theorem V2 (F:g.Ma j x C ps sp) (hr:Room k X.A) (ha:PA X (e::es) t) (hj:j+1≤k) (hX:X.gx=g) (hg:Gl X x) (hdb:(x==("__debug__":Str))=false)
  (he:starEach (e::es) X.env=(false,eval e X.env)::starEach es X.env) (hpl:(backTo pos (starEach es X.env)).any (·.1)=false):PE X (.Call (.Name x p) (e::es) [] pos) (V1 C sp [] E0 t):=by
 subst hX
 obtain ⟨f,fd,F,b,M,hm⟩:=F
 exact Yfe M F (hr.mono hj) hg hm b .nil WY ha hdb he hpl
theorem YI {id:String} {r:List V→Hp→VK→Prop} (hm:g.mg x=none) (hc:XA X (.builtin id) r) (ha:PA X (e::es) t) (hv:bootBuiltins x=some (.builtin id)) (hX:X.gx=g) (hg:Gl X x) (hn:x≠"__name__") (hdb:(x==("__debug__":Str))=false)
  (he:starEach (e::es) X.env=(false,eval e X.env)::starEach es X.env) (hpl:(backTo pos (starEach es X.env)).any (·.1)=false):PE X (.Call (.Name x p) (e::es) [] pos) (tCB r t):=by
 subst hX
 exact YdZ hc hg hm hv ha hn hdb he hpl
theorem QM {T:String} {r:List V→Hp→VK→Prop} (hm:g.mg x=none) (hc:XA X (.type T) r) (ha:PA X (e::es) t) (hv:bootBuiltins x=some (.type T)) (hX:X.gx=g) (hg:Gl X x) (hn:x≠"__name__") (hdb:(x==("__debug__":Str))=false)
  (he:starEach (e::es) X.env=(false,eval e X.env)::starEach es X.env) (hpl:(backTo pos (starEach es X.env)).any (·.1)=false):PE X (.Call (.Name x p) (e::es) [] pos) (tCB r t):=by
 subst hX
 exact Yc3 hc hg hm hv ha hn hdb he hpl
theorem WC {T:String} (hm:g.mg x=none) (hv:bootBuiltins x=some (.type T)) (hX:X.gx=g) (hg:Gl X x) (hn:x≠"__name__") (hdb:(x==("__debug__":Str))=false):PE X (.Name x pos) (tC (.ty T)):=by
 subst hX
 exact Ye9 hg hm hv rfl hn hdb
end
def S (l:List Nat):Str:=⟨l.toArray⟩
theorem Yaf (l:List Nat):(S l).cps.toList=l:=by simp [S]
theorem YeR (l:List Nat):(S l).length=l.length:=by simp [S,Str.length]
theorem S_app (a b:List Nat):S a++S b=S (a++b):=by
 show Str.append (S a) (S b)=S (a++b)
 simp [Str.append,S]
theorem Vn {a b:List Nat} (h:S a=S b):a=b:=by
 have:=congrArg (fun x:Str=>x.cps.toList) h
 simpa [Yaf] using this
theorem S_one (c:Nat):(⟨#[c]⟩:Str)=S [c]:=rfl
end L2
namespace L2
open PySem PySem.Spec PyProof.Rows
section
variable {K:PySem.W.Frag} {h:Heap} {mg:Str→Option Value} {P:Program} {w:World} {base:Heap} {f C:Addr} {x qual m:Str} {st:Stmt} {ps:List Str} {oc kV dc pm cd ct:Value} {od an:Option Addr} {sl:Array (Option Value)}
theorem Y0 (X:K.In h) (G:h.Ns mainGlobals mg) (ps:List Str)
  (a:PySem.W.nsIn K mainGlobals x=some (some (.ref f))) (l:K.lookup f=some ⟨oc,od,.func (PySem.W.fnOf x x (YT st) (YM st) (Yi st) .none kV dc pm an cd ct),sl⟩) (c:PySem.W.codeIn K cd x=true) (k:PySem.W.keepIn K (.ref f)=true)
  (b:∀ (kV doc pm:Value) (an:Option Addr) (cdv ct:Value) (us:List Value),us.length=ps.length→bindArgs (PySem.W.fnOf x x (YT st) (YM st) (Yi st) .none kV doc pm an cdv ct) ⟨us,[]⟩=pure (ps.zip us)) :
  ∀ P w base,(Gx.mk P w K mg base).Raw x x st ps:=fun P w base =>
 have F:=VM (st:=st) l c k
 ⟨f,_,F,F.binds b,PySem.W.mg_of X G a⟩
theorem YW (X:K.In h) (G:h.Ns mainGlobals mg) (ps:List Str)
  (a:PySem.W.findIn K (.ref C) m=some (some (.ref f))) (i:PySem.W.isFn K (.ref f)=true) (l:K.lookup f=some ⟨oc,od,.func (PySem.W.fnOf m qual (YT st) (YM st) (Yi st) .none kV dc pm an cd ct),sl⟩) (c:PySem.W.codeIn K cd qual=true) (k:PySem.W.keepIn K (.ref f)=true)
  (b:∀ (kV doc pm:Value) (an:Option Addr) (cdv ct:Value) (us:List Value),us.length=ps.length→bindArgs (PySem.W.fnOf m qual (YT st) (YM st) (Yi st) .none kV doc pm an cdv ct) ⟨us,[]⟩=pure (ps.zip us)) :
  ∀ P w base,(Gx.mk P w K mg base).RawM C m qual st ps:=fun P w base =>
 have F:=VM (st:=st) l c k
 ⟨f,_,F,F.binds b,⟨a,i,k⟩⟩
theorem Wa (X:K.In h) (G:h.Ns mainGlobals mg) (ps:List Str) (aC:PySem.W.nsIn K mainGlobals x=some (some (.ref C))) (mk:PySem.W.makesIn K C=true) (kc:PySem.W.keepIn K (.ref C)=true)
  (a:PySem.W.findIn K (.ref C) "__init__"=some (some (.ref f))) (i:PySem.W.isFn K (.ref f)=true) (l:K.lookup f=some ⟨oc,od,.func (PySem.W.fnOf "__init__" qual (YT st) (YM st) (Yi st) .none kV dc pm an cd ct),sl⟩) (c:PySem.W.codeIn K cd qual=true) (k:PySem.W.keepIn K (.ref f)=true)
  (b:∀ (kV doc pm:Value) (an:Option Addr) (cdv ct:Value) (us:List Value),us.length=ps.length→bindArgs (PySem.W.fnOf "__init__" qual (YT st) (YM st) (Yi st) .none kV doc pm an cdv ct) ⟨us,[]⟩=pure (ps.zip us)) :
  ∀ P w base,(Gx.mk P w K mg base).RawI x C qual st ps:=fun P w base =>
 have F:=VM (st:=st) l c k
 ⟨f,_,F,F.binds b,⟨mk,a,i,kc⟩,PySem.W.mg_of X G aC⟩
end
end L2
namespace L2
open PySem PySem.Spec PyProof.Rows
section
variable {X:Cx}
theorem Ybf {a:Int} {m:Nat} (h:a.natAbs<2^m):Builtin.Int.intBits a≤m:=by
 unfold Builtin.Int.intBits
 split
 ·omega
 ·rename_i h0
  have h0:a.natAbs≠0:=by simpa using h0
  have:=(Nat.log2_lt h0).mpr h
  omega
def QN (i j:Int):Prop:=∃ m n:Nat,i.natAbs<2^m∧j.natAbs<2^n∧m+n≤100000000
theorem QN.ok {i j:Int} (h:QN i j):IntMulOk i j:=by
 obtain ⟨m,n,h1,h2,h3⟩:=h
 exact IntMulOk.of_le (Ybf h1) (Ybf h2) (by omega)
def YeS (i j:Int):Prop:=0<j∧j.natAbs<2^9000
theorem Wb:OpR X (binaryOp .FloorDiv) (rI YeS fun i j => .int (i / j)):=opI fun i j _ _ _ _ _ hc q=>by
 have h1:(0:Int)<j:=hc.1
 have h2:=hc.2
 have h3:j.natAbs≠0:=by omega
 exact floordiv_int (by omega) (by rw [Int.fdiv_eq_ediv_of_nonneg i (by omega)];exact q) (.inl (PyProof.noPylong_of_log2 ((Nat.log2_lt h3).mpr h2)))
theorem Ws {j:Int} (h:0<j) (h2:j<1073741824) {i:Int}:YeS i j:=⟨h,Nat.lt_of_lt_of_le (show j.natAbs<2^30 by omega) (Nat.pow_le_pow_right (by decide) (by decide))⟩
end
end L2
namespace L2
open PySem PySem.Spec PyProof.Rows
theorem Yc8 {CX:CXT} {P:Program} {w:World} {K:PySem.W.Frag} {mg:Str→Option Value} {base:Heap} {N:List Str} {qual:Str} {scope:Scope} {f:Addr} {cd:Value} {A:Around} {outer:List Env} {s:Shared} {H:Hp} {E:XK} :
  (VJ CX P w K mg base N qual scope f cd A outer s H E).K=K:=rfl
theorem YeT {X:Cx}:X.nox.K=X.K:=rfl
section
variable {g:TG} {tb:TS} {D:Ends} {σ:St} {H:Hp}
theorem Wp {ta:TA} {n:Nat} (Pv:Nat→St→Hp→Prop) (ha:∀ R:List V→Hp→Prop,R [.int n] H→ta σ H R) (hn:n<2^62) (h0:Pv 0 σ H)
  (hs:∀ i σ H,i<n→Pv i σ H→g (.int i) σ H fun σ2 H2=>tb { D with nx:=Pv (i+1),ct:=Pv (i+1),bk:=D.nx } σ2 H2) (hd:∀ σ H,Pv n σ H→D.nx σ H):Ui (Ut ta) g tb D σ H:=by
 refine ha _ ⟨n,rfl,by omega,by omega,?_⟩
 refine Qm (lo:=0) (n:=n) Pv h0 (fun i σ H hi p=>?_) hd
 have e:(0:Int)+i=i:=by omega
 rw [e];exact hs i σ H hi p
theorem Yc9 {K:PySem.W.Frag} {tl:TE} {a:Addr} {xs:List V} (Pv:Nat→St→Hp→Prop) (ha:∀ R:V→Hp→Prop,R (.ref a) H→tl σ H R) (h0:Pv 0 σ H) (hl:∀ i σ H,i≤xs.length→Pv i σ H→SqL K H a xs)
  (hs:∀ i x σ H,xs[i]?=some x→Pv i σ H→g x σ H fun σ2 H2=>tb { D with nx:=Pv (i+1),ct:=Pv (i+1),bk:=D.nx } σ2 H2) (hd:∀ σ H,Pv xs.length σ H→D.nx σ H):Ui (WA K tl) g tb D σ H:=by
 refine ha _ ⟨a,rfl,⟨xs,hl 0 σ H (Nat.zero_le _) h0⟩,?_⟩
 exact Q5 Pv h0 hl hs hd
end
end L2
namespace L2
open PySem PySem.Spec PyProof.Rows
section
variable {X:Cx}
theorem XR (hc:X.calm=true:=by rfl):XA X (.builtin "sum") (fun xs H Q=>∃ (p:Addr) (ns:List Int),xs=[.ref p]∧SqL X.K H p (ns.map V.int)∧Q (.int ns.sum) H):=by
 intro pins s σ H xs us Q I r h
 obtain ⟨p,ns,rfl,hq,q⟩:=h
 obtain ⟨u,rfl,rx⟩:=WB r
 cases rx
 obtain ⟨its,r',pl,hz⟩:=I.list hq
 have hi:=Yb9 r'
 have hl:=pl.isList
 obtain ⟨xs,ex⟩:=hi.allInts.items
 rw [ex] at hl
 have e:preSum (numAt xs) xs.size=ns.sum:=by
  have h1:=nums_intItems (xs:=xs)
  rw [← ex] at h1
  have h2:=hi.numsOf
  rw [preSum_eq,List.take_of_length_le (by simp)]
  rw [← h1]
  exact congrArg List.sum h2
 refine sum_intListG (I.ok.hd hc) hl fun h' tk t' hk=>?_
 rw [e]
 exact ⟨.int _,H,I.kept (t':=tk) hk,⟨t',rfl⟩,q⟩
end
def Ite (G:Hp→List V→Prop):It :=
 ⟨fun i H=>∃ xs x,G H xs∧xs[i]?=some x,fun i H v H'=>∃ T,v = .ref T∧H T=none∧∀ xs x,G H xs→xs[i]?=some x→H'=upd H T (.tup [.int i,x]),fun i H=>∃ xs,G H xs∧xs.length≤i⟩
theorem Yce {P:Program} {w:World} {K:PySem.W.Frag} {elts:List Expr} {kk:Nat} {pos:Pos} {a e it:Addr} (ne:e≠it) (na:a≠e∧a≠it) :
  Turn P w K (.Tuple elts kk pos) (Ite fun H xs=>SqL K H a xs) [e,it] e (fun i h=>(∃ old,IsEnum h e it i old)∧h.IsListIter it a i) where
 mem:=by simp
 obj:=fun i h ⟨⟨old,he⟩,hi⟩ c hc=>by
  simp only [List.mem_cons,List.not_mem_nil,or_false] at hc
  rcases hc with rfl | rfl
  ·exact ⟨_,he,fun v z=>by cases z⟩
  ·obtain ⟨o,q,_,d⟩:=hi
   exact ⟨o,q,fun v z=>by rw [d] at z;cases z⟩
 keep:=fun i h h' ⟨⟨old,he⟩,hi⟩ q=>⟨⟨old,q e (by simp) _ he⟩,hi.at fun o z=>q it (by simp) o z⟩
 item:=by
  intro X hP hw hK hc i pins s σ H E I hf ⟨⟨old,he⟩,hi⟩ hg
  subst hP hw hK
  obtain ⟨xs,x,g1,hx⟩:=hg
  obtain ⟨its,rv,pl,hz⟩:=I.list g1
  obtain ⟨u,hu,ru⟩:=rv.get hx
  refine wpAny_pyNext_enum_item he hi pl.isList (x:=u) (by simpa using hu) ne fun h1 ho hi1 hT hsz kp=>?_
  refine ⟨_,rfl,?_⟩
  refine wpAny_letOwnedTupleGo_enum (s:={ s with heap:=h1,toks:=s.toks+1 }) ho fun h2 he2 sb=>?_
  have elt:e<s.heap.objs.size:=Heap.lt_size he
  have kp2:∀ c o,c∉[e,it]→s.heap.get? c=some o→h2.get? c=some o:=fun c o hm z=>by
   have c1:c≠e:=fun q=>hm (by simp [q])
   have c2:c≠it:=fun q=>hm (by simp [q])
   exact sb.extBut c o c1 (kp c o c1 c2 z)
  have hT2:h2.get? s.heap.objs.size=some { cls := .type "tuple",data := .seq #[.int i s.toks,u] }:=sb.extBut _ _ (Nat.ne_of_gt elt) hT
  have I':=I.turnedT (t':=s.toks+1) (h':=h2) (T:=s.heap.objs.size) (vs:=[.int i,x]) kp2 hf (Nat.le_refl _) (show YR X.prog X.w _ h2 _ (.tup [.int i,x]) from ⟨by show 2≤sizeLine;decide,[.int i s.toks,u],.cons ⟨_,rfl⟩ (.cons ru .nil),_,hT2,rfl,_,rfl⟩)
  have fresh:H s.heap.objs.size=none:=I.hok.fresh (Nat.le_refl _)
  refine ⟨.ref s.heap.objs.size,_,I',rfl,⟨_,rfl,fresh,fun xs' x' g1' hx'=>?_⟩,⟨⟨_,by simpa using he2⟩,hi1.at fun o z=>sb.extBut _ _ (Ne.symm ne) z⟩,fun c hm=>?_⟩
  ·rw [I.list_inj g1' g1,hx] at hx'
   cases hx'
   rfl
  ·have h0:=(hf c hm).1
   have clt:c<s.heap.objs.size:=by
    simp only [List.mem_cons,List.not_mem_nil,or_false] at hm
    rcases hm with rfl | rfl
    ·exact elt
    ·obtain ⟨o,q,_⟩:=hi;exact Heap.lt_size q
   rw [Yd (Nat.ne_of_lt clt)]
   exact h0
 done:=by
  intro X hP hw hK hc i pins s σ H E I hf ⟨⟨old,he⟩,hi⟩ hg
  subst hP hw hK
  obtain ⟨xs,g1,hx⟩:=hg
  obtain ⟨its,rv,pl,hz⟩:=I.list g1
  have hl:=rv.length
  obtain ⟨f0,f1,f2,f3,f4,f5⟩:=hf it (by simp)
  exact wpAny_pyNext_enum_end (I.ok.hd hc) he hi pl.isList (by simp;omega) fun h' eb=>⟨rfl,I.turned (t':=s.toks) (fun b o hb z=>eb b o hb z) f0 f1 f3 f4 f5⟩
 self:=fun _ _ _ _ _ ⟨⟨_,he⟩,_⟩ h=>wpAny_pyIter_enum he h
section
variable {X:Cx} {elts:List Expr} {kk:Nat} {tpos:Pos}
def Yda (K:PySem.W.Frag) (ta:TA):TI:=fun σ H R=>ta σ H fun vs H1=>∃ a xs,vs=[.ref a]∧SqL K H1 a xs∧R (Ite fun H xs=>SqL K H a xs) H1
theorem Yd3 {a:Expr} {ta:TA} {p pos:Pos} (hg:Gl X "enumerate") (hm:X.mg "enumerate"=none) (ha:PA X [a] ta) (hs:starEach [a] X.env=[(false,eval a X.env)]) :
  PI X (.Tuple elts kk tpos) (.Call (.Name "enumerate" p) [a] [] pos) (Yda X.K ta):=by
 intro pins s σ H R I h
 refine Call_ (WL I hg hm boot_enumerate (PyProof.Rows.callWith_type1 (thn (ha pos pins s σ H _ I h) fun us s1 ⟨vs,H1,I1,r1,q1⟩=>?_) hs rfl))
 obtain ⟨x,xs,e,hx,q⟩:=q1
 subst e
 obtain ⟨u,rfl,ru⟩:=WB r1
 cases ru
 obtain ⟨i1,_,pl,_⟩:=I1.list hx
 have l1:x<s1.heap.objs.size:=by obtain ⟨_,e,_⟩:=pl.isList;exact Heap.lt_size e
 refine call_enumerate_list pl.isList fun h' he hi hsz keep=>?_
 refine wpAny_pyIter_enum he ?_
 have I2:Inv X pins σ H1 { s1 with heap:=h' }:=I1.kept (t':=s1.toks) keep
 have l1':@LT.lt Nat _ x s1.heap.objs.size:=l1
 refine ⟨_,[s1.heap.objs.size+1,s1.heap.objs.size],_,_,H1,rfl,I2,Yce (by intro z;have z':@Eq Nat _ _:=z;omega) ⟨by intro z;have z':@Eq Nat _ _:=z;omega,by intro z;have z':@Eq Nat _ _:=z;omega⟩,⟨⟨_,he⟩,hi⟩,fun c hc=>?_,q⟩
 have hle:s1.heap.objs.size≤c:=by
  simp only [List.mem_cons,List.not_mem_nil,or_false] at hc
  rcases hc with e | e<;>(have e':@Eq Nat _ _:=e;show @LE.le Nat _ s1.heap.objs.size c;omega)
 exact I1.fpOk hle (I1.hok.fresh hle)
end
end L2
namespace L2
open PySem PySem.Spec PyProof.Rows
mutual
inductive Den (K:PySem.W.Frag) (H:Hp):V→PyData→Prop
 | non:Den K H .non .none
 | bl (b:Bool):Den K H (.bl b) (.bool b)
 | int (i:Int):Den K H (.int i) (.int i)
 | str (x:Str) (h:PyData.strOk x=true):Den K H (.str x) (.str x)
 | lst {a:Addr} {vs:List V} {ds:List PyData}:SqL K H a vs→Dens K H vs ds→Den K H (.ref a) (.list ds)
 | tup {a:Addr} {vs:List V} {ds:List PyData}:SqT K H a vs→Dens K H vs ds→Den K H (.ref a) (.tuple ds)
inductive Dens (K:PySem.W.Frag) (H:Hp):List V→List PyData→Prop
 | nil:Dens K H [] []
 | cons {v:V} {d:PyData} {vs:List V} {ds:List PyData}:Den K H v d→Dens K H vs ds→Dens K H (v::vs) (d::ds)
end
mutual
theorem Den.keep {K:PySem.W.Frag} {H H':Hp} (e:Yk H H'):∀ {v:V} {d:PyData},Den K H v d→Den K H' v d
 | _,_,.non => .non
 | _,_,.bl b => .bl b
 | _,_,.int i => .int i
 | _,_,.str x h => .str x h
 | _,_,.lst h hs => .lst (e.seq h) (hs.keep e)
 | _,_,.tup h hs => .tup (e.tup h) (hs.keep e)
theorem Dens.keep {K:PySem.W.Frag} {H H':Hp} (e:Yk H H'):∀ {vs:List V} {ds:List PyData},Dens K H vs ds→Dens K H' vs ds
 | _,_,.nil => .nil
 | _,_,.cons h hs => .cons (h.keep e) (hs.keep e)
end
mutual
theorem Den.lay {K:PySem.W.Frag} {H:Hp}:∀ {v:V} {d:PyData},Den K H v d→d.canLay0=true
 | _,_,.non=>rfl
 | _,_,.bl b=>rfl
 | _,_,.int i=>rfl
 | _,_,.str x h=>by simpa [PyData.canLay0] using h
 | _,_,.lst _ hs=>by rw [PyData.canLay0];exact hs.lay
 | _,_,.tup _ hs=>by rw [PyData.canLay0];exact hs.lay
theorem Dens.lay {K:PySem.W.Frag} {H:Hp}:∀ {vs:List V} {ds:List PyData},Dens K H vs ds→PyData.canLayAll0 ds=true
 | _,_,.nil=>rfl
 | _,_,.cons h hs=>by rw [PyData.canLayAll0,h.lay,hs.lay];rfl
end
theorem Dens.length {K:PySem.W.Frag} {H:Hp}:∀ {vs:List V} {ds:List PyData},Dens K H vs ds→vs.length=ds.length
 | _,_,.nil=>rfl
 | _,_,.cons _ hs=>congrArg (·+1) hs.length
section
variable {X:Cx}
mutual
theorem Den.reads {pins:List (Addr×Obj)} {σ:St} {H:Hp} {s:Shared} (I:Inv X pins σ H s):∀ {v:V} {d:PyData} {u:Value},Den X.K H v d→Yz v u→∃ as,Reads s.heap u d as
 | _,_,u,.non,r=>by cases (show u = .none from r);exact ⟨_,.none⟩
 | _,_,u,.bl b,r=>by cases (show u = .bool b from r);exact ⟨_,.bool b⟩
 | _,_,u,.int i,r=>by obtain ⟨t,rfl⟩:=r;exact ⟨_,.int i t⟩
 | _,_,u,.str x h,r=>by obtain ⟨t,rfl⟩:=r;exact ⟨_,.str x t⟩
 | _,_,u,.lst (a:=a) h hs,r=>by
  cases (show u = .ref a from r)
  obtain ⟨its,rv,pl,hz⟩:=I.list h
  obtain ⟨as,ra⟩:=hs.reads I rv
  obtain ⟨o,e1,e2,n,e3⟩:=pl.isList
  exact ⟨_,.list e1 e2 e3 (by simpa using ra)⟩
 | _,_,u,.tup (a:=a) h hs,r=>by
  cases (show u = .ref a from r)
  obtain ⟨its,rv,pl,hz⟩:=I.tuple h
  obtain ⟨as,ra⟩:=hs.reads I rv
  obtain ⟨o,e1,e2,n,e3⟩:=(show s.heap.IsTuple a its.toArray from pl)
  exact ⟨_,.tuple e1 e2 e3 (by simpa using ra)⟩
theorem Dens.reads {pins:List (Addr×Obj)} {σ:St} {H:Hp} {s:Shared} (I:Inv X pins σ H s):∀ {vs:List V} {ds:List PyData} {us:List Value},Dens X.K H vs ds→Yp vs us→∃ as,ReadsAll s.heap us ds as
 | _,_,us,.nil,r=>by cases r;exact ⟨_,.nil⟩
 | _,_,us,.cons h hs,r=>by
  cases r with
  | cons r rr =>
   obtain ⟨as,ra⟩:=h.reads I r
   obtain ⟨bs,rb⟩:=hs.reads I rr
   exact ⟨_,.cons ra rb⟩
end
theorem Ydb (hu:X.A.units+64<cLine):OpR X (compareOp .NotEq) (fun x y H Q=>∃ d e,Den X.K H x d∧Den X.K H y e∧d.depth≤64∧Q (.bl (!PyData.eqv d e)) H):=by
 intro pins s σ H x y v u Q I rx ry h
 obtain ⟨d,e,hd,he,dp,q⟩:=h
 obtain ⟨as,ra⟩:=hd.reads I rx
 obtain ⟨bs,rb⟩:=he.reads I ry
 exact SeqAt.compareNe_reads ra rb hd.lay he.lay (by omega) ⟨.bl _,H,I,rfl,q⟩
end
theorem Xo {α:Type} {l:List α} {i:Nat} {x:α} (h:l[i]?=some x):l.take (i+1)=l.take i++[x]:=by
 obtain ⟨hi,hc⟩:=List.getElem?_eq_some_iff.mp h
 rw [List.take_succ_eq_append_getElem hi,hc]
theorem Ydc {J:It} {P:Hp→Prop} {xs:List V} (hJ:Wn J P xs) {src:List (Option Nat)} {te:TE} {σ:St} {H1:Hp} {Q:VK} {D:Addr} (ys:List V) (hP:∀ H',Yk H1 H'→P H') (hD:H1 D=none) (hl:ys.length=xs.length) (hlen:xs.length≤100000)
  (step:∀ (i:Nat) x y H',xs[i]?=some x→ys[i]?=some y→Yk H1 H'→∀ R:VK,(∀ H'',Yk H' H''→R y H'')→te (some x::YD src σ) H' R)
  (fin:∀ H',Yk H1 H'→H' D=some (.lst ys)→Q (.ref D) H'):LC (none::src) J (Yy 0) XT te σ H1 Q D:=by
 have h6:100000<sizeLine:=by decide
 refine W0 hJ (fun i zs σ' H'=>zs=ys.take i∧(∃ o,σ'=o::YD src σ)∧Yk H1 H'∧H' D=some (.lst zs)) ⟨by simp,⟨none,rfl⟩,.upd_new hD _,Yg⟩ (fun i zs σ' H' p=>⟨hP _ p.2.2.1,p.2.2.2⟩) (XM 0) ?_ ?_
 ·rintro i zs σ' H' x hx ⟨rfl,⟨o,rfl⟩,sm,hd⟩
  have hi:=(List.getElem?_eq_some_iff.mp hx).1
  have hy:ys[i]?=some (ys[i]'(by omega)):=List.getElem?_eq_getElem _
  show te (some x::YD src σ) H' _
  refine step i x _ H' hx hy sm _ fun H'' s2=>⟨s2 _ _ hd,?_,(Xo hy).symm,⟨_,rfl⟩,.upd_over hD (sm.trans s2) _,Yg⟩
  rw [List.length_take];omega
 ·rintro zs σ' H' ⟨rfl,_,sm,hd⟩
  rw [← hl,List.take_length] at hd
  exact fin H' sm hd
theorem Ue (K:PySem.W.Frag) (i j:Nat):∀ x σ H Q Q',(∀ σ' H',Q σ' H'→Q' σ' H')→W2 K 2 (Xt (Yy i) (Xt (Yy j) Vl)) x σ H Q→W2 K 2 (Xt (Yy i) (Xt (Yy j) Vl)) x σ H Q':=by
 rintro x σ H Q Q' h ⟨a,xs,e,sq,l,v,r,e1,v2,r2,e2,e3,q⟩
 exact ⟨a,xs,e,sq,l,v,r,e1,v2,r2,e2,e3,h _ _ q⟩
end L2
namespace L2
open PySem PySem.Spec PyProof.Rows
section
variable {a b c d e r:TS} {D:Ends} {σ:St} {H:Hp} (M:St→Hp→Prop) (h1:∀ σ H,M σ H→r D σ H)
include h1
theorem cut1 (h2:∀ N:St→Hp→Prop,(∀ σ H,M σ H→N σ H)→a { D with nx:=N } σ H):QY a r D σ H:=h2 (r D) h1
end
theorem Yfk (i j:Int):YbX (.int i) (.int j)=true:=rfl
theorem Xc (i j:Str):YbX (.str i) (.str j)=true:=rfl
end L2
namespace L2
open PySem PySem.Spec PyProof.Rows
theorem Xd {α:Type} {c:TT} {tb:TS} {D:Ends} {σ:St} {H:Hp} (Pv:α→St→Hp→Prop) (cond:α→Bool) (μ:α→Nat) (a₀:α) (h0:Pv a₀ σ H)
  (hc:∀ a σ H,Pv a σ H→∀ R:Bool→Hp→Prop,(∀ H',Pv a σ H'→R (cond a) H')→c σ H R)
  (hb:∀ a σ H,Pv a σ H→cond a=true→tb { D with nx:=fun σ' H'=>∃ a',Pv a' σ' H'∧μ a'<μ a,ct:=fun σ' H'=>∃ a',Pv a' σ' H'∧μ a'<μ a,bk:=D.nx } σ H)
  (hd:∀ a σ H,Pv a σ H→cond a=false→D.nx σ H):YcU c tb D σ H:=by
 refine ⟨fun m σ H=>∃ a,m=μ a∧Pv a σ H,⟨_,a₀,rfl,h0⟩,?_⟩
 rintro m σ H ⟨a,rfl,p⟩
 refine hc a σ H p _ fun H' p'=>?_
 cases e:cond a with
 | true=>exact ⟨_,fun σ' H' ⟨a',q,l⟩=>⟨_,l,a',rfl,q⟩,hb a σ H' p' e⟩
 | false=>exact hd a σ H' p' e
section
variable {X:Cx} {tg:Expr}
def Itd (hi:Int) (n:Nat):It:=⟨fun i _=>i<n,fun i H x H'=>H'=H∧x = .int (hi - i),fun i _=>n≤i⟩
theorem Ydd {P:Program} {w:World} {K:PySem.W.Frag} {tg:Expr} (it:Addr) (hi:Int) (n:Nat):Turn P w K tg (Itd hi n) [it] it (fun i h=>IsRangeIter h it (hi+(i:Nat)*(-1)) ((n:Int) - (i:Nat)) (-1)) where
 mem:=by simp
 obj:=fun i h st b hb=>by
  have e:b=it:=by simpa using hb
  subst e
  exact ⟨_,st,fun v z=>by
   have z':Data.fields _=Data.cell v:=z
   cases z'⟩
 keep:=fun i h h' st k=>k it (by simp) _ st
 item:=by
  intro X hP hw hK hc i pins s σ H E I hf st hg
  subst hP hw hK
  obtain ⟨f0,f1,f2,f3,f4,f5⟩:=hf it (by simp)
  have W:=Walks.range (prog:=X.prog) (w:=X.w) (I.ok.hd hc) it hi (-1) n
  refine W.item i s _ _ hg st fun v h' tk hv st' kk=>?_
  obtain ⟨t,rfl⟩:=hv
  have I1:Inv X pins σ H { s with heap:=h',toks:=tk }:=I.turned (fun b o hb e=>kk b o (by simpa using hb) e) f0 f1 f3 f4 f5
  refine ⟨_,rfl,QI (s:={ s with heap:=h',toks:=tk }) (n:="range_iterator") st' rfl rfl (by decide) ⟨.int (hi - i),H,I1,⟨t,?_⟩,⟨rfl,rfl⟩,st',fun b hb=>(hf b hb).1⟩⟩
  have:hi+(i:Int) * -1=hi - i:=by omega
  rw [this]
 done:=by
  intro X hP hw hK hc i pins s σ H E I hf st hg
  subst hP hw hK
  obtain ⟨f0,f1,f2,f3,f4,f5⟩:=hf it (by simp)
  exact wpAny_pyNext_range_end (I.ok.hd hc) st (by have:n≤i:=hg;omega) fun h' eb=>⟨rfl,I.turned (t':=s.toks) (fun b o hb e=>eb b o hb e) f0 f1 f3 f4 f5⟩
 self:=fun _ _ _ _ _ st h=>wpAny_pyIter_rangeiter st h
theorem Ycf {a b:Int} (ha : -(2^62)≤a) (ha':a<2^62) (hb : -(2^62)≤b) (hb':b<2^62):Builtin.Range.small a b (-1)=true:=by
 have e:Builtin.Range.rangeSize a b (-1)=if a>b then a - b else 0:=by unfold Builtin.Range.rangeSize;simp
 unfold Builtin.Range.small
 rw [e]
 simp only [Builtin.Range.rangeFitsLong,Bool.and_eq_true,Bool.or_eq_true,decide_eq_true_eq,beq_iff_eq,show ¬ ((-1:Int)>0) by decide,if_false]
 split<;>omega
theorem Yfl {pins:List (Addr×Obj)} {σ:St} {H:Hp} {s:Shared} {R:It→Hp→Prop} {E:Value→Shared→Prop} {lo hi:Int} {t u v:Tok} {tk:Nat} (I:Inv X pins σ H s) (h1 : -(2^62)≤lo) (h2:lo<2^62) (h3 : -(2^62)≤hi) (h4:hi<2^62)
  (q:R (Itd lo (lo - hi).toNat) H):wpAny (model X.prog X.w) X.A (pyIter (.ref s.heap.objs.size)) (PIE X pins σ tg R) E { s with heap:=s.heap.push { cls := .type "range",data := .fields #[.int lo t,.int hi u,.int (-1) v] },toks:=tk }:=by
 refine wpAny_pyIter_range (IsRange.new ..) (Ycf h1 h2 h3 h4) ?_
 have I1:Inv X pins σ H { s with heap:=s.heap.push { cls := .type "range",data := .fields #[.int lo t,.int hi u,.int (-1) v] },toks:=tk }:=I.kept fun b o e=>Heap.get?_push_of_some _ e
 refine ⟨(s.heap.push { cls := .type "range",data := .fields #[.int lo t,.int hi u,.int (-1) v] }).objs.size,[(s.heap.push { cls := .type "range",data := .fields #[.int lo t,.int hi u,.int (-1) v] }).objs.size],_,_,H,rfl,
  I1.kept (t':=tk) fun b o e=>Heap.get?_push_of_some _ e,Ydd _ lo (lo - hi).toNat,?_,fun b hb=>?_,q⟩
 ·have e1:lo+((0:Nat):Int)*(-1)=lo:=by simp
  have e2:(((lo - hi).toNat:Nat):Int) - ((0:Nat):Int)=Builtin.Range.rangeSize lo hi (-1):=by unfold Builtin.Range.rangeSize;simp;split<;>omega
  show IsRangeIter _ _ (lo+((0:Nat):Int)*(-1)) ((((lo - hi).toNat:Nat):Int) - ((0:Nat):Int)) (-1)
  rw [e1,e2]
  exact Heap.get?_push_size _ rfl
 ·have e:b=(s.heap.push { cls := .type "range",data := .fields #[.int lo t,.int hi u,.int (-1) v] }).objs.size:=by simpa using hb
  subst e
  exact I1.fpOk (Nat.le_refl _) (I1.hok.fresh (Nat.le_refl _))
def YeU (ta:TA):TI:=fun σ H R=>ta σ H fun vs H1=>∃ i j:Int,vs=[.int i,.int j,.int (-1)]∧(-(2^62)≤i∧i<2^62 ∧ -(2^62)≤j∧j<2^62)∧R (Itd i (i - j).toNat) H1
theorem Yde {a b c:Expr} {ta:TA} {p pos:Pos} (hg:Gl X "range") (hm:X.mg "range"=none) (ha:PA X [a,b,c] ta) (hs:starEach [a,b,c] X.env=[(false,eval a X.env),(false,eval b X.env),(false,eval c X.env)]) (hs2:starEach [b,c] X.env=[(false,eval b X.env),(false,eval c X.env)]) :
  PI X tg (.Call (.Name "range" p) [a,b,c] [] pos) (YeU ta):=by
 intro pins s σ H R I h
 refine Call_ (WL I hg hm boot_range (PyProof.Rows.callWith_type1 (thn (ha pos pins s σ H _ I h) fun us s1 ⟨vs,H1,I1,r1,q1⟩=>?_) (by rw [hs,hs2]) (by rw [hs2];rfl)))
 obtain ⟨i,j,e,⟨q1,q2,q3,q4⟩,q⟩:=q1
 subst e
 cases r1 with
 | cons r rr =>
  cases rr with
  | cons r' rr =>
   cases rr with
   | cons r'' rr =>
    cases rr
    obtain ⟨t,rfl⟩:=r
    obtain ⟨t',rfl⟩:=r'
    obtain ⟨t'',rfl⟩:=r''
    exact call_range_3 (by decide) (Yfl I1 q1 q2 q3 q4 q) (.inl (PyProof.noPylong_small (by decide)))
end
end L2
namespace L2
open PySem PySem.Spec PyProof.Rows
theorem Ycg {g:TG} {tb:TS} {D:Ends} {σ:St} {H:Hp} {K:PySem.W.Frag} {tl:TE} {xs:List V} (Pv:Addr→Nat→St→Hp→Prop) (ha:∀ R:V→Hp→Prop,(∀ c H1,Pv c 0 σ H1→R (.ref c) H1)→tl σ H R) (hl:∀ c i σ H,i≤xs.length→Pv c i σ H→SqL K H c xs)
  (hs:∀ c (i:Nat) x σ H,xs[i]?=some x→Pv c i σ H→g x σ H fun σ2 H2=>tb { D with nx:=Pv c (i+1),ct:=Pv c (i+1),bk:=D.nx } σ2 H2) (hd:∀ c σ H,Pv c xs.length σ H→D.nx σ H):Ui (WA K tl) g tb D σ H:=by
 refine ha _ fun c H1 h0=>⟨c,rfl,⟨xs,hl c 0 σ H1 (Nat.zero_le _) h0⟩,?_⟩
 exact Q5 (Pv c) h0 (hl c) (hs c) (hd c)
end L2
namespace L2
open PySem PySem.Spec PyProof.Rows
section
variable {src:List (Option Nat)} {te:TE} {σ:St} {H:Hp} {Q:VK}
theorem Vo {ta:TA} {n:Nat} (ys:List V) (ha:∀ R:List V→Hp→Prop,R [.int n] H→ta σ H R) (hl:ys.length=n) (hlen:n≤100000)
  (step:∀ (i:Nat) y H',i<n→ys[i]?=some y→Yk H H'→∀ R:VK,(∀ H'',Yk H' H''→R y H'')→te (some (.int i)::YD src σ) H' R)
  (fin:∀ D H',H D=none→Yk H H'→H' D=some (.lst ys)→Q (.ref D) H'):tLC (none::src) (Ut ta) (Yy 0) XT te σ H Q:=by
 refine ha _ ⟨n,rfl,by omega,by omega,fun D hD=>?_⟩
 refine Ydc (W4 (lo:=0) (n:=n) (P:=fun _=>True)) ys (fun _ _=>trivial) hD (by simpa using hl) (by simpa using hlen) (fun i x y H' hx hy sm R r=>?_) fun H'=>fin D H' hD
 have hi:i<n:=by have:=(List.getElem?_eq_some_iff.mp hx).1;simpa using this
 rw [List.getElem?_map,List.getElem?_range hi] at hx
 have e:V.int (0+(i:Int))=x:=Option.some.inj hx
 rw [Int.zero_add] at e
 subst e
 exact step i y H' hi hy sm R r
theorem Qv {K:PySem.W.Frag} {tl:TE} {xs:List V} (ys:List V) (ha:∀ R:V→Hp→Prop,(∀ a H1,Yk H H1→SqL K H1 a xs→R (.ref a) H1)→tl σ H R) (hl:ys.length=xs.length) (hlen:xs.length≤100000)
  (step:∀ (i:Nat) x y H',xs[i]?=some x→ys[i]?=some y→Yk H H'→∀ R:VK,(∀ H'',Yk H' H''→R y H'')→te (some x::YD src σ) H' R)
  (fin:∀ D H',H D=none→Yk H H'→H' D=some (.lst ys)→Q (.ref D) H'):tLC (none::src) (WA K tl) (Yy 0) XT te σ H Q :=
 ha _ fun a H1 s1 hS=>⟨a,rfl,⟨xs,hS⟩,fun D hD=>Ydc (X2.imp fun H' (e:Yk H1 H')=>e.seq hS) ys (fun _ e=>e) hD hl hlen (fun i x y H' hx hy sm R r=>step i x y H' hx hy (s1.trans sm) R r) fun H' sm=>fin D H' (s1.free hD) (s1.trans sm)⟩
end
end L2
namespace L2
open PySem PySem.Spec PyProof.Rows
section
variable {src:List (Option Nat)} {te:TE} {σ:St} {H:Hp} {Q:VK}
end
section
variable {X:Cx} {K:PySem.W.Frag}
end
end L2
namespace L2
open PySem PySem.Spec PyProof.Rows
section
variable {tb:TS} {D:Ends} {σ:St} {H:Hp}
end
end L2
namespace L2
open PySem PySem.Spec PyProof.Rows
section
variable {X:Cx} {e st:Expr} {te ts:TE} {pos p2:Pos}
def tRev (K:PySem.W.Frag) (te ts:TE):TE:=fun σ H Q=>te σ H fun x H1=>ts σ H1 fun y H2=>y = .int (-1)∧∃ a xs,x = .ref a∧SqL K H2 a xs∧∀ p,H2 p=none→Q (.ref p) (upd H2 p (.lst xs.reverse))
end
end L2
namespace L2
open PySem PySem.Spec PyProof.Rows
section
variable {X:Cx} {pos:Pos}
theorem Yf1:OpR X (compareOp .Is) (fun x y H Q=>∃ a b,x = .bl a∧y = .bl b∧Q (.bl (a==b)) H):=by
 intro pins s σ H x y v u Q I rx ry h
 obtain ⟨a,b,rfl,rfl,q⟩:=h
 cases rx
 cases ry
 exact is_bool ⟨.bl _,H,I,rfl,q⟩
def Ych:V→List V→Hp→VK→Prop:=fun x vs H Q=>∃ i,x = .int i∧vs=[]∧Q (.int (Builtin.Int.intBits i:Nat)) H
theorem Yfm:MtR X "int.bit_length" Ych:=by
 intro pins s σ H x vs v us Q I rx r h
 obtain ⟨i,rfl,rfl,q⟩:=h
 obtain ⟨t,rfl⟩:=rx
 cases r
 exact call_gives F.slot_int_bit_length (typeIs_int s i t) F.entry_int_bit_length (F.args_int_bit_length_1 _) (AutoIntG2.int_bit_length_int_0 i t) ⟨.int _,H,I.tok _,⟨_,rfl⟩,q⟩
def YeV:V→List V→Hp→VK→Prop:=fun x vs H Q=>∃ (z y:Str),x = .str z∧vs=[.str y]∧Q (.int (Txt.find z y)) H
def Ydf:TE:=fun _ H Q=>∀ p,H p=none→Q (.ref p) (upd H p (.dK []))
end
section
variable {X:Cx} {g:Gx} {x:Str} {pos:Pos}
def YeW (K:PySem.W.Frag) (xs:List V):TE:=fun _ H Q=>∀ c,SqT K H c xs→Q (.ref c) H
end
end L2
namespace L2
open PySem PySem.Spec PyProof.Rows
theorem YZ {c A B:Prop} [Decidable c] (h:¬ c) (hb:B):if c then A else B:=by rw [if_neg h];exact hb
theorem X3 {c A B:Prop} [Decidable c] (h:c) (ha:A):if c then A else B:=by rw [if_pos h];exact ha
section
variable {src:List (Option Nat)} {te:TE} {σ:St} {H:Hp} {Q:VK}
end
section
variable {X:Cx} {K:PySem.W.Frag} {o e:Expr} {es:List Expr} {to:TE} {t:TA} {name:Str} {apos cpos:Pos} {T id:String} {r:V→List V→Hp→VK→Prop}
end
section
variable {X:Cx}
def CMulC (i j:Int):Prop:=QN i j∨CMul i j
theorem Xw:OpR X (binaryOp .Mult) (rI CMulC fun i j => .int (i*j)):=opI fun _ _ _ _ _ _ _ hc q=>mul_int q (hc.elim (fun h=>h.ok) fun h=>h.ok)
end
end L2
namespace L2
open PySem PySem.Spec PyProof.Rows
section
variable {prog:Program} {w:World} {A:Around} {E:Value→Shared→Prop} {s:Shared} {z TI TO i1 i2 T:Addr} {S1 S2:Nat→Heap→Prop} {R1 R2:Heap→(Nat→Option Value)→Prop} {g1 g2:Nat→Option Value} {k:Nat} {a b:Value} {f:Bool} {oT:Obj}
end
section
variable {prog:Program} {w:World} {A:Around} {s:Shared} {R:Result→Shared→Prop} {z TI TO i1 i2 S p1 p2:Addr} {xs ys:List Value}
end
end L2
namespace L2
open PySem PySem.Calls PySem.Spec PyProof.Rows PyProof.V
section
variable {prog:Program} {w:World} {A:Around} {E:Value→Shared→Prop} {s:Shared} {z TI TO i1 i2 p1 p2:Addr} {xs ys:List Value}
end
end L2
namespace L2
open PySem PySem.Spec PyProof.Rows
section
variable {X:Cx} {pins:List (Addr×Obj)} {σ:St} {H H':Hp} {s:Shared} {h':Heap}
end
section
variable {X:Cx}
def tLZ (K:PySem.W.Frag) (ta:TA):TE:=fun σ H Q=>ta σ H fun vs H1=>∃ a b xs ys,vs=[.ref a,.ref b]∧SqT K H1 a xs∧SqT K H1 b ys∧xs.length=ys.length ∧
 ∀ (l:Addr) (as:List Addr) (H2:Hp),H1 l=none→Yk H1 H2→H2 l=some (.lst (as.map V.ref))→as.length=xs.length →
  (∀ (j:Nat) a x y,as[j]?=some a→xs[j]?=some x→ys[j]?=some y→H1 a=none∧H2 a=some (.tup [x,y]))→Q (.ref l) H2
end
end L2
namespace L2
open PySem PySem.Spec PyProof.Rows
section
variable {src:List (Option Nat)} {te:TE} {σ:St} {H:Hp} {Q:VK}
theorem Yf2 {J:It} {P:Hp→Prop} {xs:List V} (hJ:Wn J P xs) {H1:Hp} {D:Addr} (Rl:Nat→V→Hp→Prop) (st:∀ i y H H',Rl i y H→Yk H H'→Rl i y H') (su:∀ i y H p zs zs',Rl i y H→H p=some (.lst zs)→Rl i y (upd H p (.lst zs')))
  (hP:∀ H',Yk H1 H'→P H') (hD:H1 D=none) (hlen:xs.length≤100000)
  (step:∀ (i:Nat) x H',xs[i]?=some x→Yk H1 H'→∀ R:VK,(∀ y H'',Yk H' H''→Rl i y H''→R y H'')→te (some x::YD src σ) H' R)
  (fin:∀ (ys:List V) H',Yk H1 H'→H' D=some (.lst ys)→ys.length=xs.length→(∀ (j:Nat) y,ys[j]?=some y→Rl j y H')→Q (.ref D) H'):LC (none::src) J (Yy 0) XT te σ H1 Q D:=by
 have h6:100000<sizeLine:=by decide
 refine W0 hJ (fun i zs σ' H'=>zs.length=i∧(∃ o,σ'=o::YD src σ)∧Yk H1 H'∧H' D=some (.lst zs)∧∀ (j:Nat) y,zs[j]?=some y→Rl j y H')
  ⟨rfl,⟨none,rfl⟩,.upd_new hD _,Yg,fun j y h=>by simp at h⟩ (fun i zs σ' H' ⟨_,_,p1,p2,_⟩=>⟨hP _ p1,p2⟩) (XM 0) ?_ ?_
 ·rintro i zs σ' H' x hx ⟨hi',⟨o,rfl⟩,sm,hd,hts⟩
  have hi:=(List.getElem?_eq_some_iff.mp hx).1
  show te (some x::YD src σ) H' _
  refine step i x H' hx sm _ fun y H'' s2 hy=>⟨s2 _ _ hd,by omega,by simp [hi'],⟨_,rfl⟩,.upd_over hD (sm.trans s2) _,Yg,fun j z hj=>su _ _ _ _ _ _ ?_ (s2 _ _ hd)⟩
  rcases Nat.lt_trichotomy j zs.length with h1 | h1 | h1
  ·rw [List.getElem?_append_left h1] at hj
   exact st _ _ _ _ (hts j z hj) s2
  ·have hb:y=z:=by subst h1;simpa using hj
   subst hb
   rw [h1,hi']
   exact hy
  ·rw [List.getElem?_eq_none (by rw [List.length_append,List.length_singleton];omega)] at hj;cases hj
 ·rintro zs σ' H' ⟨hn,_,sm,hd,hts⟩
  exact fin zs H' sm hd hn hts
end
end L2
namespace L2
open PySem PySem.Spec PyProof.Rows
section
variable {X:Cx}
theorem Yd4 {i:Nat} {x:Str} {pos':Pos} {pins:List (Addr×Obj)} {σ:St} {D0:Ends} (hN:X.N.Nodup) (hix:X.N[i]?=some x) (hlx:Loc X.env.scope x) (hf:X.fn x=true∨X.env.scope.names.lookup x=some .local) (D C:Addr) (s6:Shared) (H5:Hp)
  (fi:∀ h',Heap.SameBut C s6.heap h'→Inv X pins σ H5 { s6 with heap:=h' }) (hn:∃ m,s6.heap.Ns C m) (hCn:H5 C=none) (hC:∀ {H':Hp},H' C=none→X9 X pins H' C) (qn:D0.nx (σ.set i (some (.ref D))) H5) :
  compPost (model X.prog X.w) X.A X.xe (some fun v=>assignAll v ((assignEach [.Name x pos'] X.env).map (·.2))) (fun _ s'=>wpAny (model X.prog X.w) X.A (pure PUnit.unit) (fun _ s'=>wpAny (model X.prog X.w) X.A (pure Flow.next) (SP X pins D0) X.xe s') X.xe s') (.ref D) C (.ok .next) s6:=by
 obtain ⟨m,oC,es,ep,hoC,rC⟩:=hn
 have IO:Inv X pins σ H5 s6:=fi s6.heap (Heap.SameBut.refl _ _)
 have IP:=IO.pinned (fp:=[C]) (fun b hb=>by rw [List.mem_singleton.mp hb];exact hC hCn) (fun b hb=>by rw [List.mem_singleton.mp hb];exact ⟨oC,hoC,fun v z=>by (rw [rC.1] at z;cases z)⟩)
 show wpAny _ _ (assign (.Name x pos') X.env (.ref D)) _ _ _
 refine thn (Yx hN hix hlx hf _ s6 σ H5 (.ref D) (.ref D) _ IP rfl qn) fun _ s7 ⟨σ7,H7,I7,q7⟩=>?_
 obtain ⟨g1,g2,_⟩:=I7.pin (C,oC) (List.mem_append_right _ (List.mem_append_right _ (X1 (List.mem_singleton.mpr rfl) hoC)))
 refine ⟨m,⟨oC,es,ep,g1,rC⟩,fun h' sb=>wpAny_pure (wpAny_pure ⟨σ7,H7,?_,q7⟩)⟩
 exact I7.unpinned.turnedL (t':=s7.toks) (ch:=[C]) (fun b o hb e=>sb.extBut b o (fun z=>hb (by rw [z];exact List.mem_singleton.mpr rfl)) e) (fun b hb=>by rw [List.mem_singleton.mp hb];exact hC g2)
theorem UY {i:Nat} {x:Str} {pos' apos:Pos} {elt tg iter:Expr} {ifs:List Expr} {scope:Scope} {pos:Pos} {src:List (Option Nat)} {N':List Str} {wi:TI} {g:TG} {tt:TT} {te:TE} (hN:X.N.Nodup) (hix:X.N[i]?=some x) (hlx:Loc X.env.scope x) (hcap:Cap X scope src N') (hc:X.calm=true) (hi:PI X tg iter wi)
  (hg:∀ cl C s₀ H₀ fp pn,PG (cxC X scope N' cl C s₀ H₀ fp pn) tg g) (ht:∀ cl C s₀ H₀ fp pn,PTs (cxC X scope N' cl C s₀ H₀ fp pn) ifs tt) (he:∀ cl C s₀ H₀ fp pn,PE (cxC X scope N' cl C s₀ H₀ fp pn) elt te)
  (hfree:∀ x,(x,NameKind.free)∈scope.names→X.env.scope.names.lookup x=some NameKind.cell∨X.env.scope.names.lookup x=some NameKind.free)
  (hk:scope.kind = .function) (hcell:∀ y∈scope.names,y.2 ≠ .cell) (hnames:∀ y∈scope.names,y.2 = .local→scope.names.lookup y.1=some .local)
  (hs:∀ x,foldedSetIterable iter X.env x=pure x) (hsw:swapsWithSole [.Name x pos'] (.ListComp elt [⟨tg,iter,ifs,0⟩] scope pos) apos.line X.env=pure true) (hf:X.fn x=true∨X.env.scope.names.lookup x=some .local) :
  PS X (.Assign [.Name x pos'] (.ListComp elt [⟨tg,iter,ifs,0⟩] scope pos) apos) (Q0 (tLC src wi g tt te) (Yy i)):=by
 intro pins s σ H D0 I h
 obtain ⟨cl,hcl,a,b⟩:=Uy X.env scope fun x hx=>I.ok.has x (hfree x hx)
 rw [exec_Assign_arm]
 refine wpAny_bind (wpAny_standAt ?_)
 rw [hsw]
 refine wpAny_bind (wpAny_pure ?_)
 rw [if_pos rfl]
 refine wpAny_bind ?_
 rw [arm_evalThenUse_ListComp]
 refine wpAny_bind ?_
 refine wpAny_comprehension_free (use:=some _) rfl hs hcl hk hnames (thn (hi pins s σ H _ I h) fun v s1 h1=>thn h1 fun itv s2 h2=>?_)
 exact Yae (Po:=fun v C=>compPost (model X.prog X.w) X.A X.xe (some fun v=>assignAll v ((assignEach [.Name x pos'] X.env).map (·.2))) (fun _ s'=>wpAny (model X.prog X.w) X.A (pure PUnit.unit) (fun _ s'=>wpAny (model X.prog X.w) X.A (pure Flow.next) (SP X pins D0) X.xe s') X.xe s') v C) (Z:=fun _ _ _ _ _ _ _=>False) hcap hc (hg cl) (ht cl) (he cl) hk hcell a b h2 (Yd4 hN hix hlx hf) fun _ _ _ _ _ _ _ _ z=>z.elim
end
end L2
namespace L2
open PySem PySem.Spec PyProof.Rows
section
variable {P:Program} {w:World} {l:List Env} {H H':Hp} {h h' h'' B:Heap} {e:Addr} {cls:Value}
end
section
variable {X:Cx} {pins:List (Addr×Obj)} {σ:St} {H H':Hp} {s s':Shared} {h' B:Heap} {e:Addr} {cls:Value} {M:Model} {A:Around} {Q:Unit→Shared→Prop} {EE:Value→Shared→Prop}
end
section
variable {g:Gx} {N:List Str} {qual:Str} {st:Stmt} {f:Addr} {cdv:Value} {A:Around} {outer:List Env} {s:Shared} {H:Hp} {E:XK}
end
section
variable {g:Gx} {k:Nat} {x qual m:Str} {st:Stmt} {N ps:List Str} {sp:Sp} {C:Addr}
end
section
variable {g:Gx} {X:Cx} {k j:Nat} {x:Str} {ps:List Str} {sp:Sp} {E:XK} {e:Expr} {es:List Expr} {t:TA} {p pos cpos np:Pos}
def Ydg (C:Addr) (E:XK) (t:TA):TS:=fun _ σ H=>t σ H fun vs H1=>vs.length≤sizeLine∧E (.ref C) none H1
end
section
variable {X:Cx} {pins:List (Addr×Obj)} {σ:St} {H H' H1:Hp} {s s1 s':Shared} {e:Value} {D:Ends} {ts:TS} {b₀:Stmt} {suite:List Stmt} {c:Str} {cv:Value} {cp hpos:Pos}
end
def tTry (K:PySem.W.Frag) (cv:Value) (sp:Sp) (t:TA) (i:Nat) (ts:TS):TS:=fun D σ H=>t σ H fun vs H1=>sp (vs++[]) H1 (fun v H2=>D.nx (σ.set i (some v)) H2) (fun cls _ H2=>PySem.W.exmOne K cls cv=some true∧ts D σ H2)
section
variable {g:Gx} {X:Cx} {k j i:Nat} {x f c:Str} {ps:List Str} {sp:Sp} {e:Expr} {es:List Expr} {t:TA} {ts:TS} {b₀:Stmt} {suite:List Stmt} {cv:Value} {fp px cp hpos apos cpos pos:Pos}
end
end L2
namespace L2
open PySem PySem.Spec PyProof.Rows
section
variable {prog:Program} {w:World} {A:Around} {E:Value→Shared→Prop} {s:Shared}
open AutoSeq1 (wpAny_loadPart') in
end
section
variable {X:Cx} {elts:List Expr} {kk:Nat} {tpos:Pos}
end
section
variable {g:TG} {tb:TS} {D:Ends} {σ:St} {H:Hp}
end
end L2
namespace L2
open PySem PySem.Spec PyProof.Rows
section
variable {prog:Program} {w:World} {A:Around} {E:Value→Shared→Prop} {s:Shared}
open AutoSeq1 (wpAny_loadPart') in
end
end L2
namespace L2
open PySem PySem.Spec PyProof.Rows
section
variable {X:Cx} {elts:List Expr} {kk:Nat} {tpos:Pos}
end
section
variable {g:TG} {tb:TS} {D:Ends} {σ:St} {H:Hp}
end
section
variable {X:Cx} {tg:Expr}
end
end L2
namespace L2
open PySem PySem.Spec PyProof.Rows
def ExcD (a:Addr) (cls:Value) (dc:Option Addr):HO := .ext fun h=>∃ o vs,h.get? a=some o∧o.cls=cls∧o.data = .fields vs∧o.dict=dc
section
variable {P:Program} {w:World} {l:List Env} {H H':Hp} {h h' h'' B:Heap} {a e:Addr} {cls:Value} {o:HO}
end
section
variable {X:Cx} {pins:List (Addr×Obj)} {σ:St} {H H' H1:Hp} {s s1 s':Shared}
end
def Ends.gone (D:Ends) (j:Nat):Ends:={ nx:=fun σ H=>D.nx (σ.set j none) H,rt:=D.rt,bk:=fun σ H=>D.bk (σ.set j none) H,ct:=fun σ H=>D.ct (σ.set j none) H }
section
variable {X:Cx} {pins:List (Addr×Obj)} {σ:St} {H H' H1:Hp} {s s1 s':Shared} {e:Value} {D:Ends} {ts:TS} {b₀:Stmt} {suite:List Stmt} {c n:Str} {cv:Value} {cp hpos:Pos} {j:Nat}
end
end L2
namespace L2
open PySem PySem.Spec PyProof.Rows
def Ydh (K:PySem.W.Frag) (cv:Value) (sp:Sp) (t:TA) (i j:Nat) (ts:TS):TS:=fun D σ H=>t σ H fun vs H1=>sp (vs++[]) H1 (fun v H2=>D.nx (σ.set i (some v)) H2) (fun cls dc H2=>PySem.W.exmOne K cls cv=some true∧∀ a,H2 a=none→ts (D.gone j) (σ.set j (some (.ref a))) (upd H2 a (ExcD a cls dc)))
section
variable {g:Gx} {X:Cx} {k jj i j:Nat} {x f c n:Str} {ps:List Str} {sp:Sp} {e:Expr} {es:List Expr} {t:TA} {ts:TS} {b₀:Stmt} {suite:List Stmt} {cv:Value} {fp px cp hpos apos cpos pos:Pos}
end
section
variable {g:Gx} {k:Nat} {x qual:Str} {st:Stmt} {N ps:List Str} {sp:Sp}
end
section
variable {g:Gx} {X:Cx} {k j:Nat} {x:Str} {ps:List Str} {sp:Sp} {e:Expr} {es:List Expr} {t:TA} {p pos:Pos}
end
end L2
namespace PySem.W
open PySem PySem.Calls PyProof.Rows Builtin Builtin.ObjectAttr Builtin.Getset_descriptor
section
variable {prog:Program} {w:World} {A:Around} {E:Value→Shared→Prop} {K:Frag} {x C:Addr} {ox:Obj} {hh:Heap} {g:Array GenState} {d:Drawn} {t:Nat} {os:OsState}
end
end PySem.W
namespace L2
open PySem PySem.Spec PyProof.Rows
section
variable {X:Cx}
theorem Yf3 {g:Gx} {x:Str} {C:Addr} {pos:Pos} (h:g.mg x=some (.ref C)) (hX:X.gx=g:=by rfl) (hg:Gl X x:=by rfl) (hd:(x==("__debug__":Str))=false:=by decide):PE X (.Name x pos) (tC (.ref C)):=by
 subst hX
 exact Ye8 hg h rfl hd
end
end L2
namespace L2
open PySem PySem.Spec PyProof.Rows
theorem YN {K:PySem.W.Frag} {C:Addr} {f:Str} (h:PySem.W.findIn K (.ref C) f=some none):Yb K C f:=h
end L2
namespace L2
open PySem PySem.Spec PyProof.Rows
section
variable {src:List (Option Nat)} {te:TE} {σ:St} {H:Hp} {Q:VK}
end
end L2
namespace L2
open PySem PySem.Spec PyProof.Rows
section
variable {X:Cx}
end
end L2
namespace L2
open PySem PySem.Spec PyProof.Rows
section
variable {src:List (Option Nat)} {te:TE} {σ:St} {H:Hp} {Q:VK}
end
end L2
namespace L2
open PySem PySem.Spec PyProof.Rows
section
variable {X:Cx}
end
end L2
namespace L2
open PySem PySem.Spec PyProof.Rows
section
variable {X:Cx} {g:Gx} {k j i:Nat} {x:Str} {ps:List Str} {sp:Sp} {p pos:Pos} {e:Expr} {es:List Expr} {t:TA}
end
theorem Xe (es:List Expr) (x:Nat) (p:Pos) (es':List Expr) (env:Env):starEach (.Tuple es x p::es') env=(false,eval (.Tuple es x p) env)::starEach es' env:=rfl
end L2
namespace L2
open PySem PySem.Spec PyProof.Rows
section
variable {X:Cx} {pins:List (Addr×Obj)} {σ:St} {H:Hp} {s:Shared} {A:Around} {E Q:Value→Shared→Prop}
end
section
variable {X:Cx}
end
section
variable {src:List (Option Nat)} {te:TE} {σ:St} {Q:VK}
variable {X:Cx} {H:Hp}
end
end L2
namespace L2
open PySem PySem.Spec PyProof.Rows
section
open PySem.SeqAt
open PySem.AutoSeq1 (wpAny_loadPart')
open PySem.MeetsSeq PySem.MeetsSeq2 PySem.MeetsSeq3
variable {X:Cx}
end
end L2
namespace L2
open PySem PySem.Spec PyProof.Rows
section
open PySem.SeqAt
open PySem.AutoSeq1 (wpAny_loadPart')
open PySem.MeetsSeq PySem.MeetsSeq2 PySem.MeetsSeq3
variable {X:Cx}
variable {K:PySem.W.Frag}
end
end L2
namespace L2
open PySem
end L2
namespace L2
open PySem
section
variable {src:List (Option Nat)} {te:TE} {σ:St} {H:Hp} {Q:VK}
end
end L2
namespace L2
open PySem
mutual
inductive VL (H:Hp):V→PyData→List Addr→Prop
 | int (i:Int):VL H (.int i) (.int i) []
 | str (x:Str) (h:PyData.strOk x=true):VL H (.str x) (.str x) []
 | lst {a:Addr} {vs:List V} {ds:List PyData} {L:List Addr}:H a=some (.lst vs)→vs.length≤10000→VLs H vs ds L→VL H (.ref a) (.list ds) (a::L)
 | tup {a:Addr} {vs:List V} {ds:List PyData} {L:List Addr}:H a=some (.tup vs)→vs.length≤10000→VLs H vs ds L→VL H (.ref a) (.tuple ds) L
inductive VLs (H:Hp):List V→List PyData→List Addr→Prop
 | nil:VLs H [] [] []
 | cons {v:V} {d:PyData} {L:List Addr} {vs:List V} {ds:List PyData} {L':List Addr}:VL H v d L→VLs H vs ds L'→VLs H (v::vs) (d::ds) (L++L')
end
section
variable {src:List (Option Nat)} {te:TE} {σ:St} {H:Hp} {Q:VK}
end
end L2
namespace L2
open PySem PySem.Spec PyProof.Rows
section
variable {X:Cx} {pos:Pos}
end
end L2
namespace L2
open PySem
section
variable {src:List (Option Nat)} {te:TE} {σ:St} {H:Hp} {Q:VK}
theorem Uz {ta:TA} {n:Nat} (I:Addr→Nat→List V→Hp→Prop) (ha:∀ R:List V→Hp→Prop,R [.int n] H→ta σ H R) (hlen:n≤100000)
  (i0:∀ D,H D=none→I D 0 [] (upd H D (.lst []))) (dl:∀ D i zs H',I D i zs H'→zs.length=i∧H' D=some (.lst zs))
  (step:∀ D (i:Nat) zs H',H D=none→i<n→I D i zs H'→∀ R:VK,(∀ y H'',H'' D=some (.lst zs)→I D (i+1) (zs++[y]) (upd H'' D (.lst (zs++[y])))→R y H'')→te (some (.int i)::YD src σ) H' R)
  (fin:∀ D zs H',H D=none→I D n zs H'→Q (.ref D) H'):tLC (none::src) (Ut ta) (Yy 0) XT te σ H Q:=by
 refine ha _ ⟨n,rfl,by omega,by omega,fun D hD=>?_⟩
 have h6:100000<sizeLine:=by decide
 refine W0 (W4 (lo:=0) (n:=n) (P:=fun _=>True)) (fun i zs σ' H'=>(∃ o,σ'=o::YD src σ)∧i≤n∧I D i zs H') ⟨⟨none,rfl⟩,Nat.zero_le _,i0 D hD⟩ (fun i zs σ' H' q=>⟨trivial,(dl _ _ _ _ q.2.2).2⟩) (XM 0) ?_ ?_
 ·rintro i zs σ' H' x hx ⟨⟨o,rfl⟩,_,hI⟩
  have hi:i<n:=by have:=(List.getElem?_eq_some_iff.mp hx).1;simpa using this
  rw [List.getElem?_map,List.getElem?_range hi] at hx
  have e:V.int (0+(i:Int))=x:=Option.some.inj hx
  rw [Int.zero_add] at e
  subst e
  have hl:=(dl _ _ _ _ hI).1
  show te (some (.int i)::YD src σ) H' _
  exact step D i zs H' hD hi hI _ fun y H'' hd hI'=>⟨hd,by omega,⟨_,rfl⟩,hi,hI'⟩
 ·rintro zs σ' H' ⟨_,_,hI⟩
  exact fin D zs H' hD (by simpa using hI)
end
end L2
namespace L2
open PySem PySem.Spec PyProof.Rows
section
variable {g:Gx} {k:Nat} {x qual m:Str} {st:Stmt} {N ps:List Str} {sp:Sp} {C:Addr}
end
section
variable {g:Gx} {X:Cx} {k j:Nat} {x m:Str} {ps:List Str} {sp:Sp} {E:XK} {C:Addr} {e o:Expr} {es:List Expr} {t:TA} {ta:TE} {p pos apos:Pos}
end
section
variable {g:Gx} {X:Cx} {k jj j:Nat} {f c n:Str} {ps:List Str} {sp:Sp} {e:Expr} {es:List Expr} {t:TA} {ts:TS} {b₀:Stmt} {suite:List Stmt} {cv:Value} {fp cp hpos apos cpos pos:Pos}
end
end L2
namespace L2
open PySem PySem.Spec PyProof.Rows
def XX (l:List Str) (v:Str):List Str:=if l.any (·==v) then l else l++[v]
def met (val:Nat→Str) (i:Nat):List Str:=((List.range i).map val).foldl XX []
theorem Yd6 (val:Nat→Str):met val 0=[]:=rfl
theorem Vp (val:Nat→Str) (i:Nat):met val (i+1)=XX (met val i) (val i):=by
 unfold met;rw [List.range_succ,List.map_append,List.foldl_append];rfl
theorem Ydi (val:Nat→Str):∀ i,(met val i).length≤i
 | 0=>by rw [Yd6];exact Nat.le_refl _
 | i+1=>by
  rw [Vp];unfold XX
  have ih:=Ydi val i
  split
  ·omega
  ·rw [List.length_append,List.length_singleton];omega
theorem Yfn (l:List Str) (v k:Str):(XX l v).any (·==k)=(l.any (·==k)||decide (k=v)):=by
 unfold XX
 by_cases h:l.any (·==v)=true
 ·rw [if_pos h]
  by_cases e:k=v
  ·subst e;rw [h];simp
  ·simp [e]
 ·rw [if_neg h,List.any_append]
  by_cases e:k=v
  ·subst e;simp
  ·have hb:(v==k)=false:=by simpa [beq_iff_eq] using (fun h':v=k=>e h'.symm)
   simp [hb,e]
theorem Yfo (l:List Str) (v:Str):(XX l v).length=if l.any (·==v) then l.length else l.length+1:=by
 unfold XX;split<;>simp
theorem Ybg {val:Nat→Str}:∀ {n:Nat},(∀ i j,i<j→j<n→val i≠val j)→met val n=(List.range n).map val
 | 0,_=>rfl
 | n+1,h=>by
  rw [Vp,Ybg fun i j a b=>h i j a (by omega),List.range_succ,List.map_append]
  unfold XX
  rw [if_neg]
  ·rfl
  ·simp only [List.any_map,List.any_eq_true,List.mem_range,Function.comp,beq_iff_eq,not_exists,not_and]
   intro i hi e
   exact h i n hi (by omega) e
section
variable {prog:Program} {w:World} {A:Around} {R:Result→Shared→Prop} {I:Addr} {fp wr:List Addr} {G:Array GenState→Array GenState→Prop} {n:Nat} {P:Nat→Value→Prop} {St:Nat→Shared→Prop}
theorem Yd7 (W:WalksS prog w A.in1 I fp wr G n P St) (S:Addr) (hSf:S∉fp)
  (val:Nat→Str) (hval:∀ i v,P i v→∃ t,v = .str (val i) t) (hb:n+1<scanBound) :
  ∀ (k i:Nat) (s:Shared),n - i=k→i≤n→St i s →
   s.heap.SetOf (PySem.strKind prog w) S (fun k'=>(met val i).any (·==k')) (met val i).length →
   (∀ s',Moved (S::wr) G s s'→s'.heap.SetOf (PySem.strKind prog w) S (fun k'=>(met val n).any (·==k')) (met val n).length→R (.ok (.ret .none)) s') →
   codeAny (model prog w) A (.builtin "set.update.loop" ⟨[.ref S,.ref I],[]⟩) R s:=by
 have hSw:S∉wr:=fun h=>hSf (W.sub _ h)
 have hsub:∀ b∈wr,b∈S::wr:=fun b hb=>List.mem_cons_of_mem _ hb
 intro k
 induction k with
 | zero =>
  intro i s hk hi hst hS hR
  have hin:i=n:=by omega
  subst hin
  refine codeAny_builtin F.entry_set_update_loop ?_
  rw [Around.under_plainId F.plain_set_update_loop _]
  show wpAny _ A.in1 (pyNext (.ref I) >>= _) _ _ s
  refine wpAny_bind (W.done s _ _ hst fun s' hm=>?_)
  show wpAny _ A.in1 (ret Value.none) _ _ s'
  exact wpAny_pure (hR s' (hm.mono hsub) (by
   obtain ⟨o,es,ep,t,ho,YU⟩:=hS
   exact ⟨o,es,ep,t,hm.heap S _ hSw ho,YU⟩))
 | succ k ih =>
  intro i s hk hi hst hS hR
  have hlt:i<n:=by omega
  refine codeAny_builtin F.entry_set_update_loop ?_
  rw [Around.under_plainId F.plain_set_update_loop _]
  show wpAny _ A.in1 (pyNext (.ref I) >>= _) _ _ s
  refine wpAny_bind (W.item i s _ _ hlt hst fun v s' hP hst' hm=>?_)
  obtain ⟨t,rfl⟩:=hval i v hP
  have hS':s'.heap.SetOf (PySem.strKind prog w) S (fun k'=>(met val i).any (·==k')) (met val i).length:=by
   obtain ⟨o,es,ep,tb,ho,YU⟩:=hS
   exact ⟨o,es,ep,tb,hm.heap S _ hSw ho,YU⟩
  show wpAny _ A.in1 (holding [Value.str (val i) t] (setAdd S (.str (val i) t)) >>= _) _ _ s'
  refine wpAny_bind (wpAny_holding ?_)
  unfold setAdd
  refine wpAny_holding ?_
  have his:(PySem.strKind prog w).is (val i) (.str (val i) t)=true:=by simp [PySem.strKind,Value.isStrOf]
  refine wpAny_bind ((PySem.strKind prog w).pyHash (k:=val i) his ?_)
  have hroom:(met val i).length+1<scanBound:=by have:=Ydi val i;omega
  refine wpAny_setAddHashed_of (knd:=PySem.strKind prog w) (s:={ s' with toks:=s'.toks+1 }) his rfl hS' hroom fun h' hsb hS2=>?_
  have hSi:h'.SetOf (PySem.strKind prog w) S (fun k'=>(met val (i+1)).any (·==k')) (met val (i+1)).length :=
   SetOf_congr hS2 (fun k'=>by rw [Vp,Yfn]) (by rw [Vp,Yfo])
  refine wpAny_pure ⟨plainId_quiet F.plain_set_update_loop _,ih (i+1) _ (by omega) hlt (W.frame _ s' _ _ hst' (Nat.le_succ _) fun b hb o e=>?_) hSi fun s'' hm'' hS''=>?_⟩
  ·rw [hsb.2 b (fun h:b=S=>hSf (by rw [← h];exact hb))];exact e
  ·refine hR s'' (Moved.trans W.gtrans ((hm.mono hsub).then_heap (Nat.le_succ _) fun b o hb e=>?_) hm'') hS''
   rw [hsb.2 b (fun h:b=S=>hb (by rw [h];exact List.mem_cons_self))];exact e
end
end L2
namespace L2
open PySem PySem.Spec PyProof.Rows
section
variable {prog:Program} {w:World} {A:Around} {E:Value→Shared→Prop} {s:Shared}
end
def UZ (a:Addr) (n:Nat):HO := .ext fun h=>∃ (o:Obj) (es:Array (Int×Value)) (ep:Nat) (t:SetTable),h.get? a=some o∧o.ExactSet∧o.data = .set es ep t∧t.fits es.size=true∧es.size=n∧n<scanBound
section
variable {X:Cx}
theorem QE:XA X (.builtin "len") (fun xs H Q=>∃ a n,xs=[.ref a]∧H a=some (UZ a n)∧Q (.int (n:Nat)) H):=by
 intro pins s σ H xs us Q I r h
 obtain ⟨a,n,rfl,ha,q⟩:=h
 obtain ⟨u,rfl,ru⟩:=WB r
 obtain rfl:u=Value.ref a:=ru
 obtain ⟨⟨o,es,ep,tb,ho,hex,hd,hf,hn,hb⟩,_,_⟩:=I.hok a _ ha
 subst hn
 refine call_len_set ho hex hd hf ?_ ⟨.int _,H,I.tok _,⟨_,rfl⟩,q⟩
 unfold scanBound at hb
 omega
end
end L2
namespace L2
open PySem PySem.Spec PyProof.Rows
section
variable {X:Cx}
end
end L2
namespace L2
open PySem PySem.Spec PyProof.Rows
section
variable {X:Cx}
end
end L2
namespace L2
open PySem PySem.Spec PyProof.Rows
section
variable {X:Cx}
end
end L2
namespace L2
open PySem PySem.Spec PyProof.Rows
section
variable {X:Cx} {e lo st:Expr} {te tl ts:TE} {pos p2:Pos}
def Ybh (K:PySem.W.Frag) (te tl ts:TE):TE:=fun σ H Q=>te σ H fun x H1=>tl σ H1 fun y H2=>ts σ H2 fun z H3 =>
 ∃ (a:Addr) (xs:List V) (k n:Int),x = .ref a∧y = .int k∧z = .int n∧0≤k∧0<n∧SqL K H3 a xs∧∀ p ys,H3 p=none→(∀ v∈ys,v∈xs)→ys.length≤xs.length→Q (.ref p) (upd H3 p (.lst ys))
end
structure ClsFn (K:PySem.W.Frag) (B:Addr) (m:Str) (f:Addr):Prop where
 ga:PySem.W.specialIn K (.ref B) "__getattribute__"=some (some (.builtin "type.__getattribute__"))
 rd:PySem.W.readsIn K B (.type "type")=true
 at_:PySem.W.findCls K (.ref B) (.type "type") m=some (.val (.ref f))
 kp:PySem.W.keepIn K (.ref f)=true
def Gx.Cf (g:Gx) (k:Nat) (x m:Str) (ps:List Str) (sp:Sp):Prop:=∃ B f fd,FnOk g.P g.w g.K g.mg g.base CX0 k f fd ps sp∧YY g.K fd ps []∧ClsFn g.K B m f∧g.mg x=some (.ref B)
def Gx.RawC (g:Gx) (x m qual:Str) (st:Stmt) (ps:List Str):Prop:=∃ B f fd,Fun g.K m qual st f fd∧YY g.K fd ps []∧ClsFn g.K B m f∧g.mg x=some (.ref B)
theorem Gx.Cf.mono {g:Gx} {j k:Nat} {x m:Str} {ps:List Str} {sp:Sp} (F:g.Cf j x m ps sp) (h:j≤k):g.Cf k x m ps sp:=by
 obtain ⟨B,f,fd,F,r⟩:=F
 exact ⟨B,f,fd,F.mono h,r⟩
section
variable {g:Gx} {X:Cx} {k j:Nat} {x m:Str} {ps:List Str} {sp:Sp} {e:Expr} {es:List Expr} {t:TA} {p pos apos:Pos}
theorem QO {pl:Sem Bool} (F:g.Cf j x m ps sp) (hr:Room k X.A) (ha:PA X (e::es) t) (hj:j≤k) (hX:X.gx=g) (hg:Gl X x) (hdb:(x==("__debug__":Str))=false)
  (hst:starEach (e::es) X.env=(false,eval e X.env)::starEach es X.env) (hpl:(backTo pos (starEach es X.env)).any (·.1)=false)
  (ht:eval (.Call (.Attribute (.Name x p) m apos) (e::es) [] pos) X.env=(do
   let ov ← eval (.Name x p) X.env
   standAt apos.atName
   let (f,first) ← holding [ov] (getMethod ov m pl)
   callWith pos f first (backTo pos (starEach (e::es) X.env)) (backToKw pos (keywordEach [] X.env)))):PE X (.Call (.Attribute (.Name x p) m apos) (e::es) [] pos) (Vm sp [] E0 t):=by
 subst hX
 obtain ⟨B,f,fd,F,b,c,hm⟩:=F
 intro pins s σ H Q I h
 refine PySem.W.methodCall_KW (pl:=pl) (thn (Yf3 (g:=X.gx) (pos:=p) hm rfl hg hdb pins s σ H (fun v H1=>v = .ref B∧H1=H) I ⟨rfl,rfl⟩) fun u s1 ⟨v,H1,I1,rv,e1,e2⟩=>?_) ht
 subst e1 e2
 obtain rfl:u=Value.ref B:=rv
 refine PySem.W.method_cls I1.kIn c.ga (PySem.W.cls_value I1.kIn c.rd c.at_ rfl ?_)
 have I2:=I1.tok (s1.toks+1)
 refine PySem.W.callWith_K (h₀:=X.base) I.ok.mod.kin c.kp (thn (ha pos pins _ σ H1 _ I2 h) fun us s2 ⟨vs,H2,I3,r,q2⟩=>⟨I3.kIn,?_⟩) hst hpl
 exact VI (dvs:=[]) (ds:=[]) F (hr.mono hj) b .nil WY I3 r q2
end
end L2
namespace L2
open PySem PySem.Spec PyProof.Rows
def Ybi:R2:=fun y x H Q=>∃ a o,x = .ref a∧DGet H a y o∧Q (.bl (!o.isSome)) H
def rInD:R2:=fun y x H Q=>∃ a o,x = .ref a∧DGet H a y o∧Q (.bl o.isSome) H
section
variable {X:Cx}
end
section
variable {K:PySem.W.Frag} {h:Heap} {mg:Str→Option Value} {P:Program} {w:World} {base:Heap} {f B:Addr} {x qual m:Str} {st:Stmt} {ps N:List Str} {oc kV dc pm cd ct:Value} {od an:Option Addr} {sl:Array (Option Value)} {g:Gx} {k:Nat} {sp:Sp}
theorem Gx.RawC.cf (R:g.RawC x m qual st ps) (S:FnScope N ps (Yi st)) (len:∀ vs H Q E,sp vs H Q E→vs.length=ps.length) (b:UX g k N qual st sp):g.Cf (k+1) x m ps sp:=by
 obtain ⟨B,f,fd,F,bd,c,hm⟩:=R
 exact ⟨B,f,fd,F.ok S len fun cdv A outer s H vs Q E hr h=>b f cdv A outer s H vs Q E hr h,bd,c,hm⟩
theorem Yfp (X:K.In h) (G:h.Ns mainGlobals mg) (ps:List Str) (aB:PySem.W.nsIn K mainGlobals x=some (some (.ref B))) (ga:PySem.W.specialIn K (.ref B) "__getattribute__"=some (some (.builtin "type.__getattribute__")))
  (rd:PySem.W.readsIn K B (.type "type")=true) (a:PySem.W.findCls K (.ref B) (.type "type") m=some (.val (.ref f)))
  (l:K.lookup f=some ⟨oc,od,.func (PySem.W.fnOf m qual (YT st) (YM st) (Yi st) .none kV dc pm an cd ct),sl⟩) (c:PySem.W.codeIn K cd qual=true) (k:PySem.W.keepIn K (.ref f)=true)
  (b:∀ (kV doc pm:Value) (an:Option Addr) (cdv ct:Value) (us:List Value),us.length=ps.length→bindArgs (PySem.W.fnOf m qual (YT st) (YM st) (Yi st) .none kV doc pm an cdv ct) ⟨us,[]⟩=pure (ps.zip us)) :
  ∀ P w base,(Gx.mk P w K mg base).RawC x m qual st ps:=fun P w base =>
 have F:=VM (st:=st) l c k
 ⟨B,f,_,F,F.binds b,⟨ga,rd,a,k⟩,PySem.W.mg_of X G aB⟩
end
end L2
namespace L2
def Ybj (a b:TE):TE:=fun σ H Q=>a σ H Q∨b σ H Q
end L2
namespace L2
open PySem PySem.Spec PyProof.Rows
section
variable {g:TG} {tb:TS} {D:Ends} {σ:St} {H:Hp}
theorem Yci {K:PySem.W.Frag} {ta:TA} {a:Addr} {xs:List V} (Pv:Nat→St→Hp→Prop) (ha:∀ R:List V→Hp→Prop,R [.ref a] H→ta σ H R) (h0:Pv 0 σ H) (hl:∀ i σ H,i≤xs.length→Pv i σ H→SqL K H a xs)
  (hs:∀ i x σ H T,xs[i]?=some x→Pv i σ H→H T=none→g (.ref T) σ (upd H T (.tup [.int (i:Int),x])) fun σ2 H2=>tb { D with nx:=Pv (i+1),ct:=Pv (i+1),bk:=D.nx } σ2 H2) (hd:∀ σ H,Pv xs.length σ H→D.nx σ H):Ui (Yda K ta) g tb D σ H:=by
 refine ha _ ⟨a,xs,rfl,hl 0 σ H (Nat.zero_le _) h0,?_⟩
 refine ⟨fun i m σ H=>m=xs.length - i∧i≤xs.length∧Pv i σ H,⟨xs.length,by simp,Nat.zero_le _,h0⟩,?_⟩
 rintro i m σ H ⟨rfl,hi,p⟩
 have q:=hl i σ H hi p
 by_cases hlt:i<xs.length
 ·have hx:xs[i]?=some xs[i]:=List.getElem?_eq_getElem hlt
  refine .inr ⟨⟨xs,_,q,hx⟩,Pv (i+1),fun σ' H' p'=>⟨xs.length - (i+1),by omega,rfl,hlt,p'⟩,?_⟩
  rintro v H' ⟨T,rfl,hT,heq⟩
  have e:=heq xs _ q hx
  subst e
  exact hs i _ σ H T hx p hT
 ·have e:i=xs.length:=by omega
  subst e
  exact .inl ⟨⟨xs,q,Nat.le_refl _⟩,hd σ H p⟩
end
end L2
namespace L2
open PySem
end L2
namespace L2
open PySem
end L2
namespace L2
open PySem PySem.Spec PyProof.Rows
section
variable {X:Cx} {elts:List Expr} {kk:Nat} {tpos:Pos}
end
section
variable {tb:TS} {D:Ends} {σ:St} {H:Hp}
end
end L2
namespace L2
open PySem
end L2
namespace L2
open PySem PySem.Spec PyProof.Rows
abbrev FnO (f:Addr) (fd:FuncData):HO := .ext fun h=>h.get? f=some { cls := .type "function",data := .func fd }
abbrev CdO (c:Addr) (q:Str):HO := .ext fun h=>h.CodeRec (.ref c) q
abbrev V3 (c:Addr) (v:V):HO := .ext fun h=>∃ u,Yz v u∧h.IsCell c (some u)
section
variable {P:Program} {w:World} {H H':Hp} {h h':Heap}
theorem Ydj {f:Addr} {fd:FuncData} (e:h.get? f=some { cls := .type "function",data := .func fd }):YR P w H h f (FnO f fd):=⟨e,⟨_,e⟩,fun _ _ p k=>k _ p⟩
theorem Yf4 {c:Addr} {q:Str} (e:h.CodeRec (.ref c) q):YR P w H h c (CdO c q):=by
 obtain ⟨c',o,vs,t,e1,e2,e3⟩:=id e
 cases e1
 refine ⟨e,⟨_,e2⟩,fun h1 h2 p k=>?_⟩
 obtain ⟨c',o,vs,t,e1,e2,e3⟩:=p
 cases e1
 exact ⟨c,o,vs,t,rfl,k _ e2,e3⟩
theorem Yd8 {c:Addr} {v:V} {u:Value} (r:Yz v u) (e:h.IsCell c (some u)):YR P w H h c (V3 c v):=by
 obtain ⟨o,e1,e2⟩:=id e
 refine ⟨⟨u,r,e⟩,⟨_,e1⟩,fun h1 h2 p k=>?_⟩
 obtain ⟨u,r,o,e1,e2⟩:=p
 exact ⟨u,r,o,k _ e1,e2⟩
theorem HOk.track {c:Addr} {o:HO} (x:HOk P w H h) (hn:H c=none) (new:YR P w (upd H c o) h c o):HOk P w (upd H c o) h:=fun b u e=>by
 by_cases hb:b=c
 ·subst hb;rw [Yg] at e;cases e;exact new
 ·rw [Yd hb] at e
  exact (x b u e).stay (fun _ _ _ q=>q) (fun d q=>by rw [Yd (Yj q hn)];exact q) fun d xs q=>by rw [Yd (Yj q hn)];exact q
end
def off (H:Hp) (cs:List Addr):Hp:=fun b=>if b∈cs then none else H b
def on (H' H:Hp) (cs:List Addr):Hp:=fun b=>if b∈cs then H b else H' b
section
variable {H H':Hp} {cs:List Addr} {b:Addr} {o:HO}
theorem UA (h:b∈cs):off H cs b=none:=if_pos h
theorem Xl (h:b∉cs):off H cs b=H b:=if_neg h
theorem Ycj (h:b∈cs):on H' H cs b=H b:=if_pos h
theorem Wt (h:b∉cs):on H' H cs b=H' b:=if_neg h
theorem Wc (h:H b=none):off H cs b=none:=by unfold off;split<;>first | rfl | exact h
theorem Yf5 (h:off H cs b=some o):H b=some o∧b∉cs:=by
 by_cases hb:b∈cs
 ·rw [UA hb] at h;cases h
 ·rw [Xl hb] at h;exact ⟨h,hb⟩
end
abbrev YF:=List (Str×Addr×V)
def YF.cl (l:YF):List (Str×Addr):=l.map fun p=>(p.1,p.2.1)
def YF.as (l:YF):List Addr:=l.map fun p=>p.2.1
def YF.vs (l:YF):List V:=l.map fun p=>p.2.2
section
variable {l:YF} {H:Hp}
theorem Wd {c:Addr} (h:c∈l.as):∃ p∈l,p.2.1=c:=by
 obtain ⟨p,hp,e⟩:=List.mem_map.mp h
 exact ⟨p,hp,e⟩
theorem X4:∀ {l:YF} {x:Str} {c:Addr},l.cl.lookup x=some c→∃ p∈l,p.1=x∧p.2.1=c
 | p::l,x,c,h=>by
  rw [YF.cl,List.map_cons,List.lookup_cons] at h
  cases hb:x==p.1 with
  | true=>rw [hb] at h;exact ⟨p,.head _,(eq_of_beq hb).symm,Option.some.inj h⟩
  | false =>
   rw [hb] at h
   obtain ⟨q,h1,h2⟩:=X4 (l:=l) h
   exact ⟨q,.tail _ h1,h2⟩
theorem Yag:∀ {l:YF},(l.map (·.1)).Nodup→∀ p∈l,l.cl.lookup p.1=some p.2.1
 | a::q,nd,p,hp=>by
  rw [List.map_cons,List.nodup_cons] at nd
  rw [YF.cl,List.map_cons,List.lookup_cons]
  rcases List.mem_cons.mp hp with rfl | hp
  ·simp
  ·have:(p.1==a.1)=false:=by
    rw [beq_eq_false_iff_ne]
    intro z
    exact nd.1 (z▸List.mem_map_of_mem hp)
   rw [this]
   exact Yag nd.2 p hp
end
def Yck (P:Program) (w:World) (K:PySem.W.Frag) (mg:Str→Option Value) (base:Heap) (N:List Str) (qual:Str) (scope:Scope) (f:Addr) (cd:Value) (cl:List (Str×Addr)) (A:Around) (outer:List Env) (s:Shared) (H:Hp):Cx where
 prog:=P
 w:=w
 K:=K
 mg:=mg
 base:=base
 A:=A.deeper (PySem.W.envX qual scope s.heap.objs.size f cd cl)
 N:=N
 s₀:=s
 H₀:=H
 env:=PySem.W.envX qual scope s.heap.objs.size f cd cl
 outer:=outer
 stack:=PySem.W.envX qual scope s.heap.objs.size f cd cl::outer
 ex:=[]
 calm:=true
 fn:=fun _=>false
 pn:=[]
 xe:=fun _ _=>False
structure ClScope (N ps:List Str) (l:List Str) (sc:Scope):Prop where
 kind:sc.kind = .function
 co:sc.isCoroutine=false
 gen:sc.isGenerator=false
 nd:N.Nodup
 pre:N.take ps.length=ps
 suf:N.drop (N.length - l.length)=l
 len:ps.length+l.length≤N.length
 par:∀ x∈ps,sc.names.lookup x=some .local
 fre:∀ x∈l,sc.names.lookup x=some .free
 nocell:∀ y∈sc.names,y.2 ≠ .cell
 all:∀ y∈sc.names,y.2 = .free→y.1∈l
def UB (N:List Str) (vs fv:List V):St:=vs.map some++List.replicate (N.length - vs.length - fv.length) none++fv.map some
section
variable {P:Program} {w:World} {K:PySem.W.Frag} {mg:Str→Option Value} {base:Heap} {N ps:List Str} {qual name:Str} {scope:Scope} {f c:Addr} {A:Around} {outer:List Env} {s:Shared} {H:Hp} {us:List Value} {vs:List V} {l:YF} {cd:Value}
theorem U0:∀ {ps:List Str} {us:List Value} {i:Nat} {x:Str} {u:Value},ps.Nodup→ps[i]?=some x→us[i]?=some u→(ps.zip us).reverse.lookup x=some u:=by
 intro ps us i x u nd h1 h2
 have hm:(x,u)∈ps.zip us:=List.mem_of_getElem? (show (ps.zip us)[i]?=some (x,u) from List.getElem?_zip_eq_some.mpr ⟨h1,h2⟩)
 have key:∀ (q:List (Str×Value)),(q.map (·.1)).Nodup→(x,u)∈q→q.lookup x=some u:=by
  intro q
  induction q with
  | nil=>intro _ h;cases h
  | cons a q ih =>
   intro nd h
   rw [List.lookup_cons]
   rw [List.map_cons,List.nodup_cons] at nd
   rcases List.mem_cons.mp h with rfl | h
   ·simp
   ·have:(x==a.1)=false:=by
     rw [beq_eq_false_iff_ne]
     intro z
     exact nd.1 (z▸List.mem_map_of_mem h)
    rw [this]
    exact ih nd.2 h
 refine key _ ?_ (List.mem_reverse.mpr hm)
 rw [List.map_reverse]
 have hz:∀ (ps:List Str) (us:List Value),ps.Nodup→((ps.zip us).map (·.1)).Nodup∧∀ z∈(ps.zip us).map (·.1),z∈ps:=by
  intro ps
  induction ps with
  | nil=>intro us _;simp
  | cons a ps ih =>
   intro us nd
   cases us with
   | nil=>simp
   | cons u us =>
    have nd':=List.nodup_cons.mp nd
    obtain ⟨i1,i2⟩:=ih us nd'.2
    rw [List.zip_cons_cons,List.map_cons]
    refine ⟨List.nodup_cons.mpr ⟨fun hm=>nd'.1 (i2 _ hm),i1⟩,fun z hz=>?_⟩
    rcases List.mem_cons.mp hz with rfl | hz
    ·exact .head _
    ·exact .tail _ (i2 z hz)
 exact List.pairwise_reverse.mpr ((hz ps us nd).1.imp fun h=>Ne.symm h)
theorem Ycl {h1:Heap} {tk:Nat} (S:ClScope N ps (l.map (·.1)) scope) (hnd:l.as.Nodup) (hd:A.handled=none) (e0:Env0 P w K mg base A outer s H) (hl:vs.length=ps.length) (r:Yp vs us) (cellAt:∀ p∈l,∃ u,Yz p.2.2 u∧s.heap.IsCell p.2.1 (some u)) (hoff:HOk P w (off H l.as) s.heap)
  (hns:h1.Ns s.heap.objs.size (fun x=>(ps.zip us).reverse.lookup x)) (hk:∀ b o,s.heap.get? b=some o→h1.get? b=some o) :
  Inv (Yck P w K mg base N qual scope f cd l.cl A outer s (off H l.as)) [] (UB N vs l.vs) (off H l.as) { s with heap:=h1,toks:=tk }:=by
 have lfst:l.cl.map (·.1)=l.map (·.1):=by rw [YF.cl,List.map_map];rfl
 have ndN:(l.map (·.1)).Nodup:=by rw [← S.suf];exact S.nd.sublist (List.drop_sublist _ _)
 have noA:∀ b:Addr,b∉(Yck P w K mg base N qual scope f cd l.cl A outer s (off H l.as)).ex:=fun b z=>absurd (show b∈([]:List Addr) from z) (by simp)
 have lk:=Yag ndN
 have cinj:∀ p∈l,∀ q∈l,p.2.1=q.2.1→p=q:=fun p hp q hq e=>by
  obtain ⟨i,hi,e1⟩:=List.getElem_of_mem hp
  obtain ⟨j,hj,e2⟩:=List.getElem_of_mem hq
  have h1:l.as[i]?=some p.2.1:=by rw [YF.as,List.getElem?_map,List.getElem?_eq_getElem hi,e1];rfl
  have h2:l.as[j]?=some p.2.1:=by rw [YF.as,List.getElem?_map,List.getElem?_eq_getElem hj,e2,e];rfl
  have hij:i=j:=by
   obtain ⟨g1,g2⟩:=List.getElem?_eq_some_iff.mp h1
   obtain ⟨g3,g4⟩:=List.getElem?_eq_some_iff.mp h2
   exact (List.getElem_inj hnd).mp (g2.trans g4.symm)
  subst hij
  rw [← e1,← e2]
 refine ⟨⟨e0.mod,S.kind,rfl,rfl,Nat.le_refl _,fun y z c h1 h2=>?_,fun y hy=>?_,fun y c h _=>absurd h (by show ¬ (false=true);decide),fun _=>hd,Around.frames_deeper e0.frames,.inr ⟨rfl,rfl⟩,fun b z=>absurd z (noA b),fun b o e=>⟨(e0.bs b o e).1,Wc (e0.bs b o e).2⟩,e0.bsz,fun b _ _=>noA b,fun b z=>absurd z (noA b),e0.funs,fun b hb=>Wc (e0.frf b hb)⟩,
  rfl,e0.bare,Un.kept hk,⟨_,hns,fun i y v h1 h2 h3=>?_⟩,fun y c h=>?_,Wc (e0.hok.fresh (Nat.le_refl _)),fun y c h=>?_,fun p hp=>absurd (show p∈([]:List (Addr×Obj)) from hp) (by simp),hoff.kept hk,?_⟩
 ·obtain ⟨p,hp,e1,e2⟩:=X4 h1
  obtain ⟨q,hq,e3,e4⟩:=X4 h2
  have:=cinj p hp q hq (e2.trans e4.symm)
  rw [← e1,← e3,this]
 ·have hy:scope.names.lookup y=some .cell∨scope.names.lookup y=some .free:=hy
  rcases hy with hy | hy
  ·exact absurd rfl (S.nocell _ (PySem.mem_of_lookup hy))
  ·obtain ⟨p,hp,e⟩:=List.mem_map.mp (S.all _ (PySem.mem_of_lookup hy) rfl)
   exact ⟨p.2.1,by show l.cl.lookup y=_;rw [← show p.1=y from e];exact lk p hp⟩
 ·have hvl:l.vs.length=(l.map (·.1)).length:=by rw [YF.vs,List.length_map,List.length_map]
  have hsl:=S.len
  unfold UB at h2
  by_cases hi:i<vs.length
  ·have ha:vs[i]?=some v:=by
    rw [List.append_assoc,List.getElem?_append_left (by simpa using hi),List.getElem?_map] at h2
    cases e:vs[i]? with
    | none=>rw [e] at h2;cases h2
    | some a=>rw [e] at h2;cases h2;rfl
   obtain ⟨u,hu,rv⟩:=r.get ha
   have hp:ps[i]?=some y:=by
    rw [← S.pre,List.getElem?_take_of_lt (by omega)];exact h1
   have ndP:ps.Nodup:=by rw [← S.pre];exact S.nd.sublist (List.take_sublist _ _)
   exact ⟨u,rv,.inl ⟨S.par y (List.mem_of_getElem? hp),U0 ndP hp hu⟩⟩
  ·by_cases hi2:i<vs.length+(N.length - vs.length - l.vs.length)
   ·rw [List.getElem?_append_left (by rw [List.length_append,List.length_map,List.length_replicate];exact hi2),List.getElem?_append_right (by rw [List.length_map];omega),List.getElem?_replicate] at h2
    split at h2<;>cases h2
   ·rw [List.getElem?_append_right (by rw [List.length_append,List.length_map,List.length_replicate];omega),List.length_append,List.length_map,List.length_replicate,List.getElem?_map] at h2
    obtain ⟨v',hv',e⟩:=Option.map_eq_some_iff.mp h2
    cases e
    have hv2:(l.map fun p=>p.2.2)[i - (vs.length+(N.length - vs.length - l.vs.length))]?=some _:=hv'
    rw [List.getElem?_map] at hv2
    obtain ⟨p,hp,rfl⟩:=Option.map_eq_some_iff.mp hv2
    have hpm:=List.mem_of_getElem? hp
    have hy:(l.map (·.1))[i - (vs.length+(N.length - vs.length - l.vs.length))]?=some y:=by
     rw [← S.suf,List.getElem?_drop]
     rw [show N.length - (l.map (·.1)).length+(i - (vs.length+(N.length - vs.length - l.vs.length)))=i by omega]
     exact h1
    rw [List.getElem?_map,hp] at hy
    have ey:p.1=y:=Option.some.inj hy
    obtain ⟨u,ru,hc⟩:=cellAt p hpm
    obtain ⟨o,ho,hd'⟩:=hc
    refine ⟨u,ru,.inr ⟨.inr ?_,p.2.1,by show l.cl.lookup y=_;rw [← ey];exact lk p hpm,o,hk _ _ ho,hd'⟩⟩
    exact S.fre y (by rw [← ey];exact List.mem_map_of_mem hpm)
 ·obtain ⟨p,hp,e1,e2⟩:=X4 (show l.cl.lookup y=some c from h)
  obtain ⟨u,ru,o,ho,hd'⟩:=cellAt p hp
  exact ⟨some u,o,by rw [← e2];exact hk _ _ ho,hd'⟩
 ·obtain ⟨p,hp,e1,e2⟩:=X4 (show l.cl.lookup y=some c from h)
  exact UA (by rw [← e2];exact List.mem_map_of_mem hp)
 ·unfold UB
  show _=N.length
  have hvl:l.vs.length=(l.map (·.1)).length:=by rw [YF.vs,List.length_map,List.length_map]
  have hsl:=S.len
  rw [List.length_append,List.length_append,List.length_map,List.length_map,List.length_replicate]
  omega
end
end L2
namespace L2
open PySem PySem.Spec PyProof.Rows
def Bm (mg:Str→Option Value) (base:Heap):Prop:=∃ bm ob,mg "__builtins__"=some (.ref bm)∧bm≠builtinsNs∧bm≠mainGlobals∧base.get? bm=some ob∧ob.cls = .type "module"∧ob.dict=some builtinsNs∧ob.data = .plain
section
variable {X:Cx} {pins:List (Addr×Obj)} {σ:St} {H:Hp} {s:Shared}
theorem Inv.madeF {P c':Addr} {ps more:Array Value} {h':Heap} {tk:Nat} {fd:FuncData} {qual:Str} (I:Inv X pins σ H s) (hP:H P=some (.tbl ps)) (hx:Heap.ExtBut P s.heap h') (hge:s.heap.objs.size≤c') (hlt:c'<h'.objs.size) (hrec:h'.CodeRec (.ref c') qual) (htb:h'.get? P=some (PySem.W.tabObj (ps++more))) :
  Inv X pins σ (upd (upd (upd H P (.tbl (ps++more))) c' (CdO c' qual)) h'.objs.size (FnO h'.objs.size fd)) { s with heap:=h'.push { cls := .type "function",data := .func fd },toks:=tk }:=by
 have hPl:P<s.heap.objs.size:=I.hok.lt hP
 have hcf:s.heap.objs.size≤h'.objs.size:=Nat.le_trans hge (Nat.le_of_lt hlt)
 have hlc:∀ {b:Addr},b<s.heap.objs.size→b≠c'∧b≠h'.objs.size:=fun e=>⟨Nat.ne_of_lt (Nat.lt_of_lt_of_le e hge),Nat.ne_of_lt (Nat.lt_of_lt_of_le e hcf)⟩
 have hHc:∀ {b:Addr} {o:HO},H b=some o→b≠c'∧b≠h'.objs.size:=fun e=>hlc (I.hok.lt e)
 have push:∀ b o,h'.get? b=some o→(h'.push { cls := .type "function",data := .func fd }).get? b=some o:=fun b o e=>Heap.get?_push_of_some _ e
 have hget:∀ {b:Addr},b≠P→b≠c'→b≠h'.objs.size→(upd (upd (upd H P (.tbl (ps++more))) c' (CdO c' qual)) h'.objs.size (FnO h'.objs.size fd)) b=H b:=fun h1 h2 h3=>by rw [Yd h3,Yd h2,Yd h1]
 have atP:(upd (upd (upd H P (.tbl (ps++more))) c' (CdO c' qual)) h'.objs.size (FnO h'.objs.size fd)) P=some (.tbl (ps++more)):=by rw [Yd (hlc hPl).2,Yd (hlc hPl).1,Yg]
 refine I.un ⟨fun b o e n _ _=>push b o (hx b o (fun z=>by rw [z,hP] at n;cases n) e),fun b o e n _ _=>⟨o.slots,push b o (hx b o (fun z=>by rw [z,hP] at n;cases n) e)⟩,fun b o e n _=>?_,fun b o e _=>?_,fun b xs e=>?_,fun b o u e=>?_,fun b qs e=>?_⟩ fun b o e=>?_
 ·have:=Heap.lt_size e
  rw [hget (fun z=>by rw [z,hP] at n;cases n) (hlc this).1 (hlc this).2];exact n
 ·by_cases hb:b=P
  ·subst hb;exact ⟨_,push _ _ htb⟩
  ·exact ⟨o,push b o (hx b o hb e)⟩
 ·rw [hget (YX e hP (by intro z;cases z)) (hHc e).1 (hHc e).2];exact e
 ·rw [hget (YX e hP (by intro z;cases z)) (hHc e).1 (hHc e).2];exact e
 ·by_cases hb:b=P
  ·subst hb
   rw [hP] at e;cases e
   exact ⟨more,atP⟩
  ·exact ⟨#[],by rw [hget hb (hHc e).1 (hHc e).2,e];simp⟩
 ·by_cases h3:b=h'.objs.size
  ·subst h3
   rw [Yg] at e;cases e
   exact Ydj (Heap.get?_push_size _ rfl)
  ·by_cases h2:b=c'
   ·subst h2
    rw [Yd h3,Yg] at e;cases e
    exact Yf4 (hrec.push _)
   ·by_cases h1:b=P
    ·subst h1
     rw [atP] at e;cases e
     exact push _ _ htb
    ·rw [hget h1 h2 h3] at e
     refine (I.hok b o e).stay (fun c u hc q=>push c u (hx c u ?_ q)) (fun c q=>?_) fun c xs q=>?_
     ·rcases hc with rfl | hc
      ·exact h1
      ·exact YX hc hP (by intro z;cases z)
     ·rw [hget (YX q hP (by intro z;cases z)) (hHc q).1 (hHc q).2];exact q
     ·rw [hget (YX q hP (by intro z;cases z)) (hHc q).1 (hHc q).2];exact q
end
def Made (P:Addr) (pos:Pos) (q:Str) (mk:Addr→FuncData→Prop) (H:Hp) (Q:VK):Prop:=∃ ps,H P=some (.tbl ps)∧TriplesOk ps.toList ∧
 ((codeAmong pos ps.toList=none∧∀ f c fd,H f=none→H c=none→f≠c→mk c fd→Q (.ref f) (upd (upd (upd H P (.tbl (ps++#[rawInt pos.line,rawInt pos.col,.ref c]))) c (CdO c q)) f (FnO f fd))) ∨
  ∃ c,codeAmong pos ps.toList=some (.ref c)∧∀ f fd,H f=none→mk c fd→Q (.ref f) (upd H f (FnO f fd)))
section
variable {X:Cx} {c P:Addr} {name qual:Str} {params:Arguments} {body:List Stmt} {eb:Expr} {scope:Scope} {clos:List (Str×Addr)} {pos:Pos} {ln:Nat}
abbrev YeX (qual:Str) (params:Arguments) (body:Expr) (scope:Scope) (clos:List (Str×Addr)) (c:Addr) (fd:FuncData):Prop:=∃ pm ctv,fd=PySem.W.kla_fn "<lambda>" qual params body scope clos pm (.ref c) ctv
theorem Ydk {pins:List (Addr×Obj)} {σ:St} {H:Hp} {s:Shared} {ps:Array Value} (I:Inv X pins σ H s) (bm:Bm X.mg X.base) (hP:H P=some (.tbl ps)):mainGlobals≠P∧s.heap.BuiltinsAt X.mg P:=by
 refine ⟨fun z=>?_,?_⟩
 ·obtain ⟨o,es,ep,e,_⟩:=I.mod.glob
  have:=(I.bs _ _ e).2
  rw [z,hP] at this;cases this
 ·obtain ⟨b,ob,h1,h2,h3,h4,h5⟩:=bm
  refine ⟨b,ob,h1,h2,h3,fun z=>?_,(I.bs _ _ h4).1,h5⟩
  have:=(I.bs _ _ h4).2
  rw [z,hP] at this;cases this
theorem Yf6 {pins:List (Addr×Obj)} {σ:St} {H:Hp} {s:Shared} {Q:VK} (bm:Bm X.mg X.base) (C:PySem.W.CodeHd X.base c P) (hcode:X.env.code = .ref c) (hcl:closureFor scope X.env=pure clos) (I:Inv X pins σ H s) (h:Made P pos qual (YeX qual params eb scope clos) H Q) :
  wpAny (model X.prog X.w) X.A (makeFunction "<lambda>" qual params (.expr eb) scope X.env [] [] [] pos ln) (EP X pins σ Q) X.xe s:=by
 obtain ⟨ps,hP,ht,h⟩:=h
 obtain ⟨hgP,hb⟩:=Ydk I bm hP
 have hPo:s.heap.get? P=some (PySem.W.tabObj ps):=I.hok P _ hP
 rcases h with ⟨hnf,h⟩ | ⟨c',hf,h⟩
 ·refine PySem.W.kla_makeFunction (mg:=X.mg) hcl I.ok.glob (I.mod.glob.keeps I.bk) hcode (C.keeps I.bk) hPo ht hnf hgP hb fun c' ctv h' tk hx hge hlt hrec htb=>?_
  refine ⟨.ref h'.objs.size,_,I.madeF hP hx hge hlt hrec htb,rfl,h _ _ _ (I.hok.fresh (Nat.le_trans hge (Nat.le_of_lt hlt))) (I.hok.fresh hge) (Nat.ne_of_gt hlt) ⟨_,_,rfl⟩⟩
 ·refine PySem.W.kla_makeFunctionHit (mg:=X.mg) hcl I.ok.glob (I.mod.glob.keeps I.bk) hcode (C.keeps I.bk) hPo ht hf hb fun ctv h' tk hk hsz=>?_
  exact ⟨.ref h'.objs.size,_,I.laid (fun b o e=>Heap.get?_push_of_some _ (hk b o e)) hsz (Ydj (Heap.get?_push_size _ rfl)),rfl,h _ _ (I.hok.fresh hsz) ⟨_,_,rfl⟩⟩
def tLam (P:Addr) (pos:Pos) (q:Str) (mk:Addr→FuncData→Prop):TE:=fun _ H Q=>Made P pos q mk H Q
theorem Ydl (bm:Bm X.mg X.base) (C:PySem.W.CodeHd X.base c P) (hcode:X.env.code = .ref c) (hcl:closureFor scope X.env=pure clos) (hq:X.env.qual++"<lambda>"=qual) (hdef:defaultsOf params X.env=([],[])) :
  PE X (.Lambda params eb scope pos) (tLam P pos qual (YeX qual params eb scope clos)):=by
 intro pins s σ H Q I h
 refine PySem.W.kla_eval hdef ?_
 rw [hq]
 exact Yf6 bm C hcode hcl I h
end
def WH (X:Cx) (σ:St) (l:YF):Prop:=l.as.Nodup∧∀ p∈l,∃ i:Nat,X.N[i]?=some p.1∧σ[i]?=some (some p.2.2)∧X.env.kindOf p.1=some .cell∧X.env.cells.lookup p.1=some p.2.1
section
variable {X:Cx} {st:Stmt} {YU:List Stmt} {t:TS} {u:(St→V→Hp→Prop)→St→Hp→Prop} {e:Expr} {te:TE} {pos:Pos}
end
end L2
namespace L2
open PySem PySem.Spec PyProof.Rows
def Yf7 (g:Gx) (k i:Nat) (t:TA):TE:=fun σ H Q=>∃ f fd ps sp,σ[i]?=some (some (.ref f))∧FnOk g.P g.w g.K g.mg g.base CX0 k f fd ps sp∧(∀ us:List Value,us.length=ps.length→bindArgs fd ⟨us,[]⟩=pure (ps.zip us))∧H f=some (FnO f fd)∧t σ H fun vs H1=>H1 f=some (FnO f fd)∧sp vs H1 Q E0
section
variable {X:Cx} {g:Gx} {k j i:Nat} {x:Str} {p pos:Pos} {e:Expr} {es:List Expr} {t:TA}
theorem Ybk {pins:List (Addr×Obj)} {σ:St} {H:Hp} {s:Shared} {f:Addr} {fd:FuncData} (I:Inv X pins σ H s) (h:H f=some (FnO f fd)):PySem.W.FnAt f s.heap:=⟨_,_,_,_,(I.hok _ _ h).1⟩
theorem Yd9 (i:Nat) (hr:Room k X.A) (ha:PA X (e::es) t) (hj:j≤k) (hX:X.gx=g) (hN:X.N[i]?=some x) (hv:Vis X.env.scope x) (hdb:(x==("__debug__":Str))=false)
  (hcd:(x==("__classdict__":Str))=false) (he:starEach (e::es) X.env=(false,eval e X.env)::starEach es X.env) (hpl:(backTo pos (starEach es X.env)).any (·.1)=false):PE X (.Call (.Name x p) (e::es) [] pos) (Yf7 g j i t):=by
 subst hX
 intro pins s σ H Q I h
 obtain ⟨f,fd,ps,sp,hσ,F,b,hf,ht⟩:=h
 refine wpAny_Call_Name_kw (thn (YcQ hN hv hdb hcd pins s σ H (fun v H1=>v = .ref f∧H1 f=some (FnO f fd)∧t σ H1 fun vs H1=>H1 f=some (FnO f fd)∧sp vs H1 Q E0) I (YbO hσ ⟨rfl,hf,ht⟩)) fun u s1 ⟨v,H1,I1,r,e,hf1,ht⟩=>?_)
 subst e
 obtain rfl:u=Value.ref f:=r
 refine PySem.W.callWith_F (Ybk I1 hf1) (thn (ha pos pins s1 σ H1 _ I1 ht) fun us s2 ⟨vs,H2,I2,r2,hf2,q⟩=>⟨Ybk I2 hf2,?_⟩) he hpl
 exact VI F (hr.mono hj) (.all b) .nil WY I2 r2 (by rw [List.append_nil];exact q)
end
abbrev Tbs:=List (Str×Addr×Addr)
theorem Ydm {P:Program} {w:World} {K:PySem.W.Frag} {mg mb:Str→Option Value} {CX:CXT} {k:Nat} {fa a:Addr} {fd:FuncData} {x:Str} {sp:Sp} {s₁:Shared} {vs:List Value} {ns:List Int} (tabs:Tbs)
  (KX:K.In s₁.heap) (hns:s₁.heap.Ns mainGlobals mg) (hb:s₁.heap.Ns builtinsNs mb) (hbb:∀ x:Str,x≠"__name__"→mb x=bootBuiltins x) (hlim:s₁.heap.NoLimit) (hg:s₁.gens=#[])
  (ha:s₁.heap.get? a=some { cls := .type "list",data := .seq vs.toArray }) (hi:IntsAre vs ns) (hl:ns.length≤sizeLine) (hr:Room k callerA)
  (hT:∀ q∈tabs,PySem.W.CodeHd s₁.heap q.2.1 q.2.2∧s₁.heap.get? q.2.2=some (PySem.W.tabObj #[])) (hK:∀ q∈tabs,K.lookup q.2.2=none)
  (bmn:∃ bm ob,mg "__builtins__"=some (.ref bm)∧bm≠builtinsNs∧s₁.heap.get? bm=some ob∧ob.cls = .type "module"∧ob.dict=some builtinsNs∧ob.data = .plain)
  (F:∀ base:Heap,K.In base→base.Ns mainGlobals mg→Bm mg base→(∀ q∈tabs,PySem.W.CodeHd base q.2.1 q.2.2)→FnOk P w K mg base CX k fa fd [x] sp) (hbind:∀ (s:Shared) (u:Value),BindsTo s fd ⟨[u],[]⟩ [(x,u)])
  (hsp:∀ H:Hp,(∀ q∈tabs,H q.2.2=some (.tbl #[]))→SqL K H a (ns.map V.int)→sp [.ref a] H (fun v _=>v = .bl true) fun _ _ _=>False)
  (hCX:∀ H e s',CX [] H s₁ (fun _ _ _=>False) e s'→False) :
  codeAny (model P w) callerA (.call (.ref fa) ⟨[.ref a],[]⟩) (fun r s'=>r = .ok (.ret (.bool true))∧OldK s₁.heap s'.heap∧s'.os=s₁.os∧AllBare s'.gens) s₁:=by
 have rv:=Qt hi
 have lenV:=hi.length
 have tobj:∀ b∈tabs.map (·.2.2),s₁.heap.get? b=some (PySem.W.tabObj #[]):=fun b hb=>by
  obtain ⟨q,hq,rfl⟩:=List.mem_map.mp hb
  exact (hT q hq).2
 have aT:a∉tabs.map (·.2.2):=fun hb=>by
  have:=tobj a hb
  rw [ha] at this
  cases this
 have core:∀ H:Hp,(∀ b,H b=none∨(∃ o xs,H b=some (.frz o (.lst xs)))∨(b∈tabs.map (·.2.2)∧H b=some (.tbl #[])))→SqL K H a (ns.map V.int)→HOk P w H s₁.heap→(∀ b,H b≠none→b=a∨b∈tabs.map (·.2.2))→(H a≠none→K.lookup a=none)→(∀ q∈tabs,H q.2.2=some (.tbl #[])) →
   codeAny (model P w) callerA (.call (.ref fa) ⟨[.ref a],[]⟩) (fun r s'=>r = .ok (.ret (.bool true))∧OldK s₁.heap s'.heap∧s'.os=s₁.os∧AllBare s'.gens) s₁:=by
  intro H hO hS hok hA hKa hTb
  have base_of:∀ {b:Addr} {o:Obj},s₁.heap.get? b=some o→H b=none→(WK s₁.heap H).get? b=some o:=fun e n=>YdU e n
  have noC:∀ {b:Addr} {o:Obj},s₁.heap.get? b=some o→o.cls ≠ .type "list"→o≠PySem.W.tabObj #[]→H b=none:=fun {b o} e d1 d2=>by
   cases q:H b with
   | none=>rfl
   | some u =>
    rcases hA b (by rw [q];simp) with e' | e'
    ·subst e'
     rw [ha] at e;cases e
     exact absurd rfl d1
    ·rw [tobj b e'] at e
     exact absurd (Option.some.inj e).symm d2
  have noA:∀ {b:Addr} {o:Obj} {es:Array DictEntry} {ep:Nat},s₁.heap.get? b=some o→o.data = .dict es ep→H b=none:=fun {b o es ep} e d=>by
   cases q:H b with
   | none=>rfl
   | some u =>
    rcases hA b (by rw [q];simp) with e' | e'
    ·subst e'
     rw [ha] at e;cases e
     have d':Data.seq vs.toArray _=Data.dict es ep:=d
     cases d'
    ·rw [tobj b e'] at e
     cases e
     have d':Data.fields #[]=Data.dict es ep:=d
     cases d'
  have nsK:∀ {b:Addr} {m:Str→Option Value},s₁.heap.Ns b m→(WK s₁.heap H).Ns b m:=fun {b m} ⟨o,es,ep,e,d,r⟩=>⟨o,es,ep,base_of e (noA e d),d,r⟩
  have hKb:K.In (WK s₁.heap H):=fun b o e=>base_of (KX b o e) (by
   cases q:H b with
   | none=>rfl
   | some u =>
    rcases hA b (by rw [q];simp) with e' | e'
    ·subst e'
     rw [hKa (by rw [q];simp)] at e;cases e
    ·obtain ⟨z,hz,rfl⟩:=List.mem_map.mp e'
     rw [hK z hz] at e;cases e)
  have hM:Mod K mg (WK s₁.heap H):=⟨hKb,nsK hns,⟨mb,nsK hb,hbb⟩,let ⟨mc,h1,h2⟩:=hlim;⟨mc,nsK h1,h2⟩⟩
  have e0:Env0 P w K mg (WK s₁.heap H) callerA [] s₁ H:=⟨rfl,hM,fun b o e=>Ye6 e,Nat.le_of_eq (YcO _ _),trivial,fun b hb=>absurd (show b∈([]:List Addr) from hb) (by simp),hok,.of_eq hg⟩
  have hBm:Bm mg (WK s₁.heap H):=by
   obtain ⟨bm,ob,b1,b2,b3,b4,b5,b6⟩:=bmn
   refine ⟨bm,ob,b1,b2,fun z=>?_,base_of b3 (noC b3 (by rw [b4];decide) fun z=>by rw [z] at b4;cases b4),b4,b5,b6⟩
   obtain ⟨o,es,ep,e,d,_⟩:=hns
   rw [z,e] at b3;cases b3
   rw [d] at b6;cases b6
  have hCd:∀ q∈tabs,PySem.W.CodeHd (WK s₁.heap H) q.2.1 q.2.2:=fun q hq=>by
   obtain ⟨o,vs',file,tf,flags,tg,inF,text,tt,e1,e2,r⟩:=(hT q hq).1
   exact ⟨o,vs',file,tf,flags,tg,inF,text,tt,base_of e1 (noC e1 (by rw [e2];decide) fun z=>by rw [z] at e2;cases e2),e2,r⟩
  refine codeAny_mono ((F _ hKb (nsK hns) hBm hCd).run callerA [] s₁ H ⟨[.ref a],[]⟩ [.ref a] [.ref a] _ _ hr e0 (hbind s₁ (.ref a)) (.cons rfl .nil) (hsp H hTb hS)) fun r s' h=>?_
  cases r with
  | error e=>exact (hCX H e s' h).elim
  | ok fl =>
   cases fl with
   | next=>exact False.elim h
   | brk=>exact False.elim h
   | cont=>exact False.elim h
   | ret u =>
    obtain ⟨v,H',os,bare,un,hok',r',q⟩:=h
    have q':v = .bl true:=q
    subst q'
    obtain rfl:u=Value.bool true:=r'
    have each:∀ b o,s₁.heap.get? b=some o→s'.heap.get? b=some o∨((∃ z∈tabs,z.2.2=b)∧o=PySem.W.tabObj #[]∧∃ ps,s'.heap.get? b=some (PySem.W.tabObj ps)):=fun b o e=>by
     rcases hO b with q | ⟨ob,xs,z⟩ | ⟨z1,z2⟩
     ·exact .inl (un.keep b o e q (by intro z;exact absurd (show b∈([]:List Addr) from z) (by simp)) (by simp))
     ·have z2:=un.frzs b ob _ z
      obtain ⟨e1,_⟩:=hok b _ z
      obtain ⟨e2,_⟩:=hok' b _ z2
      rw [e] at e1;cases e1
      exact .inl e2
     ·obtain ⟨q,hq,e3⟩:=List.mem_map.mp z1
      obtain ⟨more,e4⟩:=un.tbls b _ z2
      have e5:s'.heap.get? b=some (PySem.W.tabObj (#[]++more)):=hok' b _ e4
      rw [tobj b z1] at e
      exact .inr ⟨⟨q,hq,e3⟩,(Option.some.inj e).symm,_,e5⟩
    refine ⟨rfl,⟨fun b o e=>?_,fun b o e=>?_⟩,os,bare⟩
    ·rcases each b o e with h | ⟨⟨z,hz,rfl⟩,rfl,ps,h⟩
     ·exact .inl h
     ·exact .inr (.inl ⟨((hT z hz).1.tab (hT z hz).2).isCodeTable,rfl,#[],ps,rfl,by rw [Array.empty_append];exact h⟩)
    ·rcases each b o e with h | ⟨_,_,ps,h⟩
     ·exact ⟨o,h⟩
     ·exact ⟨_,h⟩
 have tbIn:∀ q∈tabs,q.2.2∈tabs.map (·.2.2):=fun q hq=>List.mem_map_of_mem hq
 have tbOk:∀ {H:Hp} {b:Addr},b∈tabs.map (·.2.2)→YR P w H s₁.heap b (.tbl #[]):=fun hb=>tobj _ hb
 cases hk:K.lookup a with
 | some o =>
  have e:=KX a o hk
  rw [ha] at e
  cases e
  refine core (fun b=>if b∈tabs.map (·.2.2) then some (.tbl #[]) else none) (fun b=>?_) (.inr ⟨_,vs.toArray,_,hk,rfl,rfl,rfl,by rw [List.size_toArray,lenV];exact hl,by simpa using rv⟩) (fun b u z=>?_) (fun b z=>?_) (fun z=>absurd (if_neg aT) z) fun q hq=>if_pos (tbIn q hq)
  ·by_cases hb:b∈tabs.map (·.2.2)
   ·exact .inr (.inr ⟨hb,if_pos hb⟩)
   ·exact .inl (if_neg hb)
  ·by_cases hb:b∈tabs.map (·.2.2)
   ·have z':=(if_pos hb).symm.trans z
    cases z'
    exact tbOk hb
   ·have z':=(if_neg hb).symm.trans z
    cases z'
  ·by_cases hb:b∈tabs.map (·.2.2)
   ·exact .inr hb
   ·exact absurd (if_neg hb) z
 | none =>
  refine core (fun b=>if b∈tabs.map (·.2.2) then some (.tbl #[]) else if b=a then some (.frz { cls := .type "list",data := .seq vs.toArray } (.lst (ns.map V.int))) else none) (fun b=>?_) (.inl (.inr ⟨{ cls := .type "list",data := .seq vs.toArray },(if_neg aT).trans (if_pos rfl)⟩)) (fun b u z=>?_) (fun b z=>?_) (fun _=>hk) fun q hq=>if_pos (tbIn q hq)
  ·by_cases hb:b∈tabs.map (·.2.2)
   ·exact .inr (.inr ⟨hb,if_pos hb⟩)
   ·by_cases hb2:b=a
    ·exact .inr (.inl ⟨_,_,(if_neg hb).trans (if_pos hb2)⟩)
    ·exact .inl ((if_neg hb).trans (if_neg hb2))
  ·by_cases hb:b∈tabs.map (·.2.2)
   ·have z':=(if_pos hb).symm.trans z
    cases z'
    exact tbOk hb
   ·have z1:=(if_neg hb).symm.trans z
    by_cases hb2:b=a
    ·have z':=(if_pos hb2).symm.trans z1
     cases z'
     subst hb2
     exact ⟨ha,by rw [List.length_map];exact hl,vs,_,rv,ha⟩
    ·have z':=(if_neg hb2).symm.trans z1
     cases z'
  ·by_cases hb:b∈tabs.map (·.2.2)
   ·exact .inr hb
   ·by_cases hb2:b=a
    ·exact .inl hb2
    ·exact absurd ((if_neg hb).trans (if_neg hb2)) z
def V4 (K:PySem.W.Frag) (tabs:Tbs):Sp:=fun vs H Q _=>∃ (a:Addr) (ns:List Int),vs=[.ref a]∧SqL K H a (ns.map V.int)∧ns.length≤63∧(∀ q∈tabs,H q.2.2=some (.tbl #[]))∧∀ H',Q (.bl true) H'
def YeY (s:Stmt) (j:Nat):Stmt:=(YM s).getD j (.Pass ⟨0,0,0,0⟩)
end L2
namespace HT
open PySem PySem.Spec PyProof.Rows
variable {prog:Program} {w:World} {A:Around} {E:Value→Shared→Prop} {s:Shared}
end HT
namespace L2
open PySem PySem.Spec PyProof.Rows
end L2
namespace L2
open PySem PySem.Spec PyProof.Rows
section
variable {tb:TS} {D:Ends} {σ:St} {H:Hp}
end
section
variable {src:List (Option Nat)} {te:TE} {tt:TT} {σ:St} {H:Hp} {Q:VK}
end
end L2
namespace L2
open PySem PySem.Spec PyProof.Rows
def Ybl (e:Expr):Arguments:=match e with
 | .Lambda a _ _ _=>a
 | _=>{ posonlyargs:=[],args:=[],vararg:=none,kwonlyargs:=[],kw_defaults:=[],kwarg:=none,defaults:=[] }
def Ybm (e:Expr):Expr:=match e with
 | .Lambda _ b _ _=>b
 | e=>e
def Vq (e:Expr):Scope:=match e with
 | .Lambda _ _ sc _=>sc
 | _=>{ kind := .function,names:=[],isGenerator:=false,isCoroutine:=false }
end L2
namespace L2
open PySem PySem.Spec PyProof.Rows
structure FunD (K:PySem.W.Frag) (x qual:Str) (st:Stmt) (f:Addr) (fd:FuncData) (T:Addr):Prop where
 ex:∃ (oc:Value) (od:Option Addr) (kV doc pm:Value) (an:Option Addr) (cdv ct:Value) (osl:Array (Option Value)),
  fd=PySem.W.fnOf x qual (YT st) (YM st) (Yi st) (.ref T) kV doc pm an cdv ct∧K.lookup f=some ⟨oc,od,.func fd,osl⟩∧PySem.W.codeIn K cdv qual=true
 kp:PySem.W.keepIn K (.ref f)=true
def Gx.RawD (g:Gx) (x qual:Str) (st:Stmt) (ps:List Str) (dvs:List V):Prop:=∃ f fd T ds,FunD g.K x qual st f fd T∧Yp dvs ds∧YY g.K fd ps ds∧g.mg x=some (.ref f)
def Gx.FnD (g:Gx) (k:Nat) (x:Str) (ps:List Str) (dvs:List V) (sp:Sp):Prop:=∃ f fd ds,FnOk g.P g.w g.K g.mg g.base CX0 k f fd ps sp∧Yp dvs ds∧YY g.K fd ps ds∧PySem.W.keepIn g.K (.ref f)=true∧g.mg x=some (.ref f)
section
variable {g:Gx} {x qual:Str} {st:Stmt} {N ps:List Str} {dvs:List V} {sp:Sp} {j k:Nat}
theorem Gx.RawD.fnD (R:g.RawD x qual st ps dvs) (S:FnScope N ps (Yi st)) (len:∀ vs H Q E,sp vs H Q E→vs.length=ps.length) (b:UX g k N qual st sp):g.FnD (k+1) x ps dvs sp:=by
 obtain ⟨f,fd,T,ds,F,hv,bd,hm⟩:=R
 refine ⟨f,fd,ds,?_,hv,bd,F.kp,hm⟩
 obtain ⟨oc,od,kV,doc,pm,an,cdv,ct,osl,rfl,lk,hcd⟩:=F.ex
 refine QL lk hcd S len fun A outer s H vs Q E hr hsp=>?_
 obtain ⟨t,h,q⟩:=b f cdv A outer s H vs Q E hr hsp
 exact ⟨t,h.nox,q⟩
theorem Gx.FnD.mono (F:g.FnD j x ps dvs sp) (h:j≤k):g.FnD k x ps dvs sp:=by
 obtain ⟨f,fd,ds,F,r⟩:=F
 exact ⟨f,fd,ds,F.mono h,r⟩
variable {X:Cx} {p pos:Pos} {e:Expr} {es:List Expr} {t:TA}
theorem Yf8 (F:g.FnD j x ps dvs sp) (hr:Room k X.A) (ha:PA X (e::es) t) (hj:j≤k) (hX:X.gx=g) (hg:Gl X x) (hdb:(x==("__debug__":Str))=false)
  (he:starEach (e::es) X.env=(false,eval e X.env)::starEach es X.env) (hpl:(backTo pos (starEach es X.env)).any (·.1)=false):PE X (.Call (.Name x p) (e::es) [] pos) (Vm sp dvs E0 t):=by
 subst hX
 obtain ⟨f,fd,ds,F,hv,b,kp,hm⟩:=F
 exact Ybc F (hr.mono hj) hg hm kp b hv WY ha hdb he hpl
end
theorem Yfq {K:PySem.W.Frag} {h:Heap} {mg:Str→Option Value} {f T:Addr} {x:Str} {st:Stmt} {oc kV dc pm cd ct:Value} {od an:Option Addr} {sl:Array (Option Value)} {o:Obj} {items:Array Value} {n:Nat} (X:K.In h) (G:h.Ns mainGlobals mg) (ps:List Str) (dvs:List V) (nb:Nat)
  (a:PySem.W.nsIn K mainGlobals x=some (some (.ref f))) (l:K.lookup f=some ⟨oc,od,.func (PySem.W.fnOf x x (YT st) (YM st) (Yi st) (.ref T) kV dc pm an cd ct),sl⟩) (c:PySem.W.codeIn K cd x=true) (k:PySem.W.keepIn K (.ref f)=true)
  (t:K.lookup T=some o) (s:o.data = .seq items n) (v:Yp dvs items.toList) (e:nb+items.toList.length=ps.length)
  (b:∀ (us:List Value),us.length=nb→∃ kk,bindArgs (PySem.W.fnOf x x (YT st) (YM st) (Yi st) (.ref T) kV dc pm an cd ct) ⟨us,[]⟩=seqItems? (.ref T) >>= kk∧kk (some items)=pure (ps.zip (us++items.toList))) :
  ∀ P w base,(Gx.mk P w K mg base).RawD x x st ps dvs:=fun P w base =>
 ⟨f,_,T,items.toList,⟨⟨oc,od,kV,dc,pm,an,cd,ct,sl,rfl,l,c⟩,k⟩,v,fun s' us hK hl=>by
  have hn:us.length=nb:=by rw [List.length_append] at hl;omega
  obtain ⟨kk,h1,h2⟩:=b us hn
  exact PySem.W.binds_K hK rfl t s h1 h2,PySem.W.mg_of X G a⟩
section
variable {X:Cx}
end
section
variable {src:List (Option Nat)} {te:TE} {σ:St} {H:Hp} {Q:VK}
theorem Ydn {K:PySem.W.Frag} {tl:TE} {xs:List V} {b:Addr} (I:Addr→Nat→List V→Hp→Prop) (ha:∀ R:V→Hp→Prop,R (.ref b) H→tl σ H R) (hS:SqL K H b xs) (hlen:xs.length≤100000)
  (i0:∀ D,H D=none→I D 0 [] (upd H D (.lst []))) (dl:∀ D i zs H',H D=none→I D i zs H'→zs.length=i∧H' D=some (.lst zs)∧SqL K H' b xs)
  (step:∀ D (i:Nat) x zs H',H D=none→xs[i]?=some x→I D i zs H'→∀ R:VK,(∀ y H'',H'' D=some (.lst zs)→I D (i+1) (zs++[y]) (upd H'' D (.lst (zs++[y])))→R y H'')→te (some x::YD src σ) H' R)
  (fin:∀ D zs H',H D=none→I D xs.length zs H'→Q (.ref D) H'):tLC (none::src) (WA K tl) (Yy 0) XT te σ H Q:=by
 refine ha _ ⟨b,rfl,⟨xs,hS⟩,fun D hD=>?_⟩
 have h6:100000<sizeLine:=by decide
 refine W0 X2 (fun i zs σ' H'=>(∃ o,σ'=o::YD src σ)∧i≤xs.length∧I D i zs H') ⟨⟨none,rfl⟩,Nat.zero_le _,i0 D hD⟩ (fun i zs σ' H' q=>⟨(dl _ _ _ _ hD q.2.2).2.2,(dl _ _ _ _ hD q.2.2).2.1⟩) (XM 0) ?_ ?_
 ·rintro i zs σ' H' x hx ⟨⟨o,rfl⟩,_,hI⟩
  have hi:i<xs.length:=(List.getElem?_eq_some_iff.mp hx).1
  have hl:=(dl _ _ _ _ hD hI).1
  show te (some x::YD src σ) H' _
  exact step D i x zs H' hD hx hI _ fun y H'' hd hI'=>⟨hd,by omega,⟨_,rfl⟩,hi,hI'⟩
 ·rintro zs σ' H' ⟨_,_,hI⟩
  exact fin D zs H' hD hI
end
end L2
namespace L2
open PySem PySem.Spec PyProof.Rows
mutual
inductive RK (h:Heap):Value→PyData→Prop
 | int (i:Int) (t:Tok):RK h (.int i t) (.int i)
 | str (x:Str) (t:Tok) (hx:PyData.strOk x=true):RK h (.str x t) (.str x)
 | tup {a:Addr} {o:Obj} {vs:Array Value} {n:Nat} {ds:List PyData}:h.get? a=some o→o.cls = .type "tuple"→o.data = .seq vs n→RKs h vs.toList ds→RK h (.ref a) (.tuple ds)
inductive RKs (h:Heap):List Value→List PyData→Prop
 | nil:RKs h [] []
 | cons {v:Value} {d:PyData} {vs:List Value} {ds:List PyData}:RK h v d→RKs h vs ds→RKs h (v::vs) (d::ds)
end
mutual
inductive KO:PyData→Prop
 | int (i:Int):KO (.int i)
 | str (x:Str):KO (.str x)
 | tup {ds:List PyData}:KOs ds→KO (.tuple ds)
inductive KOs:List PyData→Prop
 | nil:KOs []
 | cons {d:PyData} {ds:List PyData}:KO d→KOs ds→KOs (d::ds)
end
mutual
theorem RK.ko {h:Heap}:∀ {v:Value} {d:PyData},RK h v d→KO d
 | _,_,.int i t => .int i
 | _,_,.str x t _ => .str x
 | _,_,.tup _ _ _ hs => .tup hs.ko
theorem RKs.ko {h:Heap}:∀ {vs:List Value} {ds:List PyData},RKs h vs ds→KOs ds
 | _,_,.nil => .nil
 | _,_,.cons a b => .cons a.ko b.ko
end
mutual
theorem RK.reads {h:Heap}:∀ {v:Value} {d:PyData},RK h v d→(∃ as,Reads h v d as)∧d.canLay0=true
 | _,_,.int i t=>⟨⟨_,.int i t⟩,rfl⟩
 | _,_,.str x t hx=>⟨⟨_,.str x t⟩,by simpa [PyData.canLay0] using hx⟩
 | _,_,.tup h1 h2 h3 hs=>by
  obtain ⟨⟨as,r⟩,l⟩:=hs.reads
  exact ⟨⟨_,.tuple h1 h2 h3 r⟩,by rw [PyData.canLay0];exact l⟩
theorem RKs.reads {h:Heap}:∀ {vs:List Value} {ds:List PyData},RKs h vs ds→(∃ as,ReadsAll h vs ds as)∧PyData.canLayAll0 ds=true
 | _,_,.nil=>⟨⟨_,.nil⟩,rfl⟩
 | _,_,.cons a b=>by
  obtain ⟨⟨as,r⟩,l⟩:=a.reads
  obtain ⟨⟨bs,r'⟩,l'⟩:=b.reads
  exact ⟨⟨_,.cons r r'⟩,by rw [PyData.canLayAll0,l,l'];rfl⟩
end
theorem RK.of {h:Heap} {d:PyData} {v:Value} {as:List Addr} (k:KO d) (r:Reads h v d as) (l:d.canLay0=true):RK h v d:=by
 induction k using KO.rec (motive_2:=fun ds _=>∀ {vs:List Value} {as:List Addr},ReadsAll h vs ds as→PyData.canLayAll0 ds=true→RKs h vs ds) generalizing v as with
 | int i=>cases r with | int _ t=>exact .int i t
 | str x=>cases r with | str _ t=>exact .str x t (by simpa [PyData.canLay0] using l)
 | tup _ ih=>cases r with | tuple h1 h2 h3 hs=>exact .tup h1 h2 h3 (ih hs (by rw [PyData.canLay0] at l;exact l))
 | nil=>rename_i r l;cases r;exact .nil
 | cons _ _ ih ihs =>
  rename_i r l
  rw [PyData.canLayAll0,Bool.and_eq_true] at l
  cases r with | cons r rs=>exact .cons (ih r l.1) (ihs rs l.2)
theorem RK.inj {h:Heap} {d:PyData} {v:Value} {e:PyData} (a:RK h v d) (b:RK h v e):d=e:=by
 obtain ⟨⟨_,r⟩,l⟩:=a.reads
 obtain ⟨⟨_,r'⟩,_⟩:=b.reads
 exact (r.unique _ _ r').1
mutual
theorem RK.keeps {h h':Heap} {x:Addr} {o:Obj} {es:Array DictEntry} {ep:Nat} (ho:h.get? x=some o) (hd:o.data = .dict es ep) (hs:Heap.SameBut x h h'):∀ {v:Value} {d:PyData},RK h v d→RK h' v d
 | _,_,.int i t => .int i t
 | _,_,.str y t hy => .str y t hy
 | _,_,.tup (a:=a) h1 h2 h3 ks=>by
  have hne:a≠x:=by
   rintro rfl
   rw [ho] at h1
   cases h1
   rw [hd] at h3
   exact nomatch h3
  exact .tup ((hs.2 a hne).trans h1) h2 h3 (RKs.keeps ho hd hs ks)
theorem RKs.keeps {h h':Heap} {x:Addr} {o:Obj} {es:Array DictEntry} {ep:Nat} (ho:h.get? x=some o) (hd:o.data = .dict es ep) (hs:Heap.SameBut x h h'):∀ {vs:List Value} {ds:List PyData},RKs h vs ds→RKs h' vs ds
 | _,_,.nil => .nil
 | _,_,.cons a b => .cons (RK.keeps ho hd hs a) (RKs.keeps ho hd hs b)
end
noncomputable instance decPy:DecidableEq PyData:=fun a b=>Classical.propDecidable (a=b)
mutual
theorem KO.eqv:∀ {d e:PyData},KO d→KO e→d.eqv e=decide (d=e)
 | .int a,.int b,_,_=>by
  by_cases h:a=b
  ·subst h;simp [PyData.eqv]
  ·simp [PyData.eqv,h]
 | .str a,.str b,_,_=>by
  by_cases h:a=b
  ·subst h;simp [PyData.eqv]
  ·simp [PyData.eqv,h]
 | .int a,.str b,_,_=>by simp [PyData.eqv]
 | .str a,.int b,_,_=>by simp [PyData.eqv]
 | .int a,.tuple b,_,_=>by simp [PyData.eqv]
 | .str a,.tuple b,_,_=>by simp [PyData.eqv]
 | .tuple a,.int b,_,_=>by simp [PyData.eqv]
 | .tuple a,.str b,_,_=>by simp [PyData.eqv]
 | .tuple a,.tuple b,.tup x,.tup y=>by
  rw [PyData.eqv,KOs.eqv x y]
  by_cases h:a=b
  ·subst h;simp
  ·simp [h]
theorem KOs.eqv:∀ {ds es:List PyData},KOs ds→KOs es→PyData.eqvAll ds es=decide (ds=es)
 | [],[],_,_=>by simp [PyData.eqvAll]
 | [],_::_,_,_=>by simp [PyData.eqvAll]
 | _::_,[],_,_=>by simp [PyData.eqvAll]
 | d::ds,e::es,.cons x xs,.cons y ys=>by
  rw [PyData.eqvAll,KO.eqv x y,KOs.eqv xs ys]
  by_cases h:d=e
  ·subst h
   by_cases h2:ds=es
   ·subst h2;simp
   ·simp [h2]
  ·simp [h]
end
section
variable {P:Program} {w:World}
mutual
def kh (P:Program) (w:World):PyData→Int
 | .int i=>(XL P w).hash (.inl i)
 | .str x=>(XL P w).hash (.inr x)
 | .tuple ds=>reduceHash (Builtin.Tuple.tupleHashOf (khs P w ds))
 | _=>0
def khs (P:Program) (w:World):List PyData→List Int
 | []=>[]
 | d::ds=>kh P w d::khs P w ds
end
mutual
def kdr:PyData→Nat
 | .int _=>1
 | .str _=>1
 | .tuple ds=>We ds+1
 | _=>0
def We:List PyData→Nat
 | []=>0
 | d::ds=>kdr d+We ds
end
theorem Yfr (a b:List PyData):khs P w (a++b)=khs P w a++khs P w b:=by
 induction a with
 | nil=>simp [khs]
 | cons x a ih=>simp [khs,ih]
theorem Yea (a b:List PyData):We (a++b)=We a+We b:=by
 induction a with
 | nil=>simp [We]
 | cons x a ih=>simp [We,ih,Nat.add_assoc]
theorem Yeb (a b:List PyData):PyData.depthAll (a++b)=max (PyData.depthAll a) (PyData.depthAll b):=by
 induction a with
 | nil=>simp [PyData.depthAll]
 | cons x a ih=>simp [PyData.depthAll,ih,Nat.max_assoc]
theorem UC {s:Shared} {a:Addr} {o:Obj} (h1:s.heap.get? a=some o) (h2:o.cls = .type "tuple"):s.TypeIs (.ref a) "tuple":=⟨o,h1,h2⟩
theorem Ybn:∀ (n:Nat) {A:Around} {E:Value→Shared→Prop} {s:Shared} {v:Value} {d:PyData} {Q:Int→Shared→Prop},RK s.heap v d→d.depth≤n→A.units+n<cLine→Q (kh P w d) { s with toks:=s.toks+kdr d }→wpAny (model P w) A (pyHash v) Q E s
 | n,A,E,s,_,_,Q,.int i t,_,_,h=>(XL P w).pyHash (YeN (k := .inl i) (show Yz (.int i) (.int i t) from ⟨t,rfl⟩)) (by simpa [kh,kdr] using h)
 | n,A,E,s,_,_,Q,.str x t _,_,_,h=>(XL P w).pyHash (YeN (k := .inr x) (show Yz (.str x) (.str x t) from ⟨t,rfl⟩)) (by simpa [kh,kdr] using h)
 | 0,A,E,s,_,_,Q,.tup _ _ _ _,hd,_,h=>by simp [PyData.depth] at hd
 | n+1,A,E,s,_,_,Q,.tup (a:=a) (ds:=ds) h1 h2 h3 ks,hd,hu,h=>by
  have hT:=UC h1 h2
  unfold pyHash
  first | unfold pyHashByItsType | skip
  first | refine wpAny_bind (wpAny_cRoomFor_or (.inr (by omega)) ?_) | skip
  refine wpAny_bind (wpAny_specialOf hT F.slot_tuple_hash.lookup ?_)
  show wpAny _ _ (if (some (Value.builtin "tuple.__hash__")==some Value.none)=true then _ else _) Q E s
  rw [if_neg (by rw [beq_builtin_none];exact Bool.false_ne_true)]
  refine wpAny_bind (wpAny_specialOf hT F.slot_tuple_hash.lookup ?_)
  refine wpAny_bind (wpAny_callSpecialIfBoundUnlessNone?_slot hT F.slot_tuple_hash (wpAny_call_entry F.slot_tuple_hash hT F.entry_tuple_hash ?_ (F.args_tuple_hash_1 _)))
  show wpAny _ _ (Builtin.Tuple.tupleItemsOf (.ref a) >>= _) _ _ s
  refine wpAny_bind (wpAny_tupleItemsOf h1 h3 ?_)
  refine wpAny_bind ?_
  rw [← Array.forIn_toList]
  have hdd:PyData.depthAll ds≤n:=by simp only [PyData.depth] at hd;omega
  refine wpAny_forIn_list _ (fun YU (b:Array Int) s'=>∃ done left,ds=done++left∧RKs s.heap YU left∧b.toList=khs P w done∧s'={ s with toks:=s.toks+We done }) _ ?_ ?_ _ _ ⟨[],ds,rfl,ks,by simp [khs],by simp [We]⟩
  ·rintro x YU b s' ⟨done,left,e,hl,hb,rfl⟩
   cases hl with
   | @cons _ d _ ds' hk hl' =>
    have hdk:d.depth≤n:=by
     rw [e,Yeb] at hdd
     simp only [PyData.depthAll] at hdd
     omega
    have hin:A.in1.units+n<cLine:=by
     have:A.in1.units=A.units+1:=rfl
     omega
    refine wpAny_bind (Ybn n (s:={ s with toks:=s.toks+We done }) hk hdk hin ?_)
    have fin:∃ done' left',ds=done'++left'∧RKs s.heap YU left'∧(b.push (kh P w d)).toList=khs P w done'∧({ s with toks:=s.toks+We done+kdr d }:Shared)={ s with toks:=s.toks+We done' } :=
     ⟨done++[d],ds',by rw [e];simp,hl',by rw [Yfr,Array.toList_push,hb];simp [khs],by rw [Yea];simp [We,Nat.add_assoc]⟩
    first
     | exact wpAny_pure fin
     | exact wpAny_bind (wpAny_pure (wpAny_pure fin))
  ·rintro b s' ⟨done,left,e,hl,hb,rfl⟩
   cases hl
   rw [List.append_nil] at e
   subst e
   show wpAny _ _ (retInt (Builtin.Tuple.tupleHashOf b.toList)) _ _ _
   rw [hb]
   refine wpAny_ret_mkInt ?_
   simp only [kh,kdr] at h
   unfold reduceHash at h
   show wpAny _ _ (if (decide (-(2:Int)^63≤Builtin.Tuple.tupleHashOf (khs P w ds))&&decide (Builtin.Tuple.tupleHashOf (khs P w ds)<2^63))=true then _ else _) Q E _
   by_cases hr:(decide (-(2:Int)^63≤Builtin.Tuple.tupleHashOf (khs P w ds))&&decide (Builtin.Tuple.tupleHashOf (khs P w ds)<2^63))=true
   ·rw [if_pos hr]
    rw [if_pos hr] at h
    exact wpAny_pure (by simpa [Nat.add_assoc] using h)
   ·rw [if_neg hr]
    rw [if_neg hr] at h
    exact wpAny_bind (wpAny_rule (wpAny_pure (by simpa [Nat.add_assoc] using h)))
theorem Yah:∀ (n:Nat) {A:Around} {E:Value→Shared→Prop} {s:Shared} {v:Value} {d:PyData} {Q:Bool→Shared→Prop},RK s.heap v d→d.depth≤n→Q true s→wpAny (model P w) A (eqIsQuiet n v) Q E s
 | n,A,E,s,_,_,Q,.int i t,_,h=>by rw [eqIsQuiet_byValue _ (by rfl)];exact wpAny_pure h
 | n,A,E,s,_,_,Q,.str x t _,_,h=>by rw [eqIsQuiet_byValue _ (by rfl)];exact wpAny_pure h
 | 0,A,E,s,_,_,Q,.tup _ _ _ _,hd,h=>by simp [PyData.depth] at hd
 | n+1,A,E,s,_,_,Q,.tup (a:=a) (ds:=ds) h1 h2 h3 ks,hd,h=>by
  have hT:=UC h1 h2
  have hdd:PyData.depthAll ds≤n:=by simp only [PyData.depth] at hd;omega
  unfold eqIsQuiet
  refine wpAny_bind (wpAny_specialOf hT F.slot_tuple_eq.lookup ?_)
  refine wpAny_bind (wpAny_isInstance hT isSubtype_tuple_tuple ?_)
  simp only [Bool.not_true,Bool.false_eq_true,if_false]
  refine wpAny_bind (wpAny_seqItems h1 h3 ?_)
  refine wpAny_bind ?_
  rw [Option.getD_some,← Array.forIn_toList]
  refine wpAny_forIn_list _ (fun YU r s'=>r.1=none∧s'=s∧∃ left,RKs s.heap YU left∧PyData.depthAll left≤n) _ ?_ ?_ _ _ ⟨rfl,rfl,ds,ks,hdd⟩
  ·rintro v YU r s' ⟨hr,rfl,left,hl,hdl⟩
   cases hl with
   | @cons _ d _ ds' hk hl' =>
    simp only [PyData.depthAll] at hdl
    refine wpAny_bind (Yah n hk (by omega) ?_)
    simp only [Bool.not_true,Bool.false_eq_true,if_false]
    exact wpAny_pure ⟨rfl,rfl,ds',hl',by omega⟩
  ·rintro ⟨r1,r2⟩ s' ⟨hr,rfl,_⟩
   simp only at hr
   subst hr
   exact wpAny_pure h
noncomputable def deepKind (P:Program) (w:World):HeapKind P w PyData where
 is:=fun h d a=>RK h (.ref a) d∧d.depth≤8
 hash:=kh P w
 draws:=kdr
 room:=fun A=>A.units+8<cLine
 inj:=fun hx hy=>hx.1.inj hy.1
 keeps:=fun x ho hd hs=>⟨x.1.keeps ho hd hs,x.2⟩
 pyHash:=fun hu hk h=>Ybn 8 hk.1 hk.2 hu h
 eqBool:=fun {A E s x y a b Q} hu hx hy h=>by
  obtain ⟨⟨as,r1⟩,l1⟩:=hx.1.reads
  obtain ⟨⟨bs,r2⟩,l2⟩:=hy.1.reads
  have hm:min x.depth y.depth≤8:=Nat.le_trans (Nat.min_le_left _ _) hx.2
  exact SeqAt.eqAt_reads x y A s _ _ _ _ r1 r2 l1 l2 (by omega) P w E Q (by rw [KO.eqv hx.1.ko hy.1.ko];exact h)
 quiet:=fun hk h=>Yah 8 hk.1 hk.2 h
end
abbrev Dx:=List (PyData×Addr×Addr)
def Xv (x:PyData×Addr×Addr):PyData×Addr×Value:=(x.1,x.2.1,.ref x.2.2)
noncomputable def DDi (P:Program) (w:World) (a:Addr) (xs:Dx):HO := .ext fun h=>(a==sysModules)=false∧∃ o es ep,h.get? a=some o∧o.ExactDict∧o.data = .dict es ep∧es.toList=(xs.map Xv).map (entryOfKey (deepKind P w))
theorem Yai {P:Program} {w:World} {H:Hp} {h:Heap} {a:Addr} {xs:Dx} (hd:(a==sysModules)=false) (e:∃ o es ep,h.get? a=some o∧o.ExactDict∧o.data = .dict es ep∧es.toList=(xs.map Xv).map (entryOfKey (deepKind P w))):YR P w H h a (DDi P w a xs):=by
 refine ⟨⟨hd,e⟩,?_,fun h1 h2 p k=>?_⟩
 ·obtain ⟨o,es,ep,h1,_⟩:=e
  exact ⟨o,h1⟩
 ·obtain ⟨q,o,es,ep,g1,g2⟩:=p
  exact ⟨q,o,es,ep,k _ g1,g2⟩
structure DK (K:PySem.W.Frag) (H:Hp) (b:Addr) (d:PyData):Prop where
 den:Den K H (.ref b) d
 ko:KO d
 dp:d.depth≤8
theorem DK.keep {K:PySem.W.Frag} {H H':Hp} {b:Addr} {d:PyData} (h:DK K H b d) (s:Yk H H'):DK K H' b d:=⟨h.den.keep s,h.ko,h.dp⟩
noncomputable def lookD (xs:Dx) (d:PyData):Option Addr:=(xs.find? fun x=>decide (x.1=d)).map (·.2.2)
structure DictD (P:Program) (w:World) (K:PySem.W.Frag) (H:Hp) (a:Addr) (xs:Dx):Prop where
 at_:H a=some (DDi P w a xs)
 nd:(xs.map (·.1)).Nodup
 len:xs.length≤1000
 keys:∀ x∈xs,DK K H x.2.1 x.1
section
variable {X:Cx} {pins:List (Addr×Obj)} {σ:St} {H:Hp} {s:Shared} {a b:Addr} {d:PyData} {xs:Dx} {u r:Value} {A:Around} {E:Value→Shared→Prop}
theorem UD (I:Inv X pins σ H s) (h:DK X.K H b d):(deepKind X.prog X.w).is s.heap d b:=by
 obtain ⟨as,r⟩:=h.den.reads I (show Yz (.ref b) (.ref b) from rfl)
 exact ⟨RK.of h.ko r h.den.lay,h.dp⟩
theorem UE (I:Inv X pins σ H s) (h:DictD X.prog X.w X.K H a xs):(a==sysModules)=false∧s.heap.DictOfH (deepKind X.prog X.w) a (xs.map Xv):=by
 obtain ⟨⟨hd,o,es,ep,h1,h2,h3,h4⟩,_⟩:=(show YR X.prog X.w H s.heap a (DDi X.prog X.w a xs) from I.hok a _ h.at_)
 refine ⟨hd,o,es,ep,h1,h2,h3,h4,fun x hx=>?_,?_⟩
 ·obtain ⟨y,hy,rfl⟩:=List.mem_map.mp hx
  exact UD I (h.keys y hy)
 ·have:(xs.map Xv).map (·.1)=xs.map (·.1):=by rw [List.map_map];rfl
  rw [this];exact h.nd
theorem Wq (xs:Dx) (d:PyData):(atKey (xs.map Xv) d).map (·.2)=(lookD xs d).map Value.ref:=by
 induction xs with
 | nil=>rfl
 | cons x xs ih =>
  by_cases h:x.1=d
  ·simp [atKey,lookD,List.find?_cons,Xv,h]
  ·simp only [atKey,lookD,List.map_cons,List.find?_cons,Xv,h] at ih ⊢
   simpa using ih
theorem Ycm {p:Addr} {Q:Value→Shared→Prop} (hu:A.units+9<cLine) (I:Inv X pins σ H s) (g:DictD X.prog X.w X.K H a xs) (k:DK X.K H b d) (l:lookD xs d=some p) (h:∀ s',Inv X pins σ H s'→Q (.ref p) s') :
  wpAny (model X.prog X.w) A (getItem (.ref a) (.ref b)) Q E s:=by
 obtain ⟨hd,dd⟩:=UE I g
 have e:=Wq xs d
 rw [l] at e
 obtain ⟨q,hq,hq2⟩:=Option.map_eq_some_iff.mp e
 refine wpAny_getItem_heap (show A.in1.units+8<cLine from by have:A.in1.units=A.units+1:=rfl;omega) (UD I k) dd hq ?_
 rw [hq2]
 exact h _ (I.tok _)
theorem Yec {Q:Value→Shared→Prop} (hu:A.units+9<cLine) (I:Inv X pins σ H s) (g:DictD X.prog X.w X.K H a xs) (k:DK X.K H b d) (h:∀ s',Inv X pins σ H s'→Q (.bool (!(lookD xs d).isSome)) s') :
  wpAny (model X.prog X.w) A (compareOp .NotIn (.ref b) (.ref a)) Q E s:=by
 obtain ⟨hd,dd⟩:=UE I g
 refine wpAny_notIn_heap (show A.in1.units+8<cLine from by have:A.in1.units=A.units+1:=rfl;omega) (UD I k) hd dd ?_
 have e:=congrArg Option.isSome (Wq xs d)
 rw [Option.isSome_map,Option.isSome_map] at e
 rw [e]
 exact h _ (I.tok _)
theorem UF {p:Addr} {Q:Unit→Shared→Prop} (hu:A.units+9<cLine) (I:Inv X pins σ H s) (g:DictD X.prog X.w X.K H a xs) (k:DK X.K H b d) (l:lookD xs d=none) (hl:xs.length<1000) (h:∀ s',Inv X pins σ (upd H a (DDi X.prog X.w a (xs++[(d,b,p)]))) s'→Q () s') :
  wpAny (model X.prog X.w) A (setItem (.ref a) (.ref b) (.ref p)) Q E s:=by
 obtain ⟨hd,dd⟩:=UE I g
 have hz:(xs.map Xv).length≤sizeLine:=by rw [List.length_map];exact Nat.le_trans (Nat.le_of_lt hl) (by decide)
 refine wpAny_setItem_heap (hsz:=hz) (show A.in1.units+8<cLine from by have:A.in1.units=A.units+1:=rfl;omega) (UD I k) dd fun h' dd' hs=>h _ ?_
 have e:atKey (xs.map Xv) d=none:=by
  have e:=Wq xs d
  rw [l] at e
  cases q:atKey (xs.map Xv) d with
  | none=>rfl
  | some z=>rw [q] at e;cases e
 rw [storedH_new e] at dd'
 obtain ⟨q,es,ep,hq,h2,h3,h4,_,h5⟩:=dd'
 refine Ybe I (by rw [g.at_];exact True.intro) hs ⟨q,hq⟩ (Yai hd ⟨q,es,ep,hq,h2,h3,?_⟩)
 rw [h4,List.map_append (f:=Xv)]
 rfl
end
def UG (P:Program) (w:World) (K:PySem.W.Frag) (td ty:TE):TE:=fun σ H Q=>td σ H fun x H1=>ty σ H1 fun y H2=>∃ a b xs d p,x = .ref a∧y = .ref b∧DictD P w K H2 a xs∧DK K H2 b d∧lookD xs d=some p∧Q (.ref p) H2
def Ydo (P:Program) (w:World) (K:PySem.W.Frag) (td ty tv:TE):TS:=fun D σ H=>tv σ H fun v H1=>td σ H1 fun x H2=>ty σ H2 fun y H3=>∃ a b xs d p,v = .ref p∧x = .ref a∧y = .ref b∧DictD P w K H3 a xs∧DK K H3 b d∧lookD xs d=none∧xs.length<1000∧D.nx σ (upd H3 a (DDi P w a (xs++[(d,b,p)])))
def Yf9 (P:Program) (w:World):TE:=fun _ H Q=>∀ p,H p=none→Q (.ref p) (upd H p (DDi P w p []))
section
variable {X:Cx} {o i e value:Expr} {pos pos' tpos:Pos} {td ty tv:TE} {k:Nat}
theorem VN {A:Around} {k:Nat} (hr:Room k A):A.units+9<cLine:=Nat.lt_of_le_of_lt (Nat.add_le_add_left (by decide:9≤64) _) hr.units
theorem Yed (hr:Room k X.A) (ho:PE X o td) (hi:PE X i ty) (hs:NoSl i):PE X (.Subscript o i pos) (UG X.prog X.w X.K td ty):=by
 intro pins s σ H Q I h
 refine Yfj PySem.F.slot_dict_getitem.lookup hs (thn (ho pins s σ H _ I h) fun u s1 ⟨x,H1,I1,rx,q1⟩=>thn (hi pins s1 σ H1 _ I1 q1) fun iv s2 ⟨y,H2,I2,ry,a,b,xs,d,p,ex,ey,g,kk,l,q2⟩=>?_)
 subst ex ey
 obtain rfl:u=Value.ref a:=rx
 obtain rfl:iv=Value.ref b:=ry
 exact ⟨(UE I2 g).2.typeIs,Ycm (VN hr) I2 g kk l fun s3 I3=>⟨.ref p,H2,I3,rfl,q2⟩⟩
theorem Yee (hr:Room k X.A) (ho:PE X o td) (hi:PE X i ty) (hv:PE X value tv) (hs:swapsWith value (some (.Subscript o i pos')) pos.line X.env=pure false) :
  PS X (.Assign [.Subscript o i pos'] value pos) (Ydo X.prog X.w X.K td ty tv):=by
 intro pins s σ H D I h
 refine wpAny_Assign_Subscript (thn (hv pins s σ H _ I h) fun r s1 ⟨v,H1,I1,rv,q1⟩=>thn (ho pins s1 σ H1 _ I1 q1) fun u s2 ⟨x,H2,I2,rx,q2⟩=>thn (hi pins s2 σ H2 _ I2 q2) fun iv s3 ⟨y,H3,I3,ry,a,b,xs,d,p,ev,ex,ey,g,kk,l,hl,q3⟩=>?_) hs
 subst ex ey ev
 obtain rfl:u=Value.ref a:=rx
 obtain rfl:iv=Value.ref b:=ry
 obtain rfl:r=Value.ref p:=rv
 exact UF (VN hr) I3 g kk l hl fun s4 I4=>⟨σ,_,I4,q3⟩
theorem Yef:PE X (.Dict [] [] pos) (Yf9 X.prog X.w):=fun pins s σ H Q I h =>
 wpAny_Dict_empty ⟨.ref s.heap.objs.size,_,I.laid (a:=s.heap.objs.size) (o:=DDi X.prog X.w s.heap.objs.size []) (t':=s.toks) (fun _ _ q=>Heap.get?_push_of_some _ q) (Nat.le_refl _) (Yai (beq_eq_false_iff_ne.mpr (Ne.symm (Nat.ne_of_lt I.big))) ⟨_,#[],0,Heap.get?_push_size _ rfl,⟨rfl,rfl,rfl⟩,rfl,rfl⟩),rfl,h _ (I.hok.fresh (Nat.le_refl _))⟩
end
def XU (H H':Hp):Prop:=∀ b xs,Rd H b (.tup xs)→Rd H' b (.tup xs)
theorem XU.sq {K:PySem.W.Frag} {H H':Hp} (t:XU H H') {b:Addr} {xs:List V} (h:SqT K H b xs):SqT K H' b xs:=by
 rcases h with h | h
 ·exact .inl (t _ _ h)
 ·exact .inr h
theorem Wf {H H':Hp} (s:Yk H H'):XU H H':=fun b xs h=>by
 rcases h with h | ⟨o,h⟩
 ·exact .inl (s _ _ h)
 ·exact .inr ⟨o,s _ _ h⟩
theorem Wg {H H':Hp} {P:Addr} {u:HO} (hk:∀ b o,b≠P→H b=some o→H' b=some o) (hP:H P=some u) (h1:∀ xs,u ≠ .tup xs) (h2:∀ o v,u ≠ .frz o v):XU H H':=fun b xs h=>by
 rcases h with h | ⟨o,h⟩
 ·exact .inl (hk _ _ (YX h hP (fun z=>h1 _ z.symm)) h)
 ·exact .inr ⟨o,hk _ _ (YX h hP (fun z=>h2 _ _ z.symm)) h⟩
theorem Yeg {K:PySem.W.Frag} {H H':Hp} (t:XU H H') {d:PyData} {v:V} (k:KO d) (r:Den K H v d):Den K H' v d:=by
 induction k using KO.rec (motive_2:=fun ds _=>∀ {vs:List V},Dens K H vs ds→Dens K H' vs ds) generalizing v with
 | int i=>cases r with | int _=>exact .int i
 | str x=>cases r with | str _ h=>exact .str x h
 | tup _ ih=>cases r with | tup h hs=>exact .tup (t.sq h) (ih hs)
 | nil=>rename_i r;cases r;exact .nil
 | cons _ _ ih ihs=>rename_i r;cases r with | cons a b=>exact .cons (ih a) (ihs b)
theorem DK.tupk {K:PySem.W.Frag} {H H':Hp} {b:Addr} {d:PyData} (h:DK K H b d) (t:XU H H'):DK K H' b d:=⟨Yeg t h.ko h.den,h.ko,h.dp⟩
theorem DictD.keep {P:Program} {w:World} {K:PySem.W.Frag} {H H':Hp} {a:Addr} {xs:Dx} (h:DictD P w K H a xs) (t:XU H H') (e:H' a=some (DDi P w a xs)):DictD P w K H' a xs:=⟨e,h.nd,h.len,fun x hx=>(h.keys x hx).tupk t⟩
theorem Ycn {xs:Dx} {d:PyData} (h:lookD xs d=none):d∉xs.map (·.1):=by
 intro hm
 obtain ⟨x,hx,rfl⟩:=List.mem_map.mp hm
 unfold lookD at h
 rw [Option.map_eq_none_iff,List.find?_eq_none] at h
 exact h x hx (by simp)
theorem WD (xs:Dx) (d e:PyData) (b p:Addr) (h:lookD xs d=none):lookD (xs++[(d,b,p)]) e=if e=d then some p else lookD xs e:=by
 unfold lookD
 rw [List.find?_append]
 by_cases c:e=d
 ·subst c
  have h':xs.find? (fun x=>decide (x.1=e))=none:=by
   unfold lookD at h
   rwa [Option.map_eq_none_iff] at h
  rw [h',if_pos rfl]
  simp
 ·rw [if_neg c]
  have:([(d,b,p)]:Dx).find? (fun x=>decide (x.1=e))=none:=by simp [Ne.symm c]
  rw [this]
  simp
theorem DictD.put {P:Program} {w:World} {K:PySem.W.Frag} {H:Hp} {a b p:Addr} {d:PyData} {xs:Dx} (h:DictD P w K H a xs) (k:DK K H b d) (l:lookD xs d=none) (hl:xs.length<1000):DictD P w K (upd H a (DDi P w a (xs++[(d,b,p)]))) a (xs++[(d,b,p)]):=by
 have t:XU H (upd H a (DDi P w a (xs++[(d,b,p)]))):=Wg (fun b o hb e=>by rw [Yd hb];exact e) h.at_ (by intro xs z;cases z) (by intro o v z;cases z)
 refine ⟨Yg,?_,by rw [List.length_append,List.length_singleton];omega,fun x hx=>?_⟩
 ·rw [List.map_append]
  refine List.nodup_append.mpr ⟨h.nd,by simp,fun x hx y hy e=>?_⟩
  subst e
  have:x=d:=by simpa using hy
  subst this
  exact Ycn l hx
 ·rcases List.mem_append.mp hx with hx | hx
  ·exact (h.keys x hx).tupk t
  ·have:x=(d,b,p):=by simpa using hx
   subst this
   exact k.tupk t
theorem Ydp {P:Program} {w:World} {K:PySem.W.Frag} {H:Hp} {a:Addr} (h:H a=some (DDi P w a [])):DictD P w K H a []:=⟨h,by simp,by simp,fun x hx=>by cases hx⟩
section
variable {X:Cx} {k:Nat}
theorem Yco (hr:Room k X.A):OpR X (compareOp .NotIn) (fun y x H Q=>∃ a b xs d,x = .ref a∧y = .ref b∧DictD X.prog X.w X.K H a xs∧DK X.K H b d∧Q (.bl (!(lookD xs d).isSome)) H):=by
 intro pins s σ H y x u v Q I ry rx h
 obtain ⟨a,b,xs,d,rfl,rfl,g,kk,q⟩:=h
 cases (show u=Value.ref b from ry)
 cases (show v=Value.ref a from rx)
 exact Yec (VN hr) I g kk fun s' I'=>⟨.bl (!(lookD xs d).isSome),H,I',rfl,q⟩
end
section
variable {X:Cx} {e:Expr} {f:Str} {pos:Pos} {ta:TE}
end
end L2
namespace L2
open PySem PySem.Spec PyProof.Rows
end L2
namespace L2
open PySem PySem.Spec PyProof.Rows
theorem Yga {X:Cx} {g:Gx} {j k:Nat} {x:Str} {C:Addr} {ps:List Str} {sp:Sp} {p pos:Pos} (F:g.Ma j x C ps sp) (hr:Room k X.A) (hj:j+1≤k) (hX:X.gx=g) (hg:Gl X x) (hdb:(x==("__debug__":Str))=false) :
  PE X (.Call (.Name x p) [] [] pos) (V1 C sp [] E0 W3):=by
 subst hX
 obtain ⟨f,fd,F,b,M,hm⟩:=F
 exact YdY M F (hr.mono hj) hg hm b .nil WY hdb
end L2
namespace L2
open PySem PySem.Spec PyProof.Rows
section
variable {M:Model} {A:Around} {E:Value→Shared→Prop} {s:Shared}
end
section
variable {X:Cx}
end
section
variable {prog:Program} {w:World} {A:Around} {R:Result→Shared→Prop} {s:Shared}
end
section
variable {X:Cx}
end
end L2
namespace L2
open PySem PySem.Spec PyProof.Rows
section
variable {M:Model} {A:Around} {E:Value→Shared→Prop} {s:Shared} {B:Heap} {env:Env} {outer l:List Env} {e L:Addr} {cls a0:Value} {Q:Unit→Shared→Prop}
end
section
variable {X:Cx} {pins:List (Addr×Obj)} {σ:St} {H H':Hp} {s s1 s':Shared} {B:Heap} {e C:Addr} {cls a0:Value} {M:Model} {A:Around} {Q:Unit→Shared→Prop} {EE:Value→Shared→Prop}
end
section
variable {X:Cx}
end
end L2
namespace L2
open PySem PySem.Spec PyProof.Rows
section
variable {prog:Program} {w:World} {A:Around} {E:Value→Shared→Prop} {s:Shared}
set_option maxHeartbeats 3200000 in
theorem YaX {l:Addr} {items:Array Value} {val:Nat→Str} {Q:Value→Shared→Prop}
  (hh:A.handled=none) (hl:s.heap.IsList l items) (hval:∀ (i:Nat) (v:Value),items[i]?=some v→∃ t,v = .str (val i) t) (hb:items.size+1<scanBound)
  (h:∀ (h':Heap) (tk:Nat),h'.SetOf (PySem.strKind prog w) s.heap.objs.size (fun k'=>(met val items.size).any (·==k')) (met val items.size).length →
   (∀ b o,b<s.heap.objs.size→s.heap.get? b=some o→h'.get? b=some o)→Q (.ref s.heap.objs.size) { s with heap:=h',toks:=tk }) :
  wpAny (model prog w) A (call (.type "set") [.ref l]) Q E s:=by
 obtain ⟨c,tl,hmro⟩:=PySem.F.called_set.mro
 have hmade:=PySem.F.called_set.made
 have hsub:=PySem.F.called_set.sub
 refine wpAny_call (codeAny_of_tree ?_)
 show wpAny _ _ (callAny (.type "set") _) _ _ _
 refine wpAny_pure ⟨Code.quiet_builtin _ (by decide +kernel),codeAny_builtin PySem.F.entry_type_call ?_⟩
 rw [Around.under_plain (weight_type_call_type "set" [.ref l] []) rfl]
 have h1:=PySem.F.called_set.notType
 have h2:=PySem.F.called_set.canCreate
 have hct:=PySem.F.typeCall_set_1 (.ref l)
 repeat (any_goals (first | assumption | wp_step))
 refine codeAny_mono (code_set_new_1 (.ref l) (E:=E) (Q₁:=fun obj s₁=>∃ led:Bool,obj = .ref s.heap.objs.size∧s₁={ s with heap:=s.heap.push { cls := .type "set",dict:=none,data := .set #[] 0 (.fresh 0 0 led) } }) fun led=>⟨led,rfl,rfl⟩) fun r s₁ hr=>?_
 cases r with
 | error e=>exact hr
 | ok fl =>
  cases fl with
  | ret obj =>
   obtain ⟨led,rfl,rfl⟩:=hr
   have hS:(s.heap.push { cls := .type "set",dict:=none,data := .set #[] 0 (.fresh 0 0 led) }).get? s.heap.objs.size=some { cls := .type "set",dict:=none,data := .set #[] 0 (.fresh 0 0 led) }:=Heap.get?_push_size _ rfl
   have hT:Shared.TypeIs { s with heap:=s.heap.push { cls := .type "set",dict:=none,data := .set #[] 0 (.fresh 0 0 led) } } (.ref s.heap.objs.size) "set":=⟨_,hS,rfl⟩
   have hli:=PySem.F.called_set.init.lookup
   have hbi:=PySem.F.called_set.init.bind (.ref s.heap.objs.size)
   repeat (any_goals (first | assumption | wp_step))
   refine codeAny_mono (codeAny_call_builtin (R:=wants (fun r s₂=>r = .none∧∃ h' tk,s₂={ s with heap:=h',toks:=tk } ∧
     h'.SetOf (PySem.strKind prog w) s.heap.objs.size (fun k'=>(met val items.size).any (·==k')) (met val items.size).length ∧
     (∀ b o,b<s.heap.objs.size→s.heap.get? b=some o→h'.get? b=some o)) E) PySem.F.called_set.init.plain PySem.F.entry_set_init (check_set_init_1 hT ?_)) fun r₂ s₂ hr₂=>?_
   ·have hsls:=PySem.F.sub_list_set
    have hslf:=PySem.F.sub_list_frozenset
    have hne:(Value.type "list"==Value.type "dict")=false:=by decide
    obtain ⟨ol,hol,hcl,nl,hdl⟩:=hl
    obtain ⟨ocls,odict,odata,oslots⟩:=ol
    simp only at hcl hdl
    subst hcl hdl
    have hol2:=Heap.get?_push_of_some (h:=s.heap) { cls := .type "set",dict:=none,data := .set #[] 0 (.fresh 0 0 led) } hol
    have hl1:(s.heap.push { cls := .type "set",dict:=none,data := .set #[] 0 (.fresh 0 0 led) }).IsList l items:=⟨_,hol2,rfl,nl,rfl⟩
    unfold Builtin.«set.__init__» noKeywords Builtin.Frozenset.updateFrom
    generalize hPI:pyIter=PI
    wp_walk
    subst hPI
    refine wpAny_pyIter_list hl1 (wpAny_bind (wpAny_runValue ?_))
    have lS:l<s.heap.objs.size:=Heap.lt_size hol
    have h3:A.in1.in1.in1.handled=none:=by simp [hh]
    have nI:l≠(s.heap.push { cls := .type "set",dict:=none,data := .set #[] 0 (.fresh 0 0 led) }).objs.size:=by
     rw [Heap.size_push]
     exact Nat.ne_of_lt (Nat.lt_trans lS (Nat.lt_succ_self _))
    have sF:s.heap.objs.size∉[(s.heap.push { cls := .type "set",dict:=none,data := .set #[] 0 (.fresh 0 0 led) }).objs.size,l]:=by
     rw [Heap.size_push]
     simp only [List.mem_cons,List.not_mem_nil,or_false,not_or]
     exact ⟨Nat.ne_of_lt (Nat.lt_succ_self _),fun z=>Nat.lt_irrefl _ (z▸lS)⟩
    refine Yd7 ((Walks.list h3 _ l nI items).toS) s.heap.objs.size sF val hval hb (items.size - 0) 0 _ (by omega) (Nat.zero_le _) ⟨⟨_,Heap.get?_push_size _ rfl,rfl,rfl⟩,hl1.push _⟩ ?hS0 ?hR
    case hS0 =>
     have hget:((s.heap.push { cls := .type "set",dict:=none,data := .set #[] 0 (.fresh 0 0 led) }).push { cls := .type "list_iterator",data := .fields #[.ref l,.int 0 0] }).get? s.heap.objs.size
       = some { cls := .type "set",dict:=none,data := .set #[] 0 (.fresh 0 0 led) }:=Heap.get?_push_of_some _ hS
     exact SetOf_congr ((setObjOf_fresh (knd:=PySem.strKind prog w) led).setOf hget (by unfold scanBound;omega)) (fun _=>rfl) rfl
    case hR =>
     intro s' hm hS'
     obtain ⟨h',g',d',tk',os'⟩:=s'
     have eg:g'=s.gens:=hm.gens
     have ed:d'=s.drawn:=hm.drawn
     have eo:os'=s.os:=hm.os
     subst eg;subst ed;subst eo
     show wpAny _ _ _ _ _ _
     refine wpAny_pure ?_
     show wpAny _ _ (ret Value.none) _ _ _
     refine wpAny_pure ⟨rfl,h',tk',rfl,hS',fun b o hb e=>?_⟩
     have hb1:b≠s.heap.objs.size:=Nat.ne_of_lt hb
     have hb2:b≠(s.heap.push { cls := .type "set",dict:=none,data := .set #[] 0 (.fresh 0 0 led) }).objs.size:=by
      rw [Heap.size_push];exact Nat.ne_of_lt (Nat.lt_succ_of_lt hb)
     exact hm.heap b o (by simp only [List.mem_cons,List.not_mem_nil,or_false,not_or];exact ⟨hb1,hb2⟩) (Heap.get?_push_of_some _ (Heap.get?_push_of_some _ e))
   ·cases r₂ with
    | error e=>exact hr₂
    | ok fl₂ =>
     cases fl₂ with
     | ret r =>
      obtain ⟨rfl,h',tk,rfl,hS',hk'⟩:=hr₂
      repeat (any_goals (first | assumption | wp_step))
      exact h _ _ hS' hk'
     | _=>exact hr₂.elim
  | _=>exact hr.elim
end
section
variable {X:Cx}
theorem QF (hc:X.calm=true:=by rfl):XA X (.type "set") (fun xs H Q=>∃ (l:Addr) (ts:List Str),xs=[.ref l]∧SqL X.K H l (ts.map V.str)∧ts.length≤1000∧∀ a,H a=none→Q (.ref a) (upd H a (UZ a (met (fun i=>ts.getD i "") ts.length).length))):=by
 intro pins s σ H xs us Q I r h
 obtain ⟨l,ts,rfl,hS,hl,q⟩:=h
 obtain ⟨u,rfl,ru⟩:=WB r
 obtain rfl:u=Value.ref l:=ru
 obtain ⟨its,r',pl,hz⟩:=I.list hS
 have hlen:ts.length=its.length:=by rw [← r'.length,List.length_map]
 refine YaX (val:=fun i=>ts.getD i "") (I.ok.hd hc) pl.isList (fun i v hv=>?_) (by unfold scanBound;simp only [List.size_toArray];omega) fun h' tk hS hk=>?_
 ·have hv':its[i]?=some v:=by simpa using hv
  have hi:=(List.getElem?_eq_some_iff.mp hv').1
  have ht:(ts.map V.str)[i]?=some (.str (ts.getD i "")):=by
   rw [List.getElem?_map,List.getD_eq_getElem?_getD,List.getElem?_eq_getElem (by omega)]
   rfl
  obtain ⟨v2,e2,rv⟩:=r'.get ht
  rw [hv'] at e2
  cases e2
  exact rv
 ·rw [show its.toArray.size=ts.length by simp [hlen]] at hS
  refine ⟨.ref s.heap.objs.size,_,I.laid (o:=UZ s.heap.objs.size _) (fun b o e=>hk b o (Heap.lt_size e) e) (Nat.le_refl _) ?_,rfl,q _ (I.hok.fresh (Nat.le_refl _))⟩
  obtain ⟨o,es,ep,tb,ho,hex,hd,_,_,hb,hf,hn⟩:=hS
  exact ⟨⟨o,es,ep,tb,ho,hex,hd,hf,hn,by omega⟩,⟨o,ho⟩,fun h1 h2 p k=>by obtain ⟨o,es,ep,tb,ho,z⟩:=p;exact ⟨o,es,ep,tb,k o ho,z⟩⟩
end
end L2
namespace L2
open PySem PySem.Spec PyProof.Rows
open Sem (wp)
section
variable {prog:Program} {w:World} {A:Around} {R:Result→Shared→Prop} {I:Addr} {fp wr:List Addr} {n:Nat} {P:Nat→Value→Prop} {St:Nat→Heap→Prop}
end
section
variable {prog:Program} {w:World} {A:Around} {E:Value→Shared→Prop} {s:Shared} {l:Addr} {xs:Array (Int×Tok)}
end
section
variable {X:Cx}
end
section
variable {X:Cx}
end
end L2
namespace L2
open PySem PySem.Spec PyProof.Rows PySem.Builtin.Str
section
variable {X:Cx}
end
end L2
namespace L2
open PySem PySem.Spec PyProof.Rows
section
variable {X:Cx}
end
end L2
namespace PySem.W
open PySem PyProof.Rows
open Builtin Builtin.ObjectAttr
section
variable {prog:Program} {w:World} {A:Around} {E:Value→Shared→Prop} {hh:Heap} {g:Array GenState} {d:Drawn} {t:Nat} {os:OsState} {K:Frag} {x C D:Addr} {ox:Obj} {mA:Str→Option Value} {f:Str} {v:Value}
end
section
variable {prog:Program} {w:World} {A:Around} {E:Value→Shared→Prop} {s:Shared} {K:Frag} {x C C' D:Addr} {ox:Obj} {od:Option Obj} {mA:Str→Option Value} {name:Str} {v:Value} {R:Result→Shared→Prop}
end
section
variable {prog:Program} {w:World} {A:Around} {E:Value→Shared→Prop} {s:Shared} {K:Frag} {x C C' D:Addr} {ox:Obj} {od:Option Obj} {mA:Str→Option Value} {name:Str} {v:Value} {vs:Array Value} {Q:Unit→Shared→Prop}
end
end PySem.W
namespace PySem.W
open PySem PyProof.Rows
abbrev excFs (a0:Value):Array Value:=#[a0,.none,.none,.none,.bool false,.none]
section
variable {prog:Program} {w:World} {A:Around} {E:Value→Shared→Prop} {h:Heap} {g:Array GenState} {d:Drawn} {t:Nat} {os:OsState}
variable {nm q:Str} {C N:Addr} {bs bm bmB:List Value} {hdct:Bool} {sn:List Str} {sub:List Value} {ab:Bool} {col:Option Bool} {dd:Option Addr} {k0 k1 k2 k3 k5:Option Value} {B newId initId:String}
end
section
variable {M:Model} {A:Around} {E:Value→Shared→Prop} {env:Env}
variable {nm q:Str} {C N:Addr} {bs bm bmB:List Value} {hdct:Bool} {sn:List Str} {sub:List Value} {ab:Bool} {col:Option Bool} {dd:Option Addr} {k0 k1 k2 k3 k5:Option Value} {B newId initId:String}
end
section
variable {prog:Program} {w:World} {A:Around} {E:Value→Shared→Prop} {s:Shared} {env:Env}
variable {nm q:Str} {C N:Addr} {bs bm bmB:List Value} {hdct:Bool} {sn:List Str} {sub:List Value} {ab:Bool} {col:Option Bool} {dd:Option Addr} {k0 k1 k2 k3 k5:Option Value} {B newId initId:String}
end
end PySem.W
namespace L2
open PySem PySem.Spec PyProof.Rows
open PySem.W (excFs)
def del (H:Hp) (a:Addr):Hp:=fun b=>if b=a then none else H b
section
variable {P:Program} {w:World} {H:Hp} {h:Heap} {a t0:Addr} {cls:Value} {dc:Option Addr} {sl:Array (Option Value)}
end
section
variable {X:Cx} {pins:List (Addr×Obj)} {σ:St} {H:Hp} {s:Shared} {e:Addr} {cls:Value} {M:Model} {A:Around} {Q:Unit→Shared→Prop} {EE:Value→Shared→Prop} {dc:Option Addr}
end
section
variable {g:Gx} {N:List Str} {qual:Str} {st:Stmt} {f:Addr} {cdv:Value} {A:Around} {outer:List Env} {s:Shared} {H:Hp} {E:XK}
end
section
variable {X:Cx} {pins:List (Addr×Obj)} {σ:St} {H:Hp} {s:Shared} {C f:Addr} {k:Nat} {fd:FuncData} {ps:List Str} {sp:Sp} {ds:List Value} {dvs:List V} {E:XK} {CX:CXT}
end
section
variable {P:Program} {w:World} {H:Hp} {h:Heap} {a:Addr} {fs:List (Str×V)} {mA:Str→Option Value}
end
section
variable {X:Cx} {pins:List (Addr×Obj)} {σ:St} {H:Hp} {s:Shared} {C C' a d:Addr} {f:Str} {y:V} {u:Value} {Q:Unit→Shared→Prop} {A:Around} {E:Value→Shared→Prop} {fs:List (Str×V)}
end
section
variable {g:Gx} {X:Cx} {k j:Nat} {x m f:Str} {ps:List Str} {sp:Sp} {e o value:Expr} {es:List Expr} {t:TA} {ta tv:TE} {p pos apos pos' np cpos:Pos} {C C' B:Addr} {E:XK} {fs:List Str}
end
end L2
namespace L2
open PySem PySem.Spec PyProof.Rows
mutual
theorem Den.noDict {K:PySem.W.Frag} {H:Hp}:∀ {v:V} {d:PyData},Den K H v d→d.hasDict=false
 | _,_,.non=>rfl
 | _,_,.bl _=>rfl
 | _,_,.int _=>rfl
 | _,_,.str _ _=>rfl
 | _,_,.lst _ hs=>hs.noDict
 | _,_,.tup _ hs=>hs.noDict
theorem Dens.noDict {K:PySem.W.Frag} {H:Hp}:∀ {vs:List V} {ds:List PyData},Dens K H vs ds→PyData.hasDictAll ds=false
 | _,_,.nil=>rfl
 | _,_,.cons h hs=>by
  show (_||_)=false
  rw [h.noDict,hs.noDict]
  rfl
end
section
variable {X:Cx} {k:Nat}
theorem Ydq (hr:Room k X.A):XA X (.builtin "repr") (fun xs H Q=>∃ a d,xs=[.ref a]∧Den X.K H (.ref a) d∧d.showable=true∧d.depth≤100∧d.shown.length≤sizeLine∧Q (.str d.shown) H):=by
 intro pins s σ H xs us Q I r h
 obtain ⟨a,d,rfl,hd,hs,dp,hz,q⟩:=h
 obtain ⟨u,rfl,ru⟩:=WB r
 cases (show u=Value.ref a from ru)
 obtain ⟨as,ra⟩:=hd.reads I ru
 have hn:=hd.noDict
 have hun:=hr.un
 exact repr_of_reads' ra hs (fun z=>by rw [hn] at z;cases z) hr.gd (by omega) (fun _ _ e=>e) (fun h' u tk hk=>⟨.str d.shown,H,I.kept hk,⟨_,rfl⟩,q⟩) hz
end
end L2
namespace L2
open PySem PySem.Spec PyProof.Rows
structure Lent (H Hz:Hp) (h:Heap) (cs:List Addr):Prop where
 one:∀ b∈cs,∃ o u,Hz b=some (.frz o u)∧h.get? b=some o∧H b=none
 oth:∀ b,b∉cs→Hz b=H b
section
variable {P:Program} {w:World} {H Hz H':Hp} {h h' B:Heap} {cs fs:List Addr}
theorem Lent.out (L:Lent H Hz h cs) {b:Addr} {o:HO} (e:H b=some o):b∉cs:=fun z=>by
 obtain ⟨_,_,_,_,n⟩:=L.one b z
 rw [n] at e
 cases e
theorem Lent.get (L:Lent H Hz h cs) {b:Addr} {o:HO} (e:H b=some o):Hz b=some o:=by rw [L.oth b (L.out e)];exact e
theorem Yaj (x:HOk P w H' h') (z:∀ b∈cs,∃ o u,H' b=some (.frz o u)):HOk P w (off H' cs) h':=fun b o e=>by
 obtain ⟨e1,e2⟩:=Yf5 e
 refine (x b o e1).stay (fun _ _ _ q=>q) (fun c q=>?_) fun c xs q=>?_
 ·rw [Xl fun hc=>by obtain ⟨_,_,y⟩:=z c hc;rw [y] at q;cases q]
  exact q
 ·rw [Xl fun hc=>by obtain ⟨_,_,y⟩:=z c hc;rw [y] at q;cases q]
  exact q
theorem Lent.un (L:Lent H Hz h cs) (u:Un fs [] Hz H' h h') (hok:HOk P w H' h') (nf:∀ b∈cs,b∉fs):Un fs [] H (off H' cs) h h':=by
 have z:∀ {b:Addr} {o:HO},H b=some o→b∉cs:=fun e=>L.out e
 refine ⟨fun b o e n hf hx=>?_,fun b o e n hf hx=>?_,fun b o e n hx=>?_,u.there,fun b xs e=>?_,fun b o x e=>?_,fun b ps e=>?_⟩
 ·by_cases hb:b∈cs
  ·obtain ⟨o1,u1,y1,y2,_⟩:=L.one b hb
   rw [e] at y2
   cases y2
   exact (hok b _ (u.frzs b _ _ y1)).1
  ·exact u.keep b o e ((L.oth b hb).trans n) hf hx
 ·exact u.slot b o e ((L.oth b fun hb=>nf b hb hf).trans n) hf hx
 ·by_cases hb:b∈cs
  ·exact UA hb
  ·rw [Xl hb]
   exact u.free b o e ((L.oth b hb).trans n) hx
 ·rw [Xl (z e)]
  exact u.tups b xs (L.get e)
 ·rw [Xl (z e)]
  exact u.frzs b o x (L.get e)
 ·rw [Xl (z e)]
  exact u.tbls b ps (L.get e)
theorem Lent.behind (L:Lent H Hz h cs) (u:Un fs [] Hz H' h h'):∀ b∈cs,∃ o v,H' b=some (.frz o v):=fun b hb=>by
 obtain ⟨o1,u1,y1,_⟩:=L.one b hb
 exact ⟨o1,u1,u.frzs b _ _ y1⟩
end
def Vs (H Hz:Hp) (l:YF):Prop:=(∀ p∈l,∃ o,Hz p.2.1=some (.frz o (V3 p.2.1 p.2.2))∧H p.2.1=none)∧∀ b,b∉l.as→Hz b=H b
def Wh (H:Hp) (h:Heap):YF→Hp
 | []=>H
 | p::l=>match h.get? p.2.1 with
  | some o=>upd (Wh H h l) p.2.1 (.frz o (V3 p.2.1 p.2.2))
  | none=>Wh H h l
section
variable {X:Cx} {pins:List (Addr×Obj)} {σ:St} {H:Hp} {s:Shared}
theorem WO {h:Heap} {b:Addr}:∀ {l:YF},b∉l.as→Wh H h l b=H b
 | [],_=>rfl
 | p::l,hb=>by
  have h1:b≠p.2.1:=fun z=>hb (by rw [z];exact .head _)
  have h2:b∉YF.as l:=fun z=>hb (.tail _ z)
  cases e:h.get? p.2.1 with
  | some o =>
   have hz:Wh H h (p::l)=upd (Wh H h l) p.2.1 (.frz o (V3 p.2.1 p.2.2)):=by
    show (match h.get? p.2.1 with | some o=>_ | none=>_)=_
    rw [e]
   rw [hz,Yd h1]
   exact WO h2
  | none =>
   have hz:Wh H h (p::l)=Wh H h l:=by
    show (match h.get? p.2.1 with | some o=>_ | none=>_)=_
    rw [e]
   rw [hz]
   exact WO h2
theorem Ybo (I:Inv X pins σ H s) {l:YF} (hc:WH X σ l) {p:Str×Addr×V} (hp:p∈l):H p.2.1=none∧∃ o u,s.heap.get? p.2.1=some o∧Yz p.2.2 u∧s.heap.IsCell p.2.1 (some u):=by
 obtain ⟨i,h1,h2,h3,h4⟩:=hc.2 p hp
 obtain ⟨m,hn,hl⟩:=I.loc
 obtain ⟨u,r,lk⟩:=hl i p.1 p.2.2 h1 h2 (.inr (.inl h3))
 rcases lk with ⟨k,_⟩ | ⟨_,c,hc,hcell⟩
 ·rw [h3] at k;cases k
 ·rw [h4] at hc
  cases hc
  obtain ⟨o,e1,e2⟩:=id hcell
  exact ⟨I.freeC p.1 p.2.1 h4,o,u,e1,r,hcell⟩
theorem Ybp (I:Inv X pins σ H s):∀ {l:YF},WH X σ l→Vs H (Wh H s.heap l) l∧Lent H (Wh H s.heap l) s.heap l.as∧HOk X.prog X.w (Wh H s.heap l) s.heap
 | [],_=>⟨⟨(fun p hp=>nomatch hp),fun _ _=>rfl⟩,⟨(fun b hb=>nomatch hb),fun _ _=>rfl⟩,I.hok⟩
 | p::l,h=>by
  have nd':=List.nodup_cons.mp h.1
  obtain ⟨⟨a1,a2⟩,⟨b1,b2⟩,ok⟩:=Ybp I (l:=l) ⟨nd'.2,fun q hq=>h.2 q (.tail _ hq)⟩
  obtain ⟨n,o,u,e,r,hcell⟩:=Ybo I h (.head _)
  have hz:Wh H s.heap (p::l)=upd (Wh H s.heap l) p.2.1 (.frz o (V3 p.2.1 p.2.2)):=by
   show (match s.heap.get? p.2.1 with | some o=>_ | none=>_)=_
   rw [e]
  have hne:∀ q∈l,q.2.1≠p.2.1:=fun q hq z=>nd'.1 (by
   have:q.2.1∈YF.as l:=List.mem_map_of_mem (f:=fun p:Str×Addr×V=>p.2.1) hq
   rw [z] at this
   exact this)
  rw [hz]
  refine ⟨⟨fun q hq=>?_,fun b hb=>?_⟩,⟨fun b hb=>?_,fun b hb=>?_⟩,ok.track ((WO nd'.1).trans n) ⟨e,Yd8 r hcell⟩⟩
  ·rcases List.mem_cons.mp hq with rfl | hq
   ·exact ⟨o,Yg,n⟩
   ·obtain ⟨o',y1,y2⟩:=a1 q hq
    exact ⟨o',by rw [Yd (hne q hq)];exact y1,y2⟩
  ·rw [Yd fun z=>hb (by rw [z];exact .head _)]
   exact a2 b fun z=>hb (.tail _ z)
  ·by_cases z:b=p.2.1
   ·subst z
    exact ⟨o,_,Yg,e,n⟩
   ·rw [Yd z]
    have:b∈YF.as l:=by
     rcases List.mem_cons.mp (show b∈p.2.1::YF.as l from hb) with y | y
     ·exact absurd y z
     ·exact y
    exact b1 b this
  ·rw [Yd fun z=>hb (by rw [z];exact .head _)]
   exact b2 b fun z=>hb (.tail _ z)
theorem Yak (I:Inv X pins σ H s) {l:YF} (hc:WH X σ l) (hfn:∀ x,X.fn x=true) {b:Addr} (hb:b∈l.as):X.s₀.heap.objs.size≤b∧b≠X.env.locals:=by
 obtain ⟨p,hp,rfl⟩:=Wd hb
 obtain ⟨i,h1,h2,h3,h4⟩:=hc.2 p hp
 exact ⟨I.ok.cab _ _ (hfn _) h4,I.cne _ _ h4⟩
theorem Yfs (I:Inv X pins σ H s) (hs:X.stack=X.env::X.outer) (hf:X.env.frame=some X.env.locals) {l:YF} (hc:WH X σ l) (hfn:∀ x,X.fn x=true):∀ b∈l.as,b∉frs X.stack:=fun b hb z=>by
 obtain ⟨n1,n2⟩:=Yak I hc hfn hb
 rw [hs] at z
 unfold frs at z
 rw [List.filterMap_cons,hf] at z
 rcases List.mem_cons.mp z with z | z
 ·exact n2 z
 ·obtain ⟨_,o,e,_⟩:=I.ok.funs.mem z
  exact absurd (Nat.lt_of_lt_of_le (Heap.lt_size e) n1) (Nat.lt_irrefl _)
end
section
variable {X:Cx} {CX:CXT} {k:Nat} {f:Addr} {fd:FuncData} {ps:List Str} {sp:Sp} {E:XK} {pins:List (Addr×Obj)} {σ:St} {H:Hp} {s:Shared} {Q:VK} {us:List Value} {vs:List V} {l:YF}
end
def YF.Z (l:YF) (H:Hp):Prop:=∀ p∈l,∃ o,H p.2.1=some (.frz o (V3 p.2.1 p.2.2))
theorem Vs.z {H Hz:Hp} {l:YF} (h:Vs H Hz l):l.Z Hz:=fun p hp=>by
 obtain ⟨o,z,_⟩:=h.1 p hp
 exact ⟨o,z⟩
theorem YF.Z.keep {l:YF} {H H':Hp} (h:l.Z H) (s:Yk H H'):l.Z H':=fun p hp=>by
 obtain ⟨o,z⟩:=h p hp
 exact ⟨o,s _ _ z⟩
def ClZ (H:Hp) (f c:Addr) (fd:FuncData) (qual:Str) (l:YF):Prop:=H f=some (FnO f fd)∧H c=some (CdO c qual)∧l.Z H
theorem ClZ.keep {H H':Hp} {f c:Addr} {fd:FuncData} {qual:Str} {l:YF} (h:ClZ H f c fd qual l) (s:Yk H H'):ClZ H' f c fd qual l:=⟨s _ _ h.1,s _ _ h.2.1,h.2.2.keep s⟩
section
variable {P:Program} {w:World} {K:PySem.W.Frag} {mg:Str→Option Value} {base:Heap} {N ps:List Str} {qual:Str} {scope:Scope} {f c:Addr} {A:Around} {outer:List Env} {s:Shared} {H:Hp} {l:YF} {cd:Value}
theorem Ygb {Q:VK} {v:V} {u:Value} {σ':St} {H':Hp} {s':Shared} (e0:Env0 P w K mg base A outer s H) (hin:l.Z H) (J:Inv (Yck P w K mg base N qual scope f cd l.cl A outer s (off H l.as)) [] σ' H' s') (hlk:∀ p∈l,l.cl.lookup p.1=some p.2.1) (rv:Yz v u) (q:(∀ c∈l.as,H' c=none)→Q v (on H' H l.as)) :
  CE outer P w H s Q u s':=by
 have un:=J.base
 have zc:∀ {b:Addr},b∈l.as→∃ o u,H b=some (.frz o u):=fun hm=>by
  obtain ⟨p,hp,rfl⟩:=Wd hm
  obtain ⟨o,z⟩:=hin p hp
  exact ⟨o,_,z⟩
 have nin:∀ {b:Addr},H b=none→b∉l.as:=fun hb hm=>by
  obtain ⟨o,u,z⟩:=zc hm
  rw [z] at hb;cases hb
 have out:∀ {b:Addr} {o:HO},H b=some o→(∀ x u,o ≠ .frz x u)→b∉l.as:=fun hb no hm=>by
  obtain ⟨o,u,z⟩:=zc hm
  rw [z] at hb
  exact no _ _ (Option.some.inj hb).symm
 have freeC:∀ c∈l.as,H' c=none:=fun c hc=>by
  obtain ⟨p,hp,rfl⟩:=Wd hc
  exact J.freeC p.1 p.2.1 (hlk p hp)
 refine ⟨v,on H' H l.as,J.os,J.bare,⟨fun b o e n hb hx=>un.keep b o e (Wc n) hb hx,fun b o e n hb hx=>un.slot b o e (Wc n) hb hx,fun b o e n hx=>?_,fun b o e hx=>un.there b o e hx,fun b xs e=>?_,fun b o u e=>?_,fun b ps e=>?_⟩,fun b o e=>?_,rv,q freeC⟩
 ·rw [Wt (nin n)]
  exact un.free b o e (Wc n) hx
 ·have h1:=out e fun _ _ z=>by cases z
  rw [Wt h1]
  exact un.tups b xs ((Xl h1).trans e)
 ·by_cases hb:b∈l.as
  ·rw [Ycj hb];exact e
  ·rw [Wt hb]
   exact un.frzs b o u ((Xl hb).trans e)
 ·have h1:=out e fun _ _ z=>by cases z
  rw [Wt h1]
  exact un.tbls b ps ((Xl h1).trans e)
 ·by_cases hb:b∈l.as
  ·rw [Ycj hb] at e
   obtain ⟨p,hp,rfl⟩:=Wd hb
   obtain ⟨ob,z⟩:=hin p hp
   rw [z] at e
   cases e
   obtain ⟨ho,y1,y2,y3⟩:=e0.hok _ _ z
   have hk:=un.keep _ _ ho (UA hb) (fun hf=>by have:=e0.frf _ hf;rw [z] at this;cases this) (by intro z;exact absurd (show p.2.1∈([]:List Addr) from z) (by simp))
   exact ⟨hk,y3 _ _ y1 fun o q=>by rw [ho] at q;cases q;exact hk,⟨ob,hk⟩,y3⟩
  ·rw [Wt hb] at e
   refine (J.hok b o e).stay (fun _ _ _ q=>q) (fun c q=>?_) fun c xs q=>?_
   ·rw [Wt fun hc=>?_]
    ·exact q
    ·rw [freeC c hc] at q;cases q
   ·rw [Wt fun hc=>?_]
    ·exact q
    ·rw [freeC c hc] at q;cases q
end
theorem Ybq {P:Program} {w:World} {K:PySem.W.Frag} {mg:Str→Option Value} {base:Heap} {k:Nat} {f c:Addr} {qual:Str} {params:Arguments} {body:Expr} {scope:Scope} {pm ctv:Value} {N ps:List Str} {l:YF} {sp:List V→Hp→VK→Prop}
  (S:ClScope N ps (l.map (·.1)) scope) (hnd:l.as.Nodup) (len:∀ vs H Q,sp vs H Q→vs.length=ps.length)
  (hbody:∀ (A:Around) (outer:List Env) (s:Shared) (H:Hp) (vs:List V) (Q:VK),Room k (A.deeper (PySem.W.envX qual scope s.heap.objs.size f (.ref c) l.cl))→sp vs H Q →
   ∃ t,PE (Yck P w K mg base N qual scope f (.ref c) l.cl A outer s H) body t∧t (UB N vs l.vs) H Q) :
  FnOk P w K mg base CX0 (k+1) f (PySem.W.kla_fn "<lambda>" qual params body scope l.cl pm (.ref c) ctv) ps
   (fun vs H Q _=>ClZ H f c (PySem.W.kla_fn "<lambda>" qual params body scope l.cl pm (.ref c) ctv) qual l∧sp vs (off H l.as) fun v H'=>(∀ c∈l.as,H' c=none)→Q v (on H' H l.as)):=by
 refine ⟨fun vs H Q E h=>len _ _ _ h.2,fun A outer s H args us vs Q E hr e0 hb r hsp=>?_⟩
 obtain ⟨⟨hf,hc,hin⟩,hsp⟩:=hsp
 have hl:=len _ _ _ hsp
 have lim:s.heap.NoLimit:=e0.mod.nolimit.keeps fun b o e=>(e0.bs b o e).1
 have hfo:=(e0.hok _ _ hf).1
 have hco:s.heap.CodeRec (.ref c) qual:=(e0.hok _ _ hc).1
 refine PySem.W.kla_callFunE hr.depth hfo rfl S.co S.gen rfl hco (hb _ _ _ _ ?_)
 refine wpAny_newFunctionEnv S.nocell (fun y hy=>S.par y.1 (List.of_mem_zip hy).1) (fun h₁ hns hsb=>?_) S.kind
 have hk₁:∀ b o,s.heap.get? b=some o→h₁.get? b=some o:=fun b o e=>hsb.extBut b o (Nat.ne_of_lt (Heap.lt_size e)) (Heap.get?_push_of_some _ e)
 refine ⟨lim.keeps hk₁,PySem.W.kla_codeExpr ?_⟩
 obtain ⟨t,ht,hq⟩:=hbody A outer s (off H l.as) vs _ (hr.deeper _) hsp
 have zc:∀ b∈l.as,∃ o u,H b=some (.frz o u):=fun b hm=>by
  obtain ⟨p,hp,rfl⟩:=Wd hm
  obtain ⟨o,z⟩:=hin p hp
  exact ⟨o,_,z⟩
 have I:=Ycl (cd := .ref c) (qual:=qual) (f:=f) (tk:=s.toks+(ps.zip us).length) S hnd hr.hd e0 hl r (fun p hp=>by
  obtain ⟨o,z⟩:=hin p hp
  exact (e0.hok _ _ z).2.1) (Yaj e0.hok zc) hns hk₁
 have lk:=Yag (l:=l) (by rw [← S.suf];exact S.nd.sublist (List.drop_sublist _ _))
 refine wpAny_mono (ht [] _ _ _ _ I hq) (fun u s' hs=>?_) fun e s' hs=>hs.elim
 obtain ⟨v,H',J,rv,q⟩:=hs
 exact Ygb e0 hin J lk rv q
end L2
namespace L2
open PySem
section
variable {src:List (Option Nat)} {te:TE} {σ:St} {H:Hp} {Q:VK}
end
def Kt (H H':Hp):Prop:=∀ a o,(∀ ps,o ≠ .tbl ps)→H a=some o→H' a=some o
theorem Kt.trans {H H1 H2:Hp} (a:Kt H H1) (b:Kt H1 H2):Kt H H2:=fun c o n e=>b c o n (a c o n e)
theorem WE {H H':Hp} (s:Yk H H'):Kt H H':=fun c o _ e=>s _ _ e
theorem Kt.lst {H H':Hp} (h:Kt H H') {a:Addr} {xs:List V} (e:H a=some (.lst xs)):H' a=some (.lst xs):=h a _ (by intro ps z;cases z) e
theorem Kt.tup {H H':Hp} (h:Kt H H') {a:Addr} {xs:List V} (e:H a=some (.tup xs)):H' a=some (.tup xs):=h a _ (by intro ps z;cases z) e
end L2
namespace PySem
section
variable {prog:Program} {w:World} {A:Around} {E:Value→Shared→Prop} {s:Shared} {l:Addr} {xs:Array (Int×Tok)}
end
end PySem
namespace HT
open PySem PySem.Spec PyProof.Rows
variable {prog:Program} {w:World} {A:Around} {E:Value→Shared→Prop} {s:Shared}
end HT
namespace L2
open PySem PySem.Spec PyProof.Rows
def revS (z:Str):Str:=⟨z.cps.toList.reverse.toArray⟩
section
variable {X:Cx} {e st:Expr} {te ts:TE} {pos p2:Pos} {K:PySem.W.Frag}
end
end L2
namespace L2
open PySem
noncomputable def sm (a b:PyData):Bool:=@decide (a=b) (Classical.propDecidable _)
inductive Tm where
 | num (i:Int) | here | part (t:Tm) (k:Int) | count (t:Tm) | sum (t:Tm) | not (t:Tm) | turned (t:Tm)
 | same (a b:Tm) | both (a b:Tm) | when (a b c:Tm) | each (a b:Tm) | joined (a b:Tm) | plus (a b:Tm) | times (a b:Tm) | less (a b:Tm)
abbrev Say:=Except Str PyData
def U4:PyData→Option (List PyData)
 | .list xs=>some xs
 | .tuple xs=>some xs
 | _=>none
def Ybr:List PyData→Option Int
 | []=>some 0
 | .int i::r=>(Ybr r).map (i+·)
 | _::_=>none
def take (mk:Str) (s:Say) (f:PyData→Option α):Except Str α:=match s with
 | .error m => .error m
 | .ok d=>match f d with
  | some a => .ok a
  | none => .error mk
def V5:PyData→Option Int
 | .int i=>some i
 | _=>none
def VP:PyData→Option Bool
 | .bool b=>some b
 | _=>none
def lenOf:PyData→Option Nat
 | .list xs=>some xs.length
 | .tuple xs=>some xs.length
 | .str x=>some x.length
 | _=>none
def Ygc:PyData→Option PyData
 | .list xs=>some (.list xs.reverse)
 | .tuple xs=>some (.tuple xs.reverse)
 | .str x=>some (.str (revS x))
 | _=>none
def Ydr (mk:Str) (f:PyData→Say):List PyData→Say
 | [] => .ok (.bool true)
 | x::xs=>match take mk (f x) VP with
  | .error m => .error m
  | .ok true=>Ydr mk f xs
  | .ok false => .ok (.bool false)
noncomputable def tell:Tm→PyData→Say
 | .num i,_ => .ok (.int i)
 | .here,d => .ok d
 | .part t k,d=>take "part" (tell t d) fun x=>(U4 x).bind fun xs=>if 0≤k then xs[k.toNat]? else none
 | .count t,d=>(take "count" (tell t d) lenOf).map fun (n:Nat)=>PyData.int (n:Int)
 | .sum t,d=>(take "sum" (tell t d) fun x=>(U4 x).bind Ybr).map .int
 | .not t,d=>(take "not" (tell t d) VP).map fun b => .bool (!b)
 | .turned t,d=>take "turned" (tell t d) Ygc
 | .same a b,d=>match tell a d with
  | .error m => .error m
  | .ok x=>(tell b d).map fun y => .bool (sm x y)
 | .both a b,d=>match take "both" (tell a d) VP with
  | .error m => .error m
  | .ok false => .ok (.bool false)
  | .ok true=>(take "both" (tell b d) VP).map .bool
 | .when a b c,d=>match take "when" (tell a d) VP with
  | .error m => .error m
  | .ok true=>tell b d
  | .ok false=>tell c d
 | .each a b,d=>match take "each" (tell a d) U4 with
  | .error m => .error m
  | .ok xs=>Ydr "each" (fun x=>tell b x) xs
 | .joined a b,d=>match tell a d with
  | .error m => .error m
  | .ok (.list xs)=>take "joined" (tell b d) fun y=>match y with
   | .list ys=>some (.list (xs++ys))
   | _=>none
  | .ok (.str x)=>take "joined" (tell b d) fun y=>match y with
   | .str z=>some (.str (x++z))
   | _=>none
  | .ok _ => .error "joined"
 | .plus a b,d=>match take "plus" (tell a d) V5 with
  | .error m => .error m
  | .ok i=>(take "plus" (tell b d) V5).map fun j => .int (i+j)
 | .times a b,d=>match take "times" (tell a d) V5 with
  | .error m => .error m
  | .ok i=>(take "times" (tell b d) V5).map fun j => .int (i*j)
 | .less a b,d=>match take "less" (tell a d) V5 with
  | .error m => .error m
  | .ok i=>(take "less" (tell b d) V5).map fun j => .bool (decide (i<j))
structure IB (n:Nat) (i:Int):Prop where
 h:i.natAbs<2^(200*2^n)
mutual
def hb:PyData→Prop
 | .list xs=>xs.length≤64∧hbs xs
 | .tuple xs=>xs.length≤64∧hbs xs
 | .str x=>x.length≤64
 | .int i=>IB 0 i
 | .none=>True
 | .bool _=>True
 | .dict _=>False
def hbs:List PyData→Prop
 | []=>True
 | d::ds=>hb d∧hbs ds
end
end L2
namespace L2
open PySem PySem.Spec PyProof.Rows
section
variable {X:Cx} {k:Nat}
theorem Ycp {K:PySem.W.Frag} (hr:Room k X.A) (h:X.K=K:=by rfl):XA X (.builtin "repr") (fun xs H Q=>∃ v d,xs=[v]∧Den K H v d∧d.showable=true∧d.depth≤100∧d.shown.length≤sizeLine∧Q (.str d.shown) H):=by
 subst h
 intro pins s σ H xs us Q I r h
 obtain ⟨v,d,rfl,hd,hs,dp,hz,q⟩:=h
 cases v with
 | ref a=>exact Ydq hr pins s σ H _ us Q I r ⟨a,d,rfl,hd,hs,dp,hz,q⟩
 | _ =>
  obtain ⟨u,rfl,ru⟩:=WB r
  cases hd<;>first
   | (cases (show u=Value.none from ru);exact PySem.P.repr_of_none ⟨.str _,H,I.tok _,⟨_,rfl⟩,q⟩)
   | (cases (show u=Value.bool _ from ru);exact PySem.P.repr_of_bool ⟨.str _,H,I.tok _,⟨_,rfl⟩,q⟩)
   | (obtain ⟨t,rfl⟩:=ru;exact PySem.P.repr_of_int (of_decide_eq_true hs) ⟨.str _,H,I.tok _,⟨_,rfl⟩,q⟩)
   | (obtain ⟨t,rfl⟩:=ru;exact PySem.P.repr_of_str ⟨.str _,H,I.tok _,⟨_,rfl⟩,q⟩ hz)
end
mutual
def cnt:PyData→Nat
 | .list xs=>Xj xs+1
 | .tuple xs=>Xj xs
 | .dict _=>0
 | .none=>0
 | .bool _=>0
 | .int _=>0
 | .str _=>0
def Xj:List PyData→Nat
 | []=>0
 | d::ds=>cnt d+Xj ds
end
def cb:Nat→Nat
 | 0=>0
 | n+1=>1+4*cb n
def sb:Nat→Nat
 | 0=>60
 | n+1=>4*sb n+11
theorem Yft {n m:Nat} (h:n≤m):sb n≤sb m:=by
 induction h with
 | refl=>exact Nat.le_refl _
 | step _ ih=>simp only [sb];omega
theorem sb_60 (n:Nat):60≤sb n:=Yft (Nat.zero_le n)
structure Shw (n:Nat) (d:PyData):Prop where
 ok:d.showable=true
 len:d.shown.length≤sb n
 cn:cnt d≤cb n
theorem Yfu {n:Nat} {i:Int} (h:i.natAbs<10^45):Shw n (.int i):=by
 have h60:=sb_60 n
 refine ⟨?_,?_,by simp [cnt]⟩
 ·show decide (i.natAbs.log2<1920)=true
  refine decide_eq_true ?_
  by_cases c:i.natAbs=0
  ·rw [c];decide
  ·refine (Nat.log2_lt c).mpr (Nat.lt_trans h ?_)
   exact Nat.lt_of_lt_of_le (by decide:10^45<2^200) (Nat.pow_le_pow_right (by decide) (by decide))
 ·have z:=int_text_length_le10 (a:=i) (k:=45) (by decide) h
  show (Str.ofString (toString i)).length≤sb n
  rw [PySem.ofString_length]
  omega
end L2
namespace L2
open PySem PySem.Spec PyProof.Rows
section
variable {M:Model} {A:Around} {E:Value→Shared→Prop} {s:Shared} {Q:Value→Shared→Prop}
end
section
variable {X:Cx}
end
section
variable {g:Gx} {X:Cx} {k j:Nat} {f c:Str} {ps:List Str} {sp:Sp} {e:Expr} {es:List Expr} {t:TA} {ts:TS} {b₀:Stmt} {suite:List Stmt} {cv:Value} {kk:Nat} {fp cp hpos apos cpos bpos mpos pos:Pos}
end
end L2
set_option maxHeartbeats 4000000
namespace PySem.W
open PySem PySem.Calls PyProof.Rows
section sort
variable {f:Nat→Nat→Bool} {n:Nat}
structure KOrd (f:Nat→Nat→Bool) (n:Nat):Prop where
 asy:∀ i j,i<n→j<n→f i j=true→f j i=false
 tr:∀ i j k,i<n→j<n→k<n→f j i=false→f k j=false→f k i=false
variable (O:KOrd f n) (h0:0<n)
include O h0
end sort
end PySem.W
set_option maxHeartbeats 4000000
namespace L2
open PySem PySem.Spec PyProof.Rows PySem.W
section
variable {prog:Program} {w:World} {A:Around} {E:Value→Shared→Prop} {s:Shared} {f:Nat→Nat→Bool} {κ:SortKind} {vs:List Value}
end
section
variable {X:Cx}
end
end L2
set_option maxHeartbeats 4000000
namespace L2
open PySem PySem.Spec PyProof.Rows
section
variable {X:Cx}
end
section
variable {src:List (Option Nat)} {te:TE} {σ:St} {Q:VK}
end
end L2
set_option maxHeartbeats 4000000
namespace L2
open PySem PySem.Spec PyProof.Rows
section
open PySem.SeqAt
open PySem.AutoSeq1 (wpAny_loadPart')
open PySem.MeetsSeq PySem.MeetsSeq2 PySem.MeetsSeq3
end
end L2
set_option maxHeartbeats 4000000
namespace L2
open PySem PySem.Spec PyProof.Rows
section
open PySem.SeqAt
open PySem.MeetsSeq PySem.MeetsSeq2 PySem.MeetsSeq3
variable {X:Cx}
end
end L2
set_option maxHeartbeats 4000000
namespace L2
open PySem PySem.Spec PyProof.Rows PySem.W
section
variable {prog:Program} {w:World} {A:Around} {E:Value→Shared→Prop} {s:Shared} {F:Nat→Nat→Bool} {κ:SortKind} {vs ks:List Value} {f:Value} {J:Shared→Prop} {a kS:Addr}
end
end L2
set_option maxHeartbeats 4000000
namespace L2
open PySem PySem.Spec PyProof.Rows PySem.W
open PySem.SeqAt
section
variable {prog:Program} {w:World} {A:Around} {s:Shared}
end
end L2
set_option maxHeartbeats 4000000
namespace L2
open PySem PySem.Spec PyProof.Rows PySem.W
abbrev gr (q:Int×List PyData):PyData := .tuple (.int q.1::q.2)
section
variable {X:Cx} {g:Gx}
end
end L2
namespace L2
open PySem
end L2
namespace L2
open PySem PySem.Spec PyProof.Rows
def Gx.RawDX (g:Gx) (x qual:Str) (st:Stmt) (ps:List Str) (dvs:List V):Prop:=∃ f fd T ds,FunD g.K x qual st f fd T∧Yp dvs ds∧YY g.K fd ps ds∧YY g.K fd ps []∧g.mg x=some (.ref f)
section
variable {g:Gx} {x qual:Str} {st:Stmt} {N ps:List Str} {dvs:List V} {sp:Sp} {j k:Nat}
end
theorem Yeh {K:PySem.W.Frag} {h:Heap} {mg:Str→Option Value} {f T:Addr} {x:Str} {st:Stmt} {oc kV dc pm cd ct:Value} {od an:Option Addr} {sl:Array (Option Value)} {o:Obj} {items:Array Value} {n:Nat} (X:K.In h) (G:h.Ns mainGlobals mg) (ps:List Str) (dvs:List V) (nb:Nat)
  (a:PySem.W.nsIn K mainGlobals x=some (some (.ref f))) (l:K.lookup f=some ⟨oc,od,.func (PySem.W.fnOf x x (YT st) (YM st) (Yi st) (.ref T) kV dc pm an cd ct),sl⟩) (c:PySem.W.codeIn K cd x=true) (k:PySem.W.keepIn K (.ref f)=true)
  (t:K.lookup T=some o) (s:o.data = .seq items n) (v:Yp dvs items.toList) (e:nb+items.toList.length=ps.length)
  (b:∀ (us:List Value),us.length=nb→∃ kk,bindArgs (PySem.W.fnOf x x (YT st) (YM st) (Yi st) (.ref T) kV dc pm an cd ct) ⟨us,[]⟩=seqItems? (.ref T) >>= kk∧kk (some items)=pure (ps.zip (us++items.toList)))
  (b0:∀ (us:List Value),us.length=ps.length→∃ kk,bindArgs (PySem.W.fnOf x x (YT st) (YM st) (Yi st) (.ref T) kV dc pm an cd ct) ⟨us,[]⟩=seqItems? (.ref T) >>= kk∧kk (some items)=pure (ps.zip us)) :
  ∀ P w base,(Gx.mk P w K mg base).RawDX x x st ps dvs:=fun P w base =>
 ⟨f,_,T,items.toList,⟨⟨oc,od,kV,dc,pm,an,cd,ct,sl,rfl,l,c⟩,k⟩,v,fun s' us hK hl=>by
  have hn:us.length=nb:=by rw [List.length_append] at hl;omega
  obtain ⟨kk,h1,h2⟩:=b us hn
  exact PySem.W.binds_K hK rfl t s h1 h2,fun s' us hK hl=>by
  rw [List.append_nil] at hl ⊢
  obtain ⟨kk,h1,h2⟩:=b0 us hl
  exact PySem.W.binds_K hK rfl t s h1 h2,PySem.W.mg_of X G a⟩
section
variable {g:Gx} {X:Cx} {k jj i j:Nat} {x f c n:Str} {ps:List Str} {dvs:List V} {sp:Sp} {e:Expr} {es:List Expr} {t:TA} {ts:TS} {b₀:Stmt} {suite body:List Stmt} {cv:Value} {fp px cp hpos apos cpos pos:Pos}
end
end L2
namespace L2
open PySem PySem.Spec PyProof.Rows
open PySem.Builtin PySem.Builtin.Str
section
variable {prog:Program} {w:World} {A:Around} {E:Value→Shared→Prop} {s:Shared} {x y z:Str} {t u v k:Tok} {Q:Value→Shared→Prop}
end
section
variable {X:Cx}
end
section
variable {X:Cx} {K:PySem.W.Frag}
end
end L2
set_option maxHeartbeats 4000000
namespace L2
open PySem PySem.Spec PyProof.Rows PySem.W
section
variable {prog:Program} {w:World} {A:Around} {E:Value→Shared→Prop} {s:Shared}
end
section
variable {prog:Program} {w:World} {A:Around} {R:Result→Shared→Prop} {I:Addr} {fp wr:List Addr} {G:Array GenState→Array GenState→Prop} {n:Nat} {P:Nat→Value→Prop} {St:Nat→Shared→Prop} {bt:Bool}
end
section
variable {prog:Program} {w:World} {A:Around} {E:Value→Shared→Prop} {s:Shared}
end
section
variable {prog:Program} {w:World} {A:Around} {E:Value→Shared→Prop} {s:Shared} {I a:Addr} {fst:Value} {i ep:Nat} {o:Obj} {es:Array (Int×Value)} {t:SetTable}
end
section
variable {prog:Program} {w:World} {A:Around} {E:Value→Shared→Prop} {s:Shared}
end
section
variable {prog:Program} {w:World} {A:Around} {E:Value→Shared→Prop} {s:Shared}
end
section
variable {X:Cx}
end
end L2
set_option maxHeartbeats 4000000
namespace L2
open PySem PySem.Spec PyProof.Rows PySem.W
section
variable {prog:Program} {w:World} {A:Around} {E:Value→Shared→Prop} {s:Shared}
end
section
variable {X:Cx} {pos:Pos}
end
end L2
namespace L2
open PySem PySem.Spec PyProof.Rows PySem.W
section
variable {X:Cx}
end
end L2
namespace L2
open PySem PySem.Spec PyProof.Rows PySem.W
section
variable {X:Cx}
end
section
variable {X:Cx} {st:Stmt} {YU:List Stmt} {t:TS} {u:(St→V→Hp→Prop)→St→Hp→Prop}
end
end L2
namespace L2
open PySem PySem.Spec PyProof.Rows
section
variable {g:Gx} {X:Cx} {k jj i j:Nat} {x f c n:Str} {ps:List Str} {dvs:List V} {sp:Sp} {e:Expr} {es:List Expr} {t:TA} {fp px cp apos cpos pos:Pos}
end
end L2
namespace L2
open PySem PySem.Spec PyProof.Rows
noncomputable def ovD (xs:Dx) (d:PyData) (p:Addr):Dx:=xs.map fun x=>if x.1=d then (x.1,x.2.1,p) else x
noncomputable def putX (xs:Dx) (d:PyData) (b p:Addr):Dx:=match lookD xs d with
 | none=>xs++[(d,b,p)]
 | some _=>ovD xs d p
theorem Yfv (xs:Dx) (d:PyData) (p:Addr):(ovD xs d p).map (·.1)=xs.map (·.1):=by
 unfold ovD
 rw [List.map_map]
 refine List.map_congr_left fun x _=>?_
 show (if x.1=d then (x.1,x.2.1,p) else x).1=x.1
 split<;>rfl
theorem Yfw (xs:Dx) (d e:PyData) (p q:Addr) (h:lookD xs d=some q):lookD (ovD xs d p) e=if e=d then some p else lookD xs e:=by
 induction xs with
 | nil=>cases h
 | cons x xs ih =>
  unfold lookD ovD at *
  simp only [List.map_cons,List.find?_cons] at *
  by_cases c:x.1=d
  ·rw [if_pos c]
   by_cases c2:e=d
   ·subst c2;simp [c]
   ·have c3:¬ x.1=e:=fun z=>c2 (z.symm.trans c)
    have c3:¬ d=e:=fun z=>c2 z.symm
    simp only [c,c3,decide_false,if_neg c2]
    clear ih h
    induction xs with
    | nil=>rfl
    | cons y ys ih2 =>
     simp only [List.map_cons,List.find?_cons]
     by_cases c4:y.1=d
     ·simp only [c4,if_pos,c3,decide_false];exact ih2
     ·rw [if_neg c4]
      by_cases c5:y.1=e
      ·simp [c5]
      ·simp only [c5,decide_false];exact ih2
  ·rw [if_neg c]
   simp only [c,decide_false] at h
   by_cases c2:e=d
   ·subst c2
    simp only [c,decide_false]
    rw [ih h,if_pos rfl,if_pos trivial]
   ·rw [if_neg c2]
    by_cases c5:x.1=e
    ·simp [c5]
    ·simp only [c5,decide_false]
     have:=ih h
     rw [if_neg c2] at this
     exact this
theorem Qw (xs:Dx) (d e:PyData) (b p:Addr):lookD (putX xs d b p) e=if e=d then some p else lookD xs e:=by
 unfold putX
 split
 ·rename_i h;exact WD _ _ _ _ _ h
 ·rename_i h;exact Yfw _ _ _ _ _ h
theorem Yei (xs:Dx) (d:PyData) (b p:Addr):(putX xs d b p).length≤xs.length+1:=by
 unfold putX
 split
 ·rw [List.length_append];exact Nat.le_refl _
 ·unfold ovD;rw [List.length_map];omega
theorem Yej {xs:Dx} {d:PyData} {b p:Addr} {x:PyData×Addr×Addr} (h:x∈putX xs d b p):x∈xs∨(x.1=d∧x.2.2=p):=by
 unfold putX at h
 split at h
 ·rcases List.mem_append.mp h with h | h
  ·exact .inl h
  ·rw [List.mem_singleton.mp h];exact .inr ⟨rfl,rfl⟩
 ·unfold ovD at h
  obtain ⟨y,hy,rfl⟩:=List.mem_map.mp h
  split
  ·rename_i c;exact .inr ⟨c,rfl⟩
  ·exact .inl hy
section
variable {X:Cx} {pins:List (Addr×Obj)} {σ:St} {H:Hp} {s:Shared} {a b:Addr} {d:PyData} {xs:Dx} {A:Around} {E:Value→Shared→Prop}
theorem Yds {p q:Addr} {Q:Unit→Shared→Prop} (hu:A.units+9<cLine) (I:Inv X pins σ H s) (g:DictD X.prog X.w X.K H a xs) (k:DK X.K H b d) (l:lookD xs d=some q) (h:∀ s',Inv X pins σ (upd H a (DDi X.prog X.w a (ovD xs d p))) s'→Q () s') :
  wpAny (model X.prog X.w) A (setItem (.ref a) (.ref b) (.ref p)) Q E s:=by
 obtain ⟨hd,dd⟩:=UE I g
 have hz:(xs.map Xv).length≤sizeLine:=by rw [List.length_map];exact Nat.le_trans g.len (by decide)
 refine wpAny_setItem_heap (hsz:=hz) (show A.in1.units+8<cLine from by have:A.in1.units=A.units+1:=rfl;omega) (UD I k) dd fun h' dd' hs=>h _ ?_
 have e:=Wq xs d
 rw [l] at e
 obtain ⟨z,hz,_⟩:=Option.map_eq_some_iff.mp e
 rw [storedH_old hz] at dd'
 obtain ⟨q,es,ep,hq,h2,h3,h4,_,h5⟩:=dd'
 refine Ybe I (by rw [g.at_];exact True.intro) hs ⟨q,hq⟩ (Yai hd ⟨q,es,ep,hq,h2,h3,?_⟩)
 rw [h4]
 congr 1
 rw [List.map_map,ovD,List.map_map]
 refine List.map_congr_left fun x _=>?_
 show putAt d (.ref p) (Xv x)=Xv (if x.1=d then (x.1,x.2.1,p) else x)
 by_cases c:x.1=d
 ·rw [if_pos c];simp [putAt,Xv,c]
 ·rw [if_neg c];simp [putAt,Xv,c]
end
theorem DictD.putX {P:Program} {w:World} {K:PySem.W.Frag} {H:Hp} {a b p:Addr} {d:PyData} {xs:Dx} (h:DictD P w K H a xs) (k:DK K H b d) (hl:xs.length<1000):DictD P w K (upd H a (DDi P w a (L2.putX xs d b p))) a (L2.putX xs d b p):=by
 cases e:lookD xs d with
 | none =>
  have e2:L2.putX xs d b p=xs++[(d,b,p)]:=by unfold L2.putX;rw [e]
  rw [e2];exact h.put k e hl
 | some q =>
  have e2:L2.putX xs d b p=ovD xs d p:=by unfold L2.putX;rw [e]
  rw [e2]
  have t:XU H (upd H a (DDi P w a (ovD xs d p))):=Wg (fun b o hb e=>by rw [Yd hb];exact e) h.at_ (by intro xs z;cases z) (by intro o v z;cases z)
  refine ⟨Yg,by rw [Yfv];exact h.nd,by unfold ovD;rw [List.length_map];exact h.len,fun x hx=>?_⟩
  unfold ovD at hx
  obtain ⟨y,hy,rfl⟩:=List.mem_map.mp hx
  have:=(h.keys y hy).tupk t
  split<;>exact this
def Ydt (P:Program) (w:World) (K:PySem.W.Frag) (td ty tv:TE):TS:=fun D σ H=>tv σ H fun v H1=>td σ H1 fun x H2=>ty σ H2 fun y H3=>∃ a b xs d p,v = .ref p∧x = .ref a∧y = .ref b∧DictD P w K H3 a xs∧DK K H3 b d∧xs.length<1000∧D.nx σ (upd H3 a (DDi P w a (putX xs d b p)))
section
variable {X:Cx} {o i e value:Expr} {pos pos' tpos:Pos} {td ty tv:TE} {k:Nat}
theorem Yek (hr:Room k X.A) (ho:PE X o td) (hi:PE X i ty) (hv:PE X value tv) (hs:swapsWith value (some (.Subscript o i pos')) pos.line X.env=pure false) :
  PS X (.Assign [.Subscript o i pos'] value pos) (Ydt X.prog X.w X.K td ty tv):=by
 intro pins s σ H D I h
 refine wpAny_Assign_Subscript (thn (hv pins s σ H _ I h) fun r s1 ⟨v,H1,I1,rv,q1⟩=>thn (ho pins s1 σ H1 _ I1 q1) fun u s2 ⟨x,H2,I2,rx,q2⟩=>thn (hi pins s2 σ H2 _ I2 q2) fun iv s3 ⟨y,H3,I3,ry,a,b,xs,d,p,ev,ex,ey,g,kk,hl,q3⟩=>?_) hs
 subst ex ey ev
 obtain rfl:u=Value.ref a:=rx
 obtain rfl:iv=Value.ref b:=ry
 obtain rfl:r=Value.ref p:=rv
 cases el:lookD xs d with
 | none =>
  have e2:putX xs d b p=xs++[(d,b,p)]:=by unfold putX;rw [el]
  rw [e2] at q3
  exact UF (VN hr) I3 g kk el hl fun s4 I4=>⟨σ,_,I4,q3⟩
 | some q =>
  have e2:putX xs d b p=ovD xs d p:=by unfold putX;rw [el]
  rw [e2] at q3
  exact Yds (VN hr) I3 g kk el fun s4 I4=>⟨σ,_,I4,q3⟩
end
end L2
namespace L2
open PySem PySem.Spec PyProof.Rows
inductive MeAQ (L:List (Addr×Sp)) (H:Hp) (a:Addr) (m:Str) (Q:Sp→Prop):Prop
 | mk (C:Addr) (sp:Sp) (hm:(C,sp)∈L) (dx:Addr) (fs:List (Str×V)) (h:H a=some (.ins C dx fs)) (l:fs.lookup m=none) (q:Q sp)
theorem MeAQ.map {L:List (Addr×Sp)} {H:Hp} {a:Addr} {m:Str} {Q Q':Sp→Prop} (h:MeAQ L H a m Q) (f:∀ sp,Q sp→Q' sp):MeAQ L H a m Q':=by
 obtain ⟨C,sp,hm,dx,fs,h1,h2,h3⟩:=h
 exact ⟨C,sp,hm,dx,fs,h1,h2,f sp h3⟩
theorem Yr {s u:TS} {D:Ends} {σ:St} {H:Hp} (h:∀ R:St→Hp→Prop,(∀ σ' H',u D σ' H'→R σ' H')→s { D with nx:=R } σ H):QY s u D σ H:=h _ fun _ _ h=>h
def Yal (L:List (Addr×Sp)) (m:Str) (ta:TE) (t:TA):TE:=fun σ H Q=>ta σ H fun x H1=>kR x fun a=>MeAQ L H1 a m fun sp=>t σ H1 fun vs H2=>sp (.ref a::vs) H2 Q E0
def Gx.MeL (g:Gx) (j:Nat) (m:Str) (ps:List Str) (L:List (Addr×Sp)):Prop:=∀ C sp,(C,sp)∈L→g.Me j C m ps sp∧Cls g.K C
section
variable {X:Cx} {g:Gx} {j k:Nat} {C:Addr} {m:Str} {ps:List Str} {sp:Sp} {L:List (Addr×Sp)} {o e:Expr} {es:List Expr} {ta:TE} {t:TA} {apos pos:Pos}
theorem XN:g.MeL j m ps []:=fun _ _ h=>by cases h
theorem Yo (F:g.Me j C m ps sp) (c:Cls g.K C) (h:g.MeL j m ps L):g.MeL j m ps ((C,sp)::L):=fun C' sp' hm=>by
 rcases List.mem_cons.mp hm with e | hm
 ·cases e;exact ⟨F,c⟩
 ·exact h C' sp' hm
theorem X5 {pl:Sem Bool} (F:g.MeL j m ps L) (hr:Room k X.A) (ho:PE X o ta) (ha:PA X (e::es) t) (hj:j≤k) (hX:X.gx=g)
  (hst:starEach (e::es) X.env=(false,eval e X.env)::starEach es X.env) (hpl:(backTo pos (starEach es X.env)).any (·.1)=false)
  (ht:eval (.Call (.Attribute o m apos) (e::es) [] pos) X.env=(do
   let ov ← eval o X.env
   standAt apos.atName
   let (f,first) ← holding [ov] (getMethod ov m pl)
   callWith pos f first (backTo pos (starEach (e::es) X.env)) (backToKw pos (keywordEach [] X.env)))):PE X (.Call (.Attribute o m apos) (e::es) [] pos) (Yal L m ta t):=by
 subst hX
 intro pins s σ H Q I h
 refine PySem.W.methodCall_KW (pl:=pl) (thn (ho pins s σ H _ I h) fun u s1 ⟨x,H1,I1,rx,q⟩=>?_) ht
 replace q:=Vj.mp q
 obtain ⟨a,ex,C,sp,hL,dx,fs,ea,l,q⟩:=q
 subst ex
 obtain rfl:u=Value.ref a:=rx
 obtain ⟨⟨f,fd,F,b,hm⟩,c⟩:=F C sp hL
 refine Uv I1 ea c hm l ?_
 refine PySem.W.callWith_K (first:=[.ref a]) (h₀:=X.base) I.ok.mod.kin hm.kp (thn (ha pos pins s1 σ H1 _ I1 q) fun us s2 ⟨vs,H2,I2,r,q2⟩=>⟨I2.kIn,?_⟩) hst hpl
 exact VI (us := .ref a::us) (vs := .ref a::vs) F (hr.mono hj) b .nil WY I2 (.cons rfl r) (by rw [List.append_nil];exact q2)
end
end L2
namespace L2
open PySem PySem.Spec PyProof.Rows
section
variable {X:Cx} {k:Nat} {f:Addr} {fd:FuncData} {ps:List Str} {sp:Sp} {pins:List (Addr×Obj)} {σ:St} {H:Hp} {s:Shared} {Q:VK} {us ds:List Value} {vs dvs:List V} {l:YF}
theorem Ydu (F:FnOk X.prog X.w X.K X.mg X.base CX0 k f fd ps sp) (hv:Yp dvs ds) (hr:Room k X.A) (hb:YY X.K fd ps ds) (hs:X.stack=X.env::X.outer) (hf:X.env.frame=some X.env.locals) (hfn:∀ x,X.fn x=true)
  (I:Inv X pins σ H s) (hc:WH X σ l) (r:Yp vs us) (h:∀ Hz,Vs H Hz l→sp (vs++dvs) Hz (fun v H'=>Q v (off H' l.as)) E0):wpAny (model X.prog X.w) X.A (call (.ref f) us) (EP X pins σ Q) X.xe s:=by
 obtain ⟨L1,L2,ok⟩:=Ybp I hc
 have nf:=Yfs I hs hf hc hfn
 have hsp:=h _ L1
 have r2:Yp (vs++dvs) (us++ds):=r.append hv
 have hl:(us++ds).length=ps.length:=by rw [← r2.length];exact F.len _ _ _ _ hsp
 have e0:Env0 X.prog X.w X.K X.mg X.base X.A X.stack s (Wh H s.heap l):=by
  have e:=I.env0
  refine ⟨e.frames,e.mod,fun b o q=>⟨(e.bs b o q).1,?_⟩,e.bsz,e.funs,fun b q=>?_,ok,e.bare⟩
  ·rw [WO fun z=>?_]
   ·exact (e.bs b o q).2
   ·have n1:=(Yak I hc hfn z).1
    have:=I.ok.bsz
    exact absurd (Nat.lt_of_lt_of_le (Heap.lt_size q) (Nat.le_trans this n1)) (Nat.lt_irrefl _)
  ·rw [WO fun z=>nf b z q]
   exact e.frf b q
 refine wpAny_call (codeAny_mono (F.run X.A X.stack s _ ⟨us,[]⟩ (us++ds) (vs++dvs) _ _ hr e0 (hb s us I.kIn hl) r2 hsp) fun r s' hq=>?_)
 cases r with
 | error e=>exact False.elim hq
 | ok fl =>
  cases fl with
  | ret u =>
   obtain ⟨v,H',os,bare,un,hok,rv,q⟩:=hq
   exact I.after ⟨v,off H' l.as,os,bare,L2.un un hok nf,Yaj hok (L2.behind un),rv,q⟩
  | next=>exact False.elim hq
  | brk=>exact False.elim hq
  | cont=>exact False.elim hq
end
def Yam (X:Cx) (sp:Sp) (dvs:List V) (t:TA):TE:=fun σ H Q=>t σ H fun vs H1=>∃ l,WH X σ l∧((∀ c∈l.as,H1 c=none)→∀ Hz,Vs H1 Hz l→sp (vs++dvs) Hz (fun v H'=>Q v (off H' l.as)) E0)
theorem Yan {g:Gx} {X:Cx} {j k:Nat} {x:Str} {ps:List Str} {dvs:List V} {sp:Sp} {e:Expr} {es:List Expr} {t:TA} {p pos:Pos} (F:g.FnD j x ps dvs sp) (hr:Room k X.A) (ha:PA X (e::es) t) (hj:j≤k) (hX:X.gx=g) (hg:Gl X x) (hdb:(x==("__debug__":Str))=false) (hs:X.stack=X.env::X.outer) (hf:X.env.frame=some X.env.locals) (hfn:∀ x,X.fn x=true)
  (he:starEach (e::es) X.env=(false,eval e X.env)::starEach es X.env) (hpl:(backTo pos (starEach es X.env)).any (·.1)=false) :
  PE X (.Call (.Name x p) (e::es) [] pos) (Yam X sp dvs t):=by
 subst hX
 obtain ⟨f',fd,ds,F,hv,b,kp,hm⟩:=F
 intro pins s σ H Q I h
 refine wpAny_Call_Name_kw (W5 I hg hm ?_ hdb)
 refine PySem.W.callWith_K (h₀:=X.base) I.ok.mod.kin kp (thn (ha pos pins s σ H _ I h) fun us s1 ⟨vs,H1,I1,r,l,hc,q⟩=>⟨I1.kIn,?_⟩) he hpl
 exact Ydu F hv (hr.mono hj) b hs hf hfn I1 hc r (q fun c hcc=>by
  obtain ⟨p,hp,rfl⟩:=Wd hcc
  exact (Ybo I1 hc hp).1)
def Ybs (K:PySem.W.Frag) (mg:Str→Option Value) (st:Stmt) (x n:Str) (c:Addr):Prop:=∃ f fd,Fun K n n st f fd∧(∀ (s:Shared) (u:Value),BindsTo s fd ⟨[u],[]⟩ [(x,u)])∧mg n=some (.ref f)∧fd.code = .ref c
theorem Ycq {K:PySem.W.Frag} {h:Heap} {mg:Str→Option Value} {f c:Addr} {x n:Str} {st:Stmt} {oc kV dc pm cd ct:Value} {od an:Option Addr} {sl:Array (Option Value)} (X:K.In h) (G:h.Ns mainGlobals mg)
  (a:PySem.W.nsIn K mainGlobals n=some (some (.ref f))) (l:K.lookup f=some ⟨oc,od,.func (PySem.W.fnOf n n (YT st) (YM st) (Yi st) .none kV dc pm an cd ct),sl⟩) (cc:PySem.W.codeIn K cd n=true) (k:PySem.W.keepIn K (.ref f)=true) (e:cd = .ref c)
  (b:∀ (kV doc pm:Value) (an:Option Addr) (cdv ct:Value) (s:Shared) (u:Value),BindsTo s (PySem.W.fnOf n n (YT st) (YM st) (Yi st) .none kV doc pm an cdv ct) ⟨[u],[]⟩ [(x,u)]):Ybs K mg st x n c :=
 ⟨f,_,VM (st:=st) l cc k,b kV dc pm an cd ct,PySem.W.mg_of X G a,e⟩
def Ycr (g:Gx) (k:Nat) (N:List Str) (qual:Str) (st:Stmt) (c:Addr) (sp:Sp):Prop:=∀ (f:Addr) (A:Around) (outer:List Env) (s:Shared) (H:Hp) (vs:List V) (Q:VK) (E:XK),Room k (g.cx N qual st f (.ref c) A outer s H E).A→sp vs H Q E →
 ∃ t,PSs (g.cx N qual st f (.ref c) A outer s H E) (YM st) t∧t { nx:=fun _ H'=>Q .non H',rt:=Q } (XQ N vs) H
theorem Yel {l:PySem.W.OpenLaw} {q:Program} {loose:List Str} {XP:(Str→Option Value)→Heap→Prop} {YP:World→Heap→Prop} {d:DefRec} {K:Params→PySem.W.Frag} (tabs:Tbs) (c:Addr) (k:Nat) (x:Str) (st:Stmt) (N:List Str) (hn:l.most=some 63) (hdf:d.params.defaults=[]) (hk:Room (k+1) callerA) (S:FnScope N [x] (Yi st))
  (hY:∀ (w:World) (h:Heap),YP w h→(K w.params).In h)
  (hrec:∀ p∈tabs,∃ d',(recsOf q).find? (fun e=>e.name==p.1)=some d')
  (htab:∀ (w:World),∀ p∈tabs,PySem.W.tabIn (K w.params) p.1=some p.2)
  (hno:∀ (w:World),∀ p∈tabs,(K w.params).lookup p.2.2=none)
  (F:∀ (w:World) (mg:Str→Option Value) (h:Heap),(K w.params).In h→h.Ns mainGlobals mg→Ybs (K w.params) mg st x d.name c∧∀ base,Bm mg base→(∀ p∈tabs,PySem.W.CodeHd base p.2.1 p.2.2)→Ycr (Gx.mk l.prog w (K w.params) mg base) k N d.name st c (V4 (K w.params) tabs)) :
  PySem.W.WalkO q loose XP YP l.row.toRowW d [] (fun f vs=>PySem.call f vs):=by
 refine Att.attach_call hn hdf fun w s₀ s₁ mg mb fa o pm cd doc a vs ns G Y ho hd hcd hmg hobj hints hlen hg=>?_
 have KX:=hY w _ Y
 obtain ⟨⟨f,fd,Fu,hb,hm,hc⟩,B⟩:=F w mg _ KX G.T.g
 have e:=hmg.symm.trans hm
 cases e
 obtain ⟨oc,od,kV,doc',pm',an,cdv,ct,osl,rfl,lk,hcd'⟩:=Fu.ex
 have hc':cdv = .ref c:=hc
 subst hc'
 refine Ydm (CX:=CX0) (sp:=V4 (K w.params) tabs) tabs KX G.T.g G.T.b G.T.builtins G.T.nolimit hg hobj hints (Nat.le_trans hlen (by decide)) hk (fun p hp=>?_) (hno w) G.T.bmain
  (fun base _ _ hB hC=>QL lk hcd' S (fun vs H Q E h=>by obtain ⟨a,ns,rfl,_⟩:=h;rfl) fun A outer s H vs Q E hr h=>by
   obtain ⟨t,h1,h2⟩:=B base hB hC fa A outer s H vs Q E hr h
   exact ⟨t,h1.nox,h2⟩) hb (fun H hT hS=>⟨a,ns,rfl,hS,hlen,hT,fun _=>rfl⟩) fun H e s' z=>z
 obtain ⟨d',hd'⟩:=hrec p hp
 exact PySem.W.tab_of G.T KX hd' (htab w p hp)
def YeZ (s:Stmt):Expr:=match s with
 | .Assign _ (.Call _ as _ _) _=>as.getLastD (.Constant .none 0 ⟨0,0,0,0⟩)
 | .If (.Compare (.Call _ as _ _) _ _ _) _ _ _=>as.getLastD (.Constant .none 0 ⟨0,0,0,0⟩)
 | _ => .Constant .none 0 ⟨0,0,0,0⟩
def Gx.FnE (g:Gx) (k:Nat) (x:Str) (ps:List Str) (dvs:List V) (sp:Sp):Prop:=∃ f fd ds,FnOk g.P g.w g.K g.mg g.base CX0 k f fd ps sp∧Yp dvs ds∧YY g.K fd ps ds∧YY g.K fd ps []∧PySem.W.keepIn g.K (.ref f)=true∧g.mg x=some (.ref f)
section
variable {g:Gx} {x qual:Str} {st:Stmt} {N ps:List Str} {dvs:List V} {sp:Sp} {j k:Nat}
theorem Gx.RawDX.fnE (R:g.RawDX x qual st ps dvs) (S:FnScope N ps (Yi st)) (len:∀ vs H Q E,sp vs H Q E→vs.length=ps.length) (b:UX g k N qual st sp):g.FnE (k+1) x ps dvs sp:=by
 obtain ⟨f,fd,T,ds,F,hv,bd,b0,hm⟩:=R
 refine ⟨f,fd,ds,?_,hv,bd,b0,F.kp,hm⟩
 obtain ⟨oc,od,kV,doc,pm,an,cdv,ct,osl,rfl,lk,hcd⟩:=F.ex
 refine QL lk hcd S len fun A outer s H vs Q E hr hsp=>?_
 obtain ⟨t,h,q⟩:=b f cdv A outer s H vs Q E hr hsp
 exact ⟨t,h.nox,q⟩
theorem Gx.FnE.mono (F:g.FnE j x ps dvs sp) (h:j≤k):g.FnE k x ps dvs sp:=by
 obtain ⟨f,fd,ds,F,r⟩:=F
 exact ⟨f,fd,ds,F.mono h,r⟩
theorem Gx.FnE.full (F:g.FnE k x ps dvs sp):g.Fn k x ps sp:=by
 obtain ⟨f,fd,ds,F,hv,b,b0,kp,hm⟩:=F
 exact ⟨f,fd,F,b0,kp,hm⟩
theorem Gx.FnE.d (F:g.FnE k x ps dvs sp):g.FnD k x ps dvs sp:=by
 obtain ⟨f,fd,ds,F,hv,b,b0,kp,hm⟩:=F
 exact ⟨f,fd,ds,F,hv,b,kp,hm⟩
end
end L2
set_option maxHeartbeats 8000000
namespace KW
open PySem L2
def top (i:Nat):Stmt:=PySem.Challenge.pw_countgen_k45_whole_trees_sieved.main.body.getD i (.Pass ⟨0,0,0,0⟩)
abbrev Uj:Stmt:=top 2
theorem Ydv:FnScope ["thing"] ["thing"] (Yi Uj):=⟨rfl,rfl,rfl,by decide +kernel,rfl,by decide +kernel,by decide +kernel⟩
abbrev Z2y:Stmt:=top 9
theorem Z3H:FnScope ["shape","kind"] ["shape"] (Yi Z2y):=⟨rfl,rfl,rfl,by decide +kernel,rfl,by decide +kernel,by decide +kernel⟩
abbrev Z2z:Stmt:=top 11
theorem Z3I:FnScope ["book","name","pair"] ["book","name"] (Yi Z2z):=⟨rfl,rfl,rfl,by decide +kernel,rfl,by decide +kernel,by decide +kernel⟩
abbrev Z3h:Stmt:=top 20
theorem Ycs:FnScope ["blocks"] ["blocks"] (Yi Z3h):=⟨rfl,rfl,rfl,by decide +kernel,rfl,by decide +kernel,by decide +kernel⟩
abbrev Z2A:Stmt:=top 21
theorem Z0y:FnScope ["blocks","number","place","left","rest"] ["blocks","number"] (Yi Z2A):=⟨rfl,rfl,rfl,by decide +kernel,rfl,by decide +kernel,by decide +kernel⟩
abbrev Z18:Stmt:=top 26
theorem Z3v:FnScope ["size"] ["size"] (Yi Z18):=⟨rfl,rfl,rfl,by decide +kernel,rfl,by decide +kernel,by decide +kernel⟩
abbrev Z29:Stmt:=top 37
theorem Yao:FnScope ["book","shape"] ["book","shape"] (Yi Z29):=⟨rfl,rfl,rfl,by decide +kernel,rfl,by decide +kernel,by decide +kernel⟩
abbrev Z0X:Stmt:=top 39
theorem Z3i:FnScope ["count","most"] ["count","most"] (Yi Z0X):=⟨rfl,rfl,rfl,by decide +kernel,rfl,by decide +kernel,by decide +kernel⟩
abbrev Z2B:Stmt:=top 40
theorem YaY:FnScope ["maker","size"] ["maker","size"] (Yi Z2B):=⟨rfl,rfl,rfl,by decide +kernel,rfl,by decide +kernel,by decide +kernel⟩
abbrev Z21:Stmt:=top 41
theorem Z32:FnScope ["book","shape","size","most","maker"] ["book","shape","size","most"] (Yi Z21):=⟨rfl,rfl,rfl,by decide +kernel,rfl,by decide +kernel,by decide +kernel⟩
abbrev U5:Stmt:=top 42
theorem Yem:FnScope ["judge","value"] ["judge","value"] (Yi U5):=⟨rfl,rfl,rfl,by decide +kernel,rfl,by decide +kernel,by decide +kernel⟩
abbrev Uk:Stmt:=top 43
theorem Ydw:FnScope ["book","shape","size","judge","most"] ["book","shape","size","judge","most"] (Yi Uk):=⟨rfl,rfl,rfl,by decide +kernel,rfl,by decide +kernel,by decide +kernel⟩
abbrev Z2a:Stmt:=top 45
theorem Yap:FnScope ["_law_found"] ["_law_found"] (Yi Z2a):=⟨rfl,rfl,rfl,by decide +kernel,rfl,by decide +kernel,by decide +kernel⟩
abbrev Z1O:Stmt:=top 46
theorem Z45:FnScope ["_law_script","_law_k"] ["_law_script","_law_k"] (Yi Z1O):=⟨rfl,rfl,rfl,by decide +kernel,rfl,by decide +kernel,by decide +kernel⟩
abbrev Z2C:Stmt:=top 47
theorem Z02:FnScope ["_law_cell","_law_k","_law_letters","_law_size","_law_at","_law_found","_law_j","_law_number"] ["_law_cell","_law_k"] (Yi Z2C):=⟨rfl,rfl,rfl,by decide +kernel,rfl,by decide +kernel,by decide +kernel⟩
abbrev Z1P:Stmt:=top 48
theorem Z0a:FnScope ["_law_value","_law_marks","_law_low","_law_span","_law_mark","_law_inner","_law_one","_law_other"] ["_law_value","_law_marks","_law_low","_law_span"] (Yi Z1P):=⟨rfl,rfl,rfl,by decide +kernel,rfl,by decide +kernel,by decide +kernel⟩
abbrev Z22:Stmt:=top 49
theorem QG:FnScope ["_law_value","_law_marks"] ["_law_value","_law_marks"] (Yi Z22):=⟨rfl,rfl,rfl,by decide +kernel,rfl,by decide +kernel,by decide +kernel⟩
abbrev Z3j:Stmt:=top 50
theorem Yct:FnScope ["_law_value","_law_marks"] ["_law_value","_law_marks"] (Yi Z3j):=⟨rfl,rfl,rfl,by decide +kernel,rfl,by decide +kernel,by decide +kernel⟩
abbrev Z19:Stmt:=top 51
theorem Z09:FnScope ["_law_span","_law_size","_law_first","_law_k"] ["_law_span","_law_size"] (Yi Z19):=⟨rfl,rfl,rfl,by decide +kernel,rfl,by decide +kernel,by decide +kernel⟩
abbrev Z2b:Stmt:=top 52
theorem ZQ:FnScope ["_law_span","_law_most","_law_times","_law_table_here","_law_size","_law_row","_law_first","_law_last","_law_i","_law_j","_law_more","_law_at"] ["_law_span","_law_most","_law_times"] (Yi Z2b):=⟨rfl,rfl,rfl,by decide +kernel,rfl,by decide +kernel,by decide +kernel⟩
abbrev Z1Q:Stmt:=top 53
theorem Z1K:FnScope ["_law_table_here","_law_want","_law_size"] ["_law_table_here","_law_want"] (Yi Z1Q):=⟨rfl,rfl,rfl,by decide +kernel,rfl,by decide +kernel,by decide +kernel⟩
abbrev V6:Stmt:=top 54
theorem Y8:FnScope ["_law_script","_law_cell","_law_span","_law_times","_law_left","_law_low","_law_name_here","_law_marks","_law_node","_law_book","_law_table_here","_law_size","_law_found","_law_value","_law_some","_law_total","_law_due"] ["_law_script"] (Yi V6):=⟨rfl,rfl,rfl,by decide +kernel,rfl,by decide +kernel,by decide +kernel⟩
abbrev Z0Y:Stmt:=YE (top 36) 0
theorem Z3k:FnScope ["self","book"] ["self","book"] (Yi Z0Y):=⟨rfl,rfl,rfl,by decide +kernel,rfl,by decide +kernel,by decide +kernel⟩
abbrev Z0Z:Stmt:=YE (top 36) 1
theorem Z3l:FnScope ["self","shape"] ["self","shape"] (Yi Z0Z):=⟨rfl,rfl,rfl,by decide +kernel,rfl,by decide +kernel,by decide +kernel⟩
abbrev Z1a:Stmt:=YE (top 36) 2
theorem Z1U:FnScope ["self","shape","maker"] ["self","shape"] (Yi Z1a):=⟨rfl,rfl,rfl,by decide +kernel,rfl,by decide +kernel,by decide +kernel⟩
abbrev Z0S:Stmt:=YE (top 36) 3
theorem Z0A:FnScope ["self","shape","kind","parts"] ["self","shape"] (Yi Z0S):=⟨rfl,rfl,rfl,by decide +kernel,rfl,by decide +kernel,by decide +kernel⟩
abbrev Z0b:Stmt:=YE (top 27) 0
theorem Z2c:FnScope ["self","low","high"] ["self","low","high"] (Yi Z0b):=⟨rfl,rfl,rfl,by decide +kernel,rfl,by decide +kernel,by decide +kernel⟩
abbrev Z0c:Stmt:=YE (top 27) 1
theorem Z12:FnScope ["self","size","greatest"] ["self","size"] (Yi Z0c):=⟨rfl,rfl,rfl,by decide +kernel,rfl,by decide +kernel,by decide +kernel⟩
abbrev Z0d:Stmt:=YE (top 27) 2
theorem Z2d:FnScope ["self","size","number"] ["self","size","number"] (Yi Z0d):=⟨rfl,rfl,rfl,by decide +kernel,rfl,by decide +kernel,by decide +kernel⟩
abbrev Z0B:Stmt:=YE (top 22) 0
theorem Z2D:FnScope ["self","parts"] ["self","parts"] (Yi Z0B):=⟨rfl,rfl,rfl,by decide +kernel,rfl,by decide +kernel,by decide +kernel⟩
abbrev Z0T:Stmt:=YE (top 22) 1
theorem Z34:FnScope ["self","place","left"] ["self","place","left"] (Yi Z0T):=⟨rfl,rfl,rfl,by decide +kernel,rfl,by decide +kernel,by decide +kernel⟩
abbrev Z0C:Stmt:=YE (top 22) 2
theorem Z1r:FnScope ["self","size","place"] ["self","size"] (Yi Z0C):=⟨rfl,rfl,rfl,by decide +kernel,rfl,by decide +kernel,by decide +kernel⟩
abbrev Z0k:Stmt:=YE (top 22) 3
theorem Z1i:FnScope ["self","place","left","part"] ["self","place","left"] (Yi Z0k):=⟨rfl,rfl,rfl,by decide +kernel,rfl,by decide +kernel,by decide +kernel⟩
abbrev Z0D:Stmt:=YE (top 29) 0
theorem Z2E:FnScope ["self","parts"] ["self","parts"] (Yi Z0D):=⟨rfl,rfl,rfl,by decide +kernel,rfl,by decide +kernel,by decide +kernel⟩
abbrev Z0E:Stmt:=YE (top 29) 1
theorem Z2F:FnScope ["self","size"] ["self","size"] (Yi Z0E):=⟨rfl,rfl,rfl,by decide +kernel,rfl,by decide +kernel,by decide +kernel⟩
abbrev Z0F:Stmt:=YE (top 29) 2
theorem Zx:FnScope ["self","size","number","things","left","rest","place","part","found"] ["self","size","number"] (Yi Z0F):=⟨rfl,rfl,rfl,by decide +kernel,rfl,by decide +kernel,by decide +kernel⟩
abbrev Z0l:Stmt:=YE (top 33) 0
theorem Z2n:FnScope ["self","marks","parts"] ["self","marks","parts"] (Yi Z0l):=⟨rfl,rfl,rfl,by decide +kernel,rfl,by decide +kernel,by decide +kernel⟩
abbrev Z0e:Stmt:=YE (top 33) 1
theorem Z2e:FnScope ["self","size"] ["self","size"] (Yi Z0e):=⟨rfl,rfl,rfl,by decide +kernel,rfl,by decide +kernel,by decide +kernel⟩
abbrev Z0m:Stmt:=YE (top 33) 2
theorem Z2o:FnScope ["self","size"] ["self","size"] (Yi Z0m):=⟨rfl,rfl,rfl,by decide +kernel,rfl,by decide +kernel,by decide +kernel⟩
abbrev Z0n:Stmt:=YE (top 33) 3
theorem Z1j:FnScope ["self","size","number","found"] ["self","size","number"] (Yi Z0n):=⟨rfl,rfl,rfl,by decide +kernel,rfl,by decide +kernel,by decide +kernel⟩
abbrev Z0G:Stmt:=YE (top 34) 0
theorem Z2G:FnScope ["self"] ["self"] (Yi Z0G):=⟨rfl,rfl,rfl,by decide +kernel,rfl,by decide +kernel,by decide +kernel⟩
abbrev Z0H:Stmt:=YE (top 34) 1
theorem Z2H:FnScope ["self","size"] ["self","size"] (Yi Z0H):=⟨rfl,rfl,rfl,by decide +kernel,rfl,by decide +kernel,by decide +kernel⟩
abbrev Z0I:Stmt:=YE (top 34) 2
theorem Z2I:FnScope ["self","size","number"] ["self","size","number"] (Yi Z0I):=⟨rfl,rfl,rfl,by decide +kernel,rfl,by decide +kernel,by decide +kernel⟩
abbrev Z1b:Stmt:=YE (top 19) 0
theorem Z3w:FnScope ["self","place","choice","rest"] ["self","place","choice","rest"] (Yi Z1b):=⟨rfl,rfl,rfl,by decide +kernel,rfl,by decide +kernel,by decide +kernel⟩
abbrev Z1c:Stmt:=YE (top 25) 0
theorem Z3x:FnScope ["self"] ["self"] (Yi Z1c):=⟨rfl,rfl,rfl,by decide +kernel,rfl,by decide +kernel,by decide +kernel⟩
abbrev Z0f:Stmt:=YE (top 25) 1
theorem Z2f:FnScope ["self","size"] ["self","size"] (Yi Z0f):=⟨rfl,rfl,rfl,by decide +kernel,rfl,by decide +kernel,by decide +kernel⟩
abbrev Z0J:Stmt:=YE (top 25) 1
theorem Z2J:FnScope ["self","size"] ["self","size"] (Yi Z0J):=⟨rfl,rfl,rfl,by decide +kernel,rfl,by decide +kernel,by decide +kernel⟩
abbrev Z0o:Stmt:=YE (top 25) 1
theorem Z2p:FnScope ["self","size"] ["self","size"] (Yi Z0o):=⟨rfl,rfl,rfl,by decide +kernel,rfl,by decide +kernel,by decide +kernel⟩
abbrev Z0K:Stmt:=YE (top 25) 1
theorem Z2K:FnScope ["self","size"] ["self","size"] (Yi Z0K):=⟨rfl,rfl,rfl,by decide +kernel,rfl,by decide +kernel,by decide +kernel⟩
abbrev Z26:Expr:=YeZ (YeY V6 15)
theorem Ycu:ClScope ["_law_value","_law_times","_law_marks","_law_left"] ["_law_value"] ["_law_times","_law_marks","_law_left"] (Vq Z26):=⟨rfl,rfl,rfl,by decide +kernel,rfl,rfl,by decide,by decide +kernel,by decide +kernel,by decide +kernel,by decide +kernel⟩
abbrev Z27:Str:="law.<locals>.<lambda>"
theorem Ycv:((("law":Str)++(".<locals>.":Str))++("<lambda>":Str))=Z27:=by decide +kernel
abbrev Z2L (cl:List (Str×Addr)) (c:Addr) (pm ctv:Value):FuncData:=PySem.W.kla_fn "<lambda>" Z27 (Ybl Z26) (Ybm Z26) (Vq Z26) cl pm (.ref c) ctv
abbrev Z1X:Expr:=YeZ (YeY V6 19)
theorem YaZ:ClScope ["_law_value","_law_total","_law_marks"] ["_law_value"] ["_law_total","_law_marks"] (Vq Z1X):=⟨rfl,rfl,rfl,by decide +kernel,rfl,rfl,by decide,by decide +kernel,by decide +kernel,by decide +kernel,by decide +kernel⟩
abbrev Z1Y:Str:="law.<locals>.<lambda>"
theorem Ya0:((("law":Str)++(".<locals>.":Str))++("<lambda>":Str))=Z1Y:=by decide +kernel
abbrev Z2g (cl:List (Str×Addr)) (c:Addr) (pm ctv:Value):FuncData:=PySem.W.kla_fn "<lambda>" Z1Y (Ybl Z1X) (Ybm Z1X) (Vq Z1X) cl pm (.ref c) ctv
variable {g:Gx}
local macro_rules | `(tactic| walk_at "rd")=>`(tactic| (dsimp (config:={ failIfUnchanged:=false }) only [L2.XQ,Yc8,YeT,List.map_cons,List.map_nil,List.length_cons,List.length_nil,List.cons_append,List.nil_append,List.replicate_succ,List.replicate_zero,Nat.reduceAdd,Nat.reduceSub,QY,tIfS,QK,tOp,tC,Vk,rI0,rI,rU,tUn,tRet,YeI,YbS,YbR,YcR,YeH,Q0,Yy,Wm,W3,tCB,Vm,tTry,Ydh,Ydg,sFld,tFld,V1,Uw,Ends.gone,tB,tAnd,tOr,tNot,YbP,tOrV,YbQ,tIf,Q7,UR,Yb8,tSl,QZ,tAug,rIxL,rIxT,rSlL,Yb7,UQ,W2,tRev,tLZ,YeW,Ydf,Yc7,YeO,YeP,Ybi,rInD,Ybj,Yal,Ybh,Ych,YeV,rIn,tBM,tBM0,UU,Yad,rEq,rNe,rCat,Ycb,gSub,ipI,YD,List.getD_cons_zero,List.getD_cons_succ,List.getElem?_cons_zero,List.getElem?_cons_succ,List.set_cons_zero,List.set_cons_succ,YeF,YeG,kI_,kB_,kR_,k1_,k2_,rLen,rIs,Yb1,Yb2,YeK,YeL];simp (config:={ failIfUnchanged:=false,maxSteps:=10000000 }) only [L2.XQ,Yc8,YeT,List.map_cons,List.map_nil,List.length_cons,List.length_nil,List.cons_append,List.nil_append,List.replicate_succ,List.replicate_zero,Nat.zero_add,Nat.reduceAdd,Nat.reduceSub,Nat.sub_self,QY,tIfS,QK,tOp,tC,Vk,rI0,rI,rU,tUn,tRet,YeI,YbS,YbR,YcR,YeH,Q0,Yy,Vl,Xt,Wm,W3,tCB,Vm,tTry,Ydh,Ydg,sFld,tFld,V1,Uw,Ends.gone,tB,tAnd,tOr,tNot,YbP,tOrV,YbQ,tIf,Q7,UR,Yb8,tSl,QZ,tAug,rIxL,rIxT,rSlL,Yb7,UQ,W2,tRev,tLZ,YeW,Ydf,Yc7,YeO,YeP,Ybi,rInD,Ybj,Yal,Ybh,Ych,YeV,rIn,tBM,tBM0,UU,Yad,rEq,rNe,Yfk,Xc,rCat,Ycb,gSub,ipI,YD,List.getD_cons_zero,List.getD_cons_succ,decide_true,not_true_eq_false,not_false_eq_true,exists_eq_left',exists_eq_left,exists_eq',exists_eq,exists_and_left,and_assoc,Option.some.injEq,V.int.injEq,V.bl.injEq,V.ref.injEq,V.str.injEq,List.getElem?_cons_zero,List.getElem?_cons_succ,List.set_cons_zero,List.set_cons_succ,List.cons.injEq,and_true,true_and,List.append_nil,decide_eq_true_eq,Bool.not_eq_true',decide_eq_false_iff_not,Bool.not_not,Bool.not_true,Bool.not_false,Bool.true_eq_false,Bool.false_eq_true,if_true,if_false,ite_true,ite_false,YeF,YeG,kI_,kB_,kR_,k1_,k2_,rLen,rIs,Yb1,Yb2,YeK,YeL,UP,Uh,Vj,YbY]))
theorem cm {i j:Int} {m n:Nat} (h1:i.natAbs<2^m) (h2:j.natAbs<2^n) (h:m+n≤100000000:=by decide):QN i j:=⟨m,n,h1,h2,h⟩
theorem cpow {i j:Int} (h:0≤j∧j≤1000000∧i.natAbs<2^64:=by decide):CPow i j:=h
theorem few {n:Nat} (h:n≤100000):n≤sizeLine:=Nat.le_trans h (by decide)
theorem W9 (x:Int) {j:Int} (h:0<j):∃ r:Nat,x%j=r∧(r:Int)<j:=⟨(x%j).toNat,by have:=Int.emod_nonneg x (Int.ne_of_gt h);omega,by have:=Int.emod_lt_of_pos x h;have:=Int.emod_nonneg x (Int.ne_of_gt h);omega⟩
theorem WP {a b:Nat} (h:a≤b):(2:Nat)^a≤2^b:=Nat.pow_le_pow_right (by decide) h
def SameBut (p:Addr) (H H':Hp):Prop:=∀ q o,q≠p→H q=some o→H' q=some o
inductive Sh | w (lo:Int) (span:Nat) | row (ps:List Sh) | pick (mk:List (List Nat)) (ps:List Sh) | use (x:List Nat)
def wc (span:Int) (k:Nat):Int:=if (if (1*2^k - 1:Int)<span then (1*2^k - 1:Int) else span) - 1*2^k / 2^1+1>0 then (if (1*2^k - 1:Int)<span then (1*2^k - 1:Int) else span) - 1*2^k / 2^1+1 else 0
mutual
def dep:Sh→Nat
 | .row ps=>YO ps+1
 | .pick _ ps=>YO ps+1
 | _=>0
def YO:List Sh→Nat
 | []=>0
 | p::ps=>max (dep p) (YO ps)
end
theorem Wi {p:Sh}:∀ {ps:List Sh},p∈ps→dep p≤YO ps
 | q::ps,h=>by
  rw [YO]
  rcases List.mem_cons.mp h with rfl | h
  ·omega
  ·have:=Wi h
   omega
mutual
def cnt (bk:List Nat→Sh):Sh→Nat→Int
 | .w _ span,s=>wc span s
 | .row ps,s=>YB bk ps s
 | .pick _ ps,s=>QP bk ps s
 | .use x,s=>if h:s=0 then 0 else cnt bk (bk x) (s - 1)
termination_by sh s=>(s,sizeOf sh)
decreasing_by
 ·simp only [Prod.lex_def];right;simp
 ·simp only [Prod.lex_def];right;simp;omega
 ·simp only [Prod.lex_def];left;omega
def YB (bk:List Nat→Sh):List Sh→Nat→Int
 | [],s=>if s=0 then 1 else 0
 | p::ps,s=>((List.range (s+1)).attach.map fun ⟨f,hf⟩=>cnt bk p f*YB bk ps (s - f)).sum
termination_by ps s=>(s,sizeOf ps)
decreasing_by
 ·have:=List.mem_range.mp hf
  simp only [Prod.lex_def]
  by_cases c:f<s
  ·left;exact c
  ·right;exact ⟨by omega,by simp;omega⟩
 ·simp only [Prod.lex_def]
  by_cases c:s - f<s
  ·left;exact c
  ·right;exact ⟨by omega,by simp;omega⟩
def QP (bk:List Nat→Sh):List Sh→Nat→Int
 | [],_=>0
 | p::ps,s=>cnt bk p s+QP bk ps s
termination_by ps s=>(s,sizeOf ps)
decreasing_by
 ·simp only [Prod.lex_def];right;exact ⟨trivial,by simp;omega⟩
 ·simp only [Prod.lex_def];right;exact ⟨trivial,by simp;omega⟩
end
theorem QQ (bk:List Nat→Sh) (lo:Int) (span s:Nat):cnt bk (.w lo span) s=wc span s:=by rw [cnt]
theorem Vb (bk:List Nat→Sh) (ps:List Sh) (s:Nat):cnt bk (.row ps) s=YB bk ps s:=by rw [cnt]
theorem Vu (bk:List Nat→Sh) (mk:List (List Nat)) (ps:List Sh) (s:Nat):cnt bk (.pick mk ps) s=(ps.map fun p=>cnt bk p s).sum:=by
 rw [cnt]
 induction ps with
 | nil=>rw [QP];rfl
 | cons p ps ih=>rw [QP,ih];rfl
theorem WQ (bk:List Nat→Sh) (x:List Nat):cnt bk (.use x) 0=0:=by rw [cnt,dif_pos rfl]
theorem V7 (bk:List Nat→Sh) (x:List Nat) (s:Nat):cnt bk (.use x) (s+1)=cnt bk (bk x) s:=by rw [cnt,dif_neg (by omega)];rfl
theorem XV (bk:List Nat→Sh) (s:Nat):YB bk [] s=if s=0 then 1 else 0:=by rw [YB]
theorem Wu (bk:List Nat→Sh) (p:Sh) (ps:List Sh) (s:Nat):YB bk (p::ps) s=((List.range (s+1)).map fun f=>cnt bk p f*YB bk ps (s - f)).sum:=by
 rw [YB]
 congr 1
 exact List.attach_map_val (f:=fun f=>cnt bk p f*YB bk ps (s - f))
mutual
def kd:Sh→PyData
 | .w lo span => .tuple [.str "whole",.int lo,.int (lo+span)]
 | .row ps => .tuple [.str "row",.tuple (kds ps)]
 | .pick mk ps => .tuple [.str "pick",.tuple (kdp mk ps)]
 | .use x => .tuple [.str "use",.str (S x)]
def kds:List Sh→List PyData
 | []=>[]
 | p::ps=>kd p::kds ps
def kdp:List (List Nat)→List Sh→List PyData
 | m::mk,p::ps => .tuple [.str (S m),kd p]::kdp mk ps
 | _,_=>[]
end
variable {m:Nat}
variable {src:List (Option Nat)} {te:TE} {σ:St} {H:Hp} {Q:VK}
variable {P0:Program} {w0:World} {K:PySem.W.Frag} {C:Cs} {CL:Addr} {prs:Prs} {w:Wo} {U O:Addr→Prop} {H H':Hp} {ls dx d B:Addr} {xs:Dx}
variable {P0:Program} {w0:World} {K:PySem.W.Frag} {C:Cs} {CL:Addr} {prs:Prs} {w w1:Wo} {U U1 O:Addr→Prop} {H H1 H3:Hp} {ls dx d B:Addr} {xs xs1:Dx}
variable {P0:Program} {w0:World} {K:PySem.W.Frag} {C:Cs} {CL:Addr} {prs:Prs} {w:Wo} {U O O':Addr→Prop} {H H':Hp} {ls dx d B:Addr} {xs:Dx}
def Xj (f:Nat→Int) (n:Nat):List V:=(List.range n).map fun k=>V.int (f k)
theorem YG (f:Nat→Int) (n:Nat):(Xj f n).length=n:=by simp [Xj]
theorem XG (f:Nat→Int) (n:Nat):Xj f (n+1)=Xj f n++[.int (f n)]:=by simp [Xj,List.range_succ]
theorem XD (f:Nat→Int) {n i:Nat} (h:i<n):atI (Xj f n) (i:Int)=some (.int (f i)):=Yu (by simp [Xj,h])
theorem dle (x k:Nat):decide ((x:Int)≤(k:Int))=decide (x≤k):=decide_eq_decide.mpr (by omega)
structure Cs where
 (w row tab pick use:Addr)
structure Wo where
 bk:List Nat→Sh
 reg:Addr→Option Sh
 D:Addr→Option (Addr×Nat)
 M:Nat
structure Sw where
 ns:Addr→Nat
 ms:Addr→Nat→Nat
 U:Addr→Prop
def Vv (C:Cs):Sh→Addr
 | .w _ _=>C.w
 | .row _=>C.row
 | .pick _ _=>C.pick
 | .use _=>C.use
def Wv (reg:Addr→Option Sh) (as:List Addr) (ps:List Sh):Prop:=as.length=ps.length∧∀ (i:Nat) a p,as[i]?=some a→ps[i]?=some p→reg a=some p
def sm (x:Int):Prop:=∃ n:Nat,n≤10000000∧x.natAbs<2^n
def Un (w:Wo) (t:Sw) (b:Addr):Prop:=w.D b=none∧t.U b
def fW (lo:Int) (span:Nat):List (Str×V):=[("low",.int lo),("span",.int span)]
def fR (P T:Addr):List (Str×V):=[("parts",.ref P),("table",.ref T)]
def X6 (P L:Addr):List (Str×V):=[("parts",.ref P),("ways",.ref L)]
def fP (M P:Addr):List (Str×V):=[("marks",.ref M),("parts",.ref P)]
def fU (a:V):List (Str×V):=[("named",a)]
def mf (c:Addr) (fs:List (Str×V)):List (Str×V):=("counts",.ref c)::fs
structure RegC (w:Wo) (t:Sw) (p:Addr) (as:List Addr) (ps:List Sh):Prop where
 len:as.length=ps.length
 reg:∀ (i:Nat) a p,as[i]?=some a→ps[i]?=some p→w.reg a=some p
 cn:∀ a∈as,t.ns p≤t.ns a
structure RegM (w:Wo) (t:Sw) (p:Addr) (as:List Addr) (ps:List Sh):Prop where
 len:as.length=ps.length
 reg:∀ (i:Nat) a p,as[i]?=some a→ps[i]?=some p→w.reg a=some p
 cn:∀ (i:Nat) a,as[i]?=some a→t.ms p i≤t.ns a
def V8 (C:Cs) (H:Hp) (q:Addr) (i:Nat) (a:Addr):Prop:=∃ dx c P T,∃ as:List Addr,H q=some (.ins C.row dx (mf c (fR P T)))∧H P=some (.lst (as.map V.ref))∧as[i]?=some a
def Sub (C:Cs) (w:Wo) (t:Sw) (H:Hp) (p:Addr):Sh→List (Str×V)→Prop
 | .w lo span,fs=>fs=fW lo span
 | .row ps,fs=>∃ (P T dt L:Addr) (as ws:List Addr),fs=fR P T∧Un w t P∧Un w t T∧Un w t L∧H P=some (.lst (as.map V.ref))∧RegM w t p as ps∧ps.length≤100 ∧
   H T=some (.ins C.tab dt (X6 P L))∧H L=some (.lst (ws.map V.ref))∧ws.length=ps.length+1 ∧
   (∀ (i:Nat) x,ws[i]?=some x→w.D x=some (p,i+1)∧t.ns p≤t.ms p i∧t.ms p i≤60∧H x=some (.lst (Xj (YB w.bk (ps.drop i)) (t.ms p i))))∧∀ i s,s≤45→sm (YB w.bk (ps.drop i) s)
 | .pick mk ps,fs=>∃ (M P:Addr) (as:List Addr),fs=fP M P∧Un w t M∧Un w t P∧H M=some (.lst (mk.map fun m=>V.str (S m)))∧H P=some (.lst (as.map V.ref))∧RegC w t p as ps∧ps.length≤100
 | .use x,fs=>∃ a,fs=fU (.ref a)∧w.reg a=some (w.bk x)∧t.ns p≤t.ns a+1
def PtF (H:Hp):Sh→List (Str×V)→List Addr→Prop
 | .w _ _,_,as=>as=[]
 | .row _,_,as=>as=[]
 | .pick _ _,fs,as=>∃ M P,fs=fP M P∧H P=some (.lst (as.map V.ref))
 | .use _,fs,as=>∃ a,fs=fU (.ref a)∧as=[a]
def Ycw:Sh→Nat
 | .use _=>1
 | _=>0
def X7 (C:Cs) (w:Wo) (t:Sw) (H:Hp) (p:Addr) (sh:Sh):Prop:=∃ (dx c:Addr) (fs:List (Str×V)),Un w t p∧dep sh≤w.M∧(∀ s,s≤45→sm (cnt w.bk sh s))∧t.ns p≤60∧H p=some (.ins (Vv C sh) dx (mf c fs))∧w.D c=some (p,0)∧H c=some (.lst (Xj (cnt w.bk sh) (t.ns p)))∧Sub C w t H p sh fs
structure WI (C:Cs) (w:Wo) (t:Sw) (H:Hp):Prop where
 at_:∀ p sh,w.reg p=some sh→X7 C w t H p sh
 al:∀ b,t.U b→H b≠none
 ow:∀ b x,w.D b=some x→t.U b
 inj:∀ b b' x,w.D b=some x→w.D b'=some x→b=b'
theorem Sub.keep {C:Cs} {w:Wo} {t:Sw} {H H':Hp} {p:Addr} (ow:∀ b x,w.D b=some x→t.U b) (hk:∀ b o,t.U b→H b=some o→H' b=some o):∀ {sh:Sh} {fs:List (Str×V)},Sub C w t H p sh fs→Sub C w t H' p sh fs
 | .w lo span,fs,h=>h
 | .row ps,fs,h=>by
  obtain ⟨P,T,dt,L,as,ws,h1,h2,h3,h4,h5,h6,h7,h8,h9,h10,h11,h12⟩:=h
  exact ⟨P,T,dt,L,as,ws,h1,h2,h3,h4,hk _ _ h2.2 h5,h6,h7,hk _ _ h3.2 h8,hk _ _ h4.2 h9,h10,fun i x hx=>⟨(h11 i x hx).1,(h11 i x hx).2.1,(h11 i x hx).2.2.1,hk _ _ (ow _ _ (h11 i x hx).1) (h11 i x hx).2.2.2⟩,h12⟩
 | .pick mk ps,fs,h=>by
  obtain ⟨M,P,as,h1,h2,h3,h4,h5,h6,h7⟩:=h
  exact ⟨M,P,as,h1,h2,h3,hk _ _ h2.2 h4,hk _ _ h3.2 h5,h6,h7⟩
 | .use x,fs,h=>h
theorem WI.keep {C:Cs} {w:Wo} {t:Sw} {H H':Hp} (h:WI C w t H) (hk:∀ b o,t.U b→H b=some o→H' b=some o):WI C w t H':=by
 refine ⟨fun p sh hr=>?_,fun b hb=>?_,h.ow,h.inj⟩
 ·obtain ⟨dx,c,fs,h1,h2,h3,h4,h5,h6,h7,h8⟩:=h.at_ p sh hr
  exact ⟨dx,c,fs,h1,h2,h3,h4,hk _ _ h1.2 h5,h6,hk _ _ (h.ow _ _ h6) h7,h8.keep h.ow hk⟩
 ·have:=h.al b hb
  cases e:H b with
  | none=>exact absurd e this
  | some o=>rw [hk b o hb e];intro z;cases z
theorem WI.same {C:Cs} {w:Wo} {t:Sw} {H H':Hp} (h:WI C w t H) (s:Yk H H'):WI C w t H':=h.keep fun b o _ e=>s _ _ e
theorem WI.new {C:Cs} {w:Wo} {t:Sw} {H:Hp} (h:WI C w t H) {a:Addr} (ha:H a=none):w.D a=none∧¬ t.U a:=by
 have n:¬ t.U a:=fun z=>h.al a z ha
 refine ⟨?_,n⟩
 cases e:w.D a with
 | none=>rfl
 | some x=>exact absurd (h.ow a x e) n
theorem WI.loc {C:Cs} {w:Wo} {t:Sw} {H:Hp} (h:WI C w t H) {a:Addr} (ha:¬ t.U a) (o:HO):WI C w t (upd H a o):=h.keep fun b u hb e=>by rw [Yd fun z=>ha (by rw [← z];exact hb)];exact e
def Sw.setn (t:Sw) (p:Addr) (n:Nat):Sw:={ t with ns:=fun q=>if q=p then n else t.ns q }
def Sw.setm (t:Sw) (p:Addr) (i n:Nat):Sw:={ t with ms:=fun q j=>if q=p∧i≤j then n else t.ms q j }
theorem RegC.setn {w:Wo} {t:Sw} {p q:Addr} {as:List Addr} {ps:List Sh} {n:Nat} (h:RegC w t p as ps) (hge:t.ns q≤n) (hp:p=q→∀ a∈as,n≤t.ns a):RegC w (t.setn q n) p as ps:=⟨h.1,h.2,fun a ha=>by
 show (if p=q then n else t.ns p)≤(if a=q then n else t.ns a)
 have h3:=h.3 a ha
 by_cases e:p=q
 ·have:=hp e a ha
  rw [if_pos e]
  split<;>omega
 ·rw [if_neg e]
  split
  ·rename_i z;rw [z] at h3;omega
  ·exact h3⟩
theorem RegM.setn {w:Wo} {t:Sw} {p q:Addr} {as:List Addr} {ps:List Sh} {n:Nat} (h:RegM w t p as ps) (hge:t.ns q≤n):RegM w (t.setn q n) p as ps:=⟨h.1,h.2,fun i a ha=>by
 show t.ms p i≤(if a=q then n else t.ns a)
 have h3:=h.3 i a ha
 split
 ·rename_i z;rw [z] at h3;omega
 ·exact h3⟩
theorem Sub.setn {C:Cs} {w:Wo} {t:Sw} {H:Hp} {p q c:Addr} {n:Nat} {o:HO} (hc:w.D c=some (q,0)) (hge:t.ns q≤n):∀ {sh:Sh} {fs:List (Str×V)},(p=q→∀ ps,sh = .row ps→∀ i,n≤t.ms p i)→(p=q→∀ as,PtF H sh fs as→∀ a∈as,n≤t.ns a+Ycw sh)→Sub C w t H p sh fs→Sub C w (t.setn q n) (upd H c o) p sh fs
 | .w lo span,fs,_,_,h=>h
 | .row ps,fs,hful,hpt,h=>by
  obtain ⟨P,T,dt,L,as,ws,h1,h2,h3,h4,h5,h6,h7,h8,h9,h10,h11,h12⟩:=h
  have ne:∀ {b:Addr},w.D b=none→b≠c:=fun e z=>by rw [z,hc] at e;cases e
  refine ⟨P,T,dt,L,as,ws,h1,h2,h3,h4,(Yd (ne h2.1)).trans h5,h6.setn hge,h7,(Yd (ne h3.1)).trans h8,(Yd (ne h4.1)).trans h9,h10,fun i x hx=>⟨(h11 i x hx).1,?_,(h11 i x hx).2.2.1,?_⟩,h12⟩
  ·show (if p=q then n else t.ns p)≤t.ms p i
   by_cases e:p=q
   ·rw [if_pos e];exact hful e ps rfl i
   ·rw [if_neg e];exact (h11 i x hx).2.1
  ·rw [Yd fun z=>by have:=(h11 i x hx).1;rw [z,hc] at this;injection this with this;injection this with _ this;omega]
   exact (h11 i x hx).2.2.2
 | .pick mk ps,fs,_,hpt,h=>by
  obtain ⟨M,P,as,h1,h2,h3,h4,h5,h6,h7⟩:=h
  have ne:∀ {b:Addr},w.D b=none→b≠c:=fun e z=>by rw [z,hc] at e;cases e
  exact ⟨M,P,as,h1,h2,h3,(Yd (ne h2.1)).trans h4,(Yd (ne h3.1)).trans h5,h6.setn hge (fun e a ha=>hpt e as ⟨M,P,h1,h5⟩ a ha),h7⟩
 | .use x,fs,_,hpt,⟨a,h1,h2,h3⟩=>by
  refine ⟨a,h1,h2,?_⟩
  show (if p=q then n else t.ns p)≤(if a=q then n else t.ns a)+1
  by_cases e:p=q
  ·have:=hpt e [a] ⟨a,h1,rfl⟩ a (.head _)
   have o1:Ycw (.use x)=1:=rfl
   rw [if_pos e]
   split<;>omega
  ·rw [if_neg e]
   split
   ·rename_i z;rw [z] at h3;omega
   ·exact h3
theorem WI.count {C:Cs} {w:Wo} {t:Sw} {H:Hp} (h:WI C w t H) {p c:Addr} {sh:Sh} (hr:w.reg p=some sh) (hc:w.D c=some (p,0)) (hn:t.ns p<60) (hful:∀ ps,sh = .row ps→∀ i,t.ns p+1≤t.ms p i) (hpt:∀ dx c fs as,H p=some (.ins (Vv C sh) dx (mf c fs))→PtF H sh fs as→∀ a∈as,t.ns p+1≤t.ns a+Ycw sh):WI C w (t.setn p (t.ns p+1)) (upd H c (.lst (Xj (cnt w.bk sh) (t.ns p+1)))):=by
 refine ⟨fun q sh' hr'=>?_,fun b hb=>?_,h.ow,h.inj⟩
 ·obtain ⟨dx,c',fs,h1,h2,h3,h4,h5,h6,h7,h8⟩:=h.at_ q sh' hr'
  have n1:q≠c:=fun z=>by have:=h1.1;rw [z,hc] at this;cases this
  refine ⟨dx,c',fs,h1,h2,h3,?_,(Yd n1).trans h5,h6,?_,h8.setn hc (Nat.le_succ _) (fun e ps e2=>?_) (fun e as hP=>?_)⟩
  ·show (if q=p then _ else t.ns q)≤60
   split<;>omega
  ·show _=some (HO.lst (Xj _ (if q=p then _ else t.ns q)))
   by_cases e:q=p
   ·subst e
    rw [hr] at hr'
    have:=Option.some.inj hr'
    subst this
    rw [if_pos rfl]
    rw [h.inj _ _ _ h6 hc,Yg]
   ·rw [if_neg e,Yd fun z=>e (by rw [z,hc] at h6;injection h6 with h6;injection h6 with h6 _;exact h6.symm)]
    exact h7
  ·subst e
   rw [hr] at hr'
   exact hful ps ((Option.some.inj hr').trans e2)
  ·subst e
   rw [hr] at hr'
   cases Option.some.inj hr'
   exact hpt dx c' fs as h5 hP
 ·by_cases e:b=c
  ·rw [e,Yg];intro z;cases z
  ·rw [Yd e];exact h.al b hb
theorem Sub.setm {C:Cs} {w:Wo} {t:Sw} {H:Hp} (inj:∀ b b' x,w.D b=some x→w.D b'=some x→b=b') {p q y:Addr} {i:Nat} {qs:List Sh} {f:Nat→Int} (hq:w.reg q=some (.row qs)) (hc:w.D y=some (q,i+1)) (hf:f=YB w.bk (qs.drop i)) (hm:t.ms q i<60) (hj:∀ j,i<j→j≤qs.length→t.ms q j=t.ms q i+1):∀ {sh:Sh} {fs:List (Str×V)},w.reg p=some sh→(p=q→∀ (P T:Addr) (as:List Addr) (a:Addr),fs=fR P T→H P=some (.lst (as.map V.ref))→as[i]?=some a→t.ms q i+1≤t.ns a)→Sub C w t H p sh fs→Sub C w (t.setm q i (t.ms q i+1)) (upd H y (.lst (Xj f (t.ms q i+1)))) p sh fs
 | .w lo span,fs,_,_,h=>h
 | .row ps,fs,hp,hpa,h=>by
  obtain ⟨P,T,dt,L,as,ws,h1,h2,h3,h4,h5,h6,h7,h8,h9,h10,h11,h12⟩:=h
  have ne:∀ {b:Addr},w.D b=none→b≠y:=fun e z=>by rw [z,hc] at e;cases e
  refine ⟨P,T,dt,L,as,ws,h1,h2,h3,h4,(Yd (ne h2.1)).trans h5,⟨h6.1,h6.2,fun j a ha=>?_⟩,h7,(Yd (ne h3.1)).trans h8,(Yd (ne h4.1)).trans h9,h10,fun j x hx=>⟨(h11 j x hx).1,?_,?_,?_⟩,h12⟩
  ·show (if p=q∧i≤j then _ else t.ms p j)≤t.ns a
   have h3:=h6.3 j a ha
   split
   ·rename_i e
    obtain ⟨rfl,hij⟩:=e
    rw [hq] at hp
    cases Option.some.inj hp
    have hl:=(List.getElem?_eq_some_iff.mp ha).1
    have hl2:=h6.1
    by_cases e2:j=i
    ·subst e2;exact hpa rfl P T as a h1 h5 ha
    ·rw [← hj j (by omega) (by omega)];exact h3
   ·exact h3
  ·show t.ns p≤(if p=q∧i≤j then _ else t.ms p j)
   have:=(h11 j x hx).2.1
   split
   ·rename_i e
    obtain ⟨rfl,hij⟩:=e
    rw [hq] at hp
    have:=Sh.row.inj (Option.some.inj hp)
    subst this
    have hl:=(List.getElem?_eq_some_iff.mp hx).1
    by_cases e2:j=i
    ·subst e2;omega
    ·rw [← hj j (by omega) (by omega)];exact (h11 j x hx).2.1
   ·exact this
  ·show (if p=q∧i≤j then _ else t.ms p j)≤60
   have:=(h11 j x hx).2.2.1
   split<;>omega
  ·show _=some (HO.lst (Xj _ (if p=q∧i≤j then _ else t.ms p j)))
   by_cases e:p=q∧i≤j
   ·obtain ⟨rfl,hij⟩:=e
    rw [hq] at hp
    have:=Sh.row.inj (Option.some.inj hp)
    subst this
    rw [if_pos ⟨rfl,hij⟩]
    by_cases e2:j=i
    ·subst e2
     rw [inj _ _ _ (h11 j x hx).1 hc,Yg,hf]
    ·have hl:=(List.getElem?_eq_some_iff.mp hx).1
     rw [Yd fun z=>e2 ?_,← hj j (by omega) (by omega)]
     ·exact (h11 j x hx).2.2.2
     ·have:=(h11 j x hx).1
      rw [z,hc] at this
      injection this with this
      injection this with t1 t2
      omega
   ·rw [if_neg e,Yd fun z=>e ?_]
    ·exact (h11 j x hx).2.2.2
    ·have:=(h11 j x hx).1
     rw [z,hc] at this
     injection this with this
     injection this with t1 t2
     exact ⟨t1.symm,by omega⟩
 | .pick mk ps,fs,_,_,h=>by
  obtain ⟨M,P,as,h1,h2,h3,h4,h5,h6,h7⟩:=h
  have ne:∀ {b:Addr},w.D b=none→b≠y:=fun e z=>by rw [z,hc] at e;cases e
  exact ⟨M,P,as,h1,h2,h3,(Yd (ne h2.1)).trans h4,(Yd (ne h3.1)).trans h5,⟨h6.1,h6.2,h6.3⟩,h7⟩
 | .use x,fs,_,_,h=>h
theorem WI.way {C:Cs} {w:Wo} {t:Sw} {H:Hp} (h:WI C w t H) {q y:Addr} {i:Nat} {qs:List Sh} (hq:w.reg q=some (.row qs)) (hc:w.D y=some (q,i+1)) (hm:t.ms q i<60) (hj:∀ j,i<j→j≤qs.length→t.ms q j=t.ms q i+1) (hpa:∀ a,V8 C H q i a→t.ms q i+1≤t.ns a):WI C w (t.setm q i (t.ms q i+1)) (upd H y (.lst (Xj (YB w.bk (qs.drop i)) (t.ms q i+1)))):=by
 refine ⟨fun p sh hp=>?_,fun b hb=>?_,h.ow,h.inj⟩
 ·obtain ⟨dx,c,fs,h1,h2,h3,h4,h5,h6,h7,h8⟩:=h.at_ p sh hp
  have n1:p≠y:=fun z=>by have:=h1.1;rw [z,hc] at this;cases this
  have n2:c≠y:=fun z=>by rw [z,hc] at h6;injection h6 with h6;injection h6 with _ h6;omega
  exact ⟨dx,c,fs,h1,h2,h3,h4,(Yd n1).trans h5,h6,(Yd n2).trans h7,h8.setm h.inj hq hc rfl hm hj hp fun e P T as a e1 e2 e3=>hpa a ⟨dx,c,P,T,as,by subst e;rw [hq] at hp;cases Option.some.inj hp;rw [← e1];exact h5,e2,e3⟩⟩
 ·by_cases e:b=y
  ·rw [e,Yg];intro z;cases z
  ·rw [Yd e];exact h.al b hb
def bnd (s d:Nat) (sh:Sh):Nat:=if dep sh<d then s+1 else s
def Uni (t:Sw) (p:Addr):Prop:=∀ i,t.ms p i=t.ms p 0
structure Gr1 (t t':Sw) (p:Addr) (b:Nat):Prop where
 up:t.ns p≤t'.ns p
 le:t'.ns p≤max (t.ns p) b
 no:b≤t.ns p→t'.ms p=t.ms p
 un:Uni t p→Uni t' p
theorem Gr1.refl (t:Sw) (p:Addr) (b:Nat):Gr1 t t p b:=⟨Nat.le_refl _,Nat.le_max_left _ _,fun _=>rfl,fun h=>h⟩
theorem Gr1.trans {t t1 t2:Sw} {p:Addr} {b:Nat} (a:Gr1 t t1 p b) (c:Gr1 t1 t2 p b):Gr1 t t2 p b:=by
 have h1:=a.up
 have h2:=c.up
 have h3:=a.le
 have h4:=c.le
 exact ⟨by omega,by omega,fun h=>by rw [c.no (by omega),a.no h],fun h=>c.un (a.un h)⟩
theorem Gr1.mono {t t1:Sw} {p:Addr} {b b':Nat} (a:Gr1 t t1 p b) (h:b≤b'):Gr1 t t1 p b':=⟨a.up,by have:=a.le;omega,fun z=>a.no (by omega),a.un⟩
theorem Yaq {s d s' d':Nat} (h:s'<s∨(s'=s∧d'≤d)) (sh:Sh):bnd s' d' sh≤bnd s d sh:=by
 unfold bnd
 split<;>split<;>omega
def Fr (w:Wo) (H H':Hp):Prop:=∀ b o,w.D b=none→H b=some o→H' b=some o
structure Tr (C:Cs) (w:Wo) (t:Sw) (H:Hp) (t':Sw) (H':Hp) (s d:Nat):Prop where
 wi:WI C w t' H'
 fr:Fr w H H'
 gr:∀ p sh,w.reg p=some sh→Gr1 t t' p (bnd s d sh)
 u1:∀ b,t.U b→t'.U b
 u2:∀ b,t'.U b→t.U b∨H b=none
def Y6 (w:Wo) (t:Sw) (s d:Nat):Prop:=∀ p sh,w.reg p=some sh→t.ns p<bnd s d sh→Uni t p
theorem Y6.mono {w:Wo} {t:Sw} {s d s' d':Nat} (h:Y6 w t s d) (c:s'<s∨(s'=s∧d'≤d)):Y6 w t s' d':=fun p sh hr hn=>h p sh hr (Nat.lt_of_lt_of_le hn (Yaq c sh))
theorem Tr.refl {C:Cs} {w:Wo} {t:Sw} {H:Hp} (h:WI C w t H) (s d:Nat):Tr C w t H t H s d:=⟨h,fun _ _ _ e=>e,fun p sh _ => .refl _ _ _,fun _ h=>h,fun _ h => .inl h⟩
theorem Tr.alloc {C:Cs} {w:Wo} {t t':Sw} {H H':Hp} {s d:Nat} (T:Tr C w t H t' H' s d) {b:Addr} {o:HO} (h:H b=some o):H' b≠none:=by
 cases e:w.D b with
 | none=>rw [T.fr b o e h];intro z;cases z
 | some x=>exact T.wi.al b (T.wi.ow b x e)
theorem Tr.trans {C:Cs} {w:Wo} {t t1 t2:Sw} {H H1 H2:Hp} {s d:Nat} (a:Tr C w t H t1 H1 s d) (b:Tr C w t1 H1 t2 H2 s d):Tr C w t H t2 H2 s d :=
 ⟨b.wi,fun c o e h=>b.fr c o e (a.fr c o e h),fun p sh hr=>(a.gr p sh hr).trans (b.gr p sh hr),fun c h=>b.u1 c (a.u1 c h),fun c h=>by
  rcases b.u2 c h with h | h
  ·exact a.u2 c h
  ·cases e:H c with
   | none=>exact .inr rfl
   | some o=>exact absurd h (a.alloc e)⟩
theorem Tr.mono {C:Cs} {w:Wo} {t t1:Sw} {H H1:Hp} {s d s' d':Nat} (a:Tr C w t H t1 H1 s' d') (c:s'<s∨(s'=s∧d'≤d)):Tr C w t H t1 H1 s d:=⟨a.wi,a.fr,fun p sh hr=>(a.gr p sh hr).mono (Yaq c sh),a.u1,a.u2⟩
theorem Tr.same {C:Cs} {w:Wo} {t t1:Sw} {H H1 H2:Hp} {s d:Nat} (a:Tr C w t H t1 H1 s d) (b:Yk H1 H2):Tr C w t H t1 H2 s d:=⟨a.wi.same b,fun c o e h=>b _ _ (a.fr c o e h),a.gr,a.u1,a.u2⟩
theorem Tr.put {C:Cs} {w:Wo} {t t1:Sw} {H H1:Hp} {s d:Nat} (a:Tr C w t H t1 H1 s d) {x:Addr} (h:H x=none) (n:¬ t1.U x) (o:HO):Tr C w t H t1 (upd H1 x o) s d:=⟨a.wi.loc n o,fun c u e z=>by rw [Yd (Yj z h)];exact a.fr c u e z,a.gr,a.u1,a.u2⟩
theorem Tr.ready {C:Cs} {w:Wo} {t t1:Sw} {H H1:Hp} {s d s' d':Nat} (a:Tr C w t H t1 H1 s' d') (r:Y6 w t s d):Y6 w t1 s d:=fun p sh hr hn=>(a.gr p sh hr).un (r p sh hr (Nat.lt_of_le_of_lt (a.gr p sh hr).up hn))
theorem Tr.ours {C:Cs} {w:Wo} {t t1:Sw} {H H1:Hp} {s d:Nat} (a:Tr C w t H t1 H1 s d) {x:Addr} {o:HO} (n:¬ t.U x) (h:H x=some o):¬ t1.U x:=fun z=>by
 rcases a.u2 x z with z | z
 ·exact n z
 ·rw [h] at z;cases z
structure TrB (C:Cs) (w:Wo) (t:Sw) (H:Hp) (t':Sw) (H':Hp) (s d:Nat) (p:Addr):Prop where
 wi:WI C w t' H'
 fr:Fr w H H'
 gr:∀ q sh,w.reg q=some sh→q≠p→Gr1 t t' q (bnd s d sh)
 own:t'.ns p=t.ns p
 u1:∀ b,t.U b→t'.U b
 u2:∀ b,t'.U b→t.U b∨H b=none
theorem Tr.b {C:Cs} {w:Wo} {t t':Sw} {H H':Hp} {s d:Nat} {p:Addr} (T:Tr C w t H t' H' s d) (h:t'.ns p=t.ns p):TrB C w t H t' H' s d p:=⟨T.wi,T.fr,fun q sh hq _=>T.gr q sh hq,h,T.u1,T.u2⟩
theorem TrB.trans {C:Cs} {w:Wo} {t t1 t2:Sw} {H H1 H2:Hp} {s d:Nat} {p:Addr} (a:TrB C w t H t1 H1 s d p) (b:TrB C w t1 H1 t2 H2 s d p):TrB C w t H t2 H2 s d p :=
 ⟨b.wi,fun c o e h=>b.fr c o e (a.fr c o e h),fun q sh hr n=>(a.gr q sh hr n).trans (b.gr q sh hr n),b.own.trans a.own,fun c h=>b.u1 c (a.u1 c h),fun c h=>by
  rcases b.u2 c h with h | h
  ·exact a.u2 c h
  ·cases e:H c with
   | none=>exact .inr rfl
   | some o =>
    exfalso
    cases e2:w.D c with
    | none=>rw [a.fr c o e2 e] at h;cases h
    | some x=>exact a.wi.al c (a.wi.ow c x e2) h⟩
theorem TrB.same {C:Cs} {w:Wo} {t t1:Sw} {H H1 H2:Hp} {s d:Nat} {p:Addr} (a:TrB C w t H t1 H1 s d p) (b:Yk H1 H2):TrB C w t H t1 H2 s d p:=⟨a.wi.same b,fun c o e h=>b _ _ (a.fr c o e h),a.gr,a.own,a.u1,a.u2⟩
theorem TrB.ready {C:Cs} {w:Wo} {t t1:Sw} {H H1:Hp} {s d s' d':Nat} {p:Addr} {sh:Sh} (a:TrB C w t H t1 H1 s' d' p) (hg:w.reg p=some sh) (hb:bnd s d sh≤t.ns p) (r:Y6 w t s d):Y6 w t1 s d:=fun q sh' hr hn=>by
 by_cases e:q=p
 ·subst e
  rw [hg] at hr
  have:=Option.some.inj hr
  subst this
  have:=a.own
  omega
 ·exact (a.gr q sh' hr e).un (r q sh' hr (Nat.lt_of_le_of_lt (a.gr q sh' hr e).up hn))
theorem TrB.way {C:Cs} {w:Wo} {t t1:Sw} {H H1:Hp} {s d i:Nat} {p y:Addr} {ps:List Sh} (a:TrB C w t H t1 H1 s d p) (hg:w.reg p=some (.row ps)) (hc:w.D y=some (p,i+1)) (hi:t1.ms p i=s) (hs:s<60) (hj:∀ j,i<j→j≤ps.length→t1.ms p j=s+1) (hpa:∀ a,V8 C H1 p i a→s+1≤t1.ns a):TrB C w t H (t1.setm p i (s+1)) (upd H1 y (.lst (Xj (YB w.bk (ps.drop i)) (s+1)))) s d p:=by
 have W:=a.wi.way hg hc (by omega) (fun j h1 h2=>by rw [hi];exact hj j h1 h2) (fun a ha=>by rw [hi];exact hpa a ha)
 rw [hi] at W
 refine ⟨W,fun b o e h=>?_,fun q sh hq n=>?_,a.own,a.u1,a.u2⟩
 ·rw [Yd fun z=>by rw [z,hc] at e;cases e]
  exact a.fr b o e h
 ·have g:=a.gr q sh hq n
  have e:(t1.setm p i (s+1)).ms q=t1.ms q:=by
   funext j
   exact if_neg fun z=>n z.1
  exact ⟨g.up,g.le,fun h=>by rw [e];exact g.no h,fun h j=>by rw [e];exact g.un h j⟩
theorem TrB.to {C:Cs} {w:Wo} {t t1:Sw} {H H1:Hp} {s d:Nat} {p:Addr} {sh:Sh} (a:TrB C w t H t1 H1 s d p) (hg:w.reg p=some sh) (hd:dep sh<d) (hn:t.ns p≤s) (hu:Uni t1 p):Tr C w t H t1 H1 s d:=by
 refine ⟨a.wi,a.fr,fun q sh' hq=>?_,a.u1,a.u2⟩
 by_cases e:q=p
 ·subst e
  rw [hg] at hq
  have:=Option.some.inj hq
  subst this
  have eb:bnd s d sh=s+1:=if_pos hd
  rw [eb]
  have:=a.own
  exact ⟨by omega,by omega,fun z=>by omega,fun _=>hu⟩
 ·exact a.gr q sh' hq e
def kind:Sh→Nat
 | .w _ _=>0
 | .row _=>2
 | .pick _ _=>3
 | .use _=>5
def isF (m:Str):Bool:=(m==("counts":Str))||(m==("low":Str))||(m==("span":Str))||(m==("signs":Str))||(m==("parts":Str))||(m==("table":Str))||(m==("ways":Str))||(m==("marks":Str))||(m==("part":Str))||(m==("named":Str))
theorem Ydx {m:Str} (h:isF m=false):(m==("counts":Str))=false∧(m==("low":Str))=false∧(m==("span":Str))=false∧(m==("signs":Str))=false∧(m==("parts":Str))=false∧(m==("table":Str))=false∧(m==("ways":Str))=false∧(m==("marks":Str))=false∧(m==("part":Str))=false∧(m==("named":Str))=false:=by
 unfold isF at h
 simp only [Bool.or_eq_false_iff] at h
 obtain ⟨⟨⟨⟨⟨⟨⟨⟨⟨a,b⟩,c⟩,d⟩,e⟩,f⟩,g⟩,i⟩,j⟩,k⟩:=h
 exact ⟨a,b,c,d,e,f,g,i,j,k⟩
theorem YC (c:Addr) (fs:List (Str×V)):(mf c fs).lookup ("counts":Str)=some (.ref c):=rfl
theorem Ww {C:Cs} {w:Wo} {t:Sw} {H:Hp} {p c:Addr} {m:Str} (hm:isF m=false):∀ {sh:Sh} {fs:List (Str×V)},Sub C w t H p sh fs→(mf c fs).lookup m=none:=by
 obtain ⟨a1,a2,a3,a4,a5,a6,a7,a8,a9,a10⟩:=Ydx hm
 intro sh fs h
 unfold mf
 rw [List.lookup_cons,a1]
 cases sh with
 | w lo span =>
  have h:fs=_:=h
  subst h
  unfold fW
  rw [List.lookup_cons,a2,List.lookup_cons,a3];rfl
 | row ps =>
  obtain ⟨P,T,dt,L,as,ws,rfl,_⟩:=h
  unfold fR
  rw [List.lookup_cons,a5,List.lookup_cons,a6];rfl
 | pick mk ps =>
  obtain ⟨M,P,as,rfl,_⟩:=h
  unfold fP
  rw [List.lookup_cons,a8,List.lookup_cons,a5];rfl
 | use x =>
  obtain ⟨a,rfl,_⟩:=h
  unfold fU
  rw [List.lookup_cons,a10];rfl
def fu (w:Wo) (s d:Nat):Nat:=5*(s*(w.M+1)+d)
theorem U6 {w:Wo} {s d s' d':Nat} (hd:d'≤w.M) (h:s'<s∨(s'=s∧d'<d)):fu w s' d'+5≤fu w s d:=by
 unfold fu
 rcases h with h | ⟨rfl,h⟩
 ·have:=Nat.mul_le_mul_right (w.M+1) (show s'+1≤s from h)
  rw [Nat.add_mul] at this
  omega
 ·omega
inductive Zq (C:Cs) (k l:Nat) (vs:List V) (H:Hp) (Q:VK) (E_:XK):Prop
 | mk (w:Wo) (t:Sw) (p:Addr) (sh:Sh) (s:Nat) (h0:vs=[.ref p,.int s]) (h1:kind sh=k) (h2:WI C w t H) (h3:w.reg p=some sh) (h4:1≤l) (h5:s≤40) (h6:(s<t.ns p→Q (.int (cnt w.bk sh s)) H)) (h7:(t.ns p≤s→fu w s (dep sh)+5≤l∧Y6 w t s (dep sh+1)∧∀ t' H',Tr C w t H t' H' s (dep sh+1)→t'.ns p=s+1→Q (.int (cnt w.bk sh s)) H'))
def PtC (C:Cs) (t:Sw) (H:Hp) (p:Addr) (sh:Sh) (n:Nat):Prop:=∀ dx c fs as,H p=some (.ins (Vv C sh) dx (mf c fs))→PtF H sh fs as→∀ a∈as,n≤t.ns a+Ycw sh
inductive sp_reck (C:Cs) (k l:Nat) (vs:List V) (H:Hp) (Q:VK) (E_:XK):Prop
 | mk (w:Wo) (t:Sw) (p:Addr) (sh:Sh) (s:Nat) (h0:vs=[.ref p,.int s]) (h1:kind sh=k) (h2:WI C w t H) (h3:w.reg p=some sh) (h4:t.ns p=s) (h5:s≤40) (h6:fu w s (dep sh)+4≤l) (h7:Y6 w t s (dep sh+1)) (h8:∀ t' H',Tr C w t H t' H' s (dep sh+1)→t'.ns p=s→(∀ ps,sh = .row ps→∀ i,s+1≤t'.ms p i)→PtC C t' H' p sh (s+1)→Q (.int (cnt w.bk sh s)) H')
theorem Z04 {C:Cs} {k:Nat} {vs:List V} {H:Hp} {Q:VK} {E:XK} (h:Zq C k 0 vs H Q E):False:=by
 obtain ⟨w,t,p,sh,s,_,_,_,_,h,_⟩:=h
 omega
theorem V9 {C:Cs} {k:Nat} {vs:List V} {H:Hp} {Q:VK} {E:XK} (h:sp_reck C k 0 vs H Q E):False:=by
 obtain ⟨w,t,p,sh,s,_,_,_,_,_,_,h,_⟩:=h
 omega
theorem Tr.own {C:Cs} {w:Wo} {t t':Sw} {H H':Hp} {s d:Nat} (T:Tr C w t H t' H' s d) {p:Addr} {sh:Sh} (hr:w.reg p=some sh) (hd:d≤dep sh) (hs:s≤t.ns p):t'.ns p=t.ns p∧t'.ms p=t.ms p:=by
 have g:=T.gr p sh hr
 have e:bnd s d sh=s:=if_neg (by omega)
 rw [e] at g
 have h1:=g.up
 have h2:=g.le
 exact ⟨by omega,g.no hs⟩
theorem Tr.count {C:Cs} {w:Wo} {t t':Sw} {H H':Hp} {s j:Nat} {sh:Sh} {p c:Addr} (T:Tr C w t H t' H' s (dep sh+1)) (hr:w.reg p=some sh) (hc:w.D c=some (p,0)) (hj:t'.ns p=j) (hjs:j≤s) (hs:s≤40) (hful:∀ ps,sh = .row ps→∀ i,j+1≤t'.ms p i) (hpt:PtC C t' H' p sh (j+1)):Tr C w t H (t'.setn p (j+1)) (upd H' c (.lst (Xj (cnt w.bk sh) (j+1)))) s (dep sh+1):=by
 subst hj
 refine ⟨T.wi.count hr hc (by omega) hful hpt,fun b o e h=>?_,fun q sh' hq=>?_,T.u1,T.u2⟩
 ·rw [Yd fun z=>by rw [z,hc] at e;cases e]
  exact T.fr b o e h
 ·have g:=T.gr q sh' hq
  by_cases e:q=p
  ·subst e
   rw [hr] at hq
   have:=Option.some.inj hq
   subst this
   have eb:bnd s (dep sh+1) sh=s+1:=if_pos (by omega)
   rw [eb] at g ⊢
   have h1:=g.up
   have en:(t'.setn q (t'.ns q+1)).ns q=t'.ns q+1:=if_pos rfl
   exact ⟨by rw [en];omega,by rw [en];omega,fun h=>by omega,g.un⟩
  ·have en:(t'.setn p (t'.ns p+1)).ns q=t'.ns q:=if_neg e
   exact ⟨by rw [en];exact g.up,by rw [en];exact g.le,g.no,g.un⟩
variable {m:Nat}
theorem QR {w:Wo} {s d s':Nat} (h:s'≤s):fu w s' d≤fu w s d:=by
 unfold fu
 have:=Nat.mul_le_mul_right (w.M+1) h
 omega
theorem Z13 {k:Nat} {Z6 Z5 Z1 Z2 Z4 Z3 Z0:Addr} {c_law P_law:Addr} (R:g.RawM Z0 "count_at" "Maker.count_at" Z0f ["self","size"]) (Z2q:g.Me k Z0 "reckoned" ["self","size"] (sp_reck (Cs.mk Z0 Z2 Z4 Z1 Z3) 0 m)) (b_len:g.mg "len"=none) (Z8:Cls g.K Z0) (Z7:Yb g.K Z0 "counts") (Zf:Yb g.K Z0 "low") (Zd:Yb g.K Z0 "span"):g.Me (k+1) Z0 "count_at" ["self","size"] (Zq (Cs.mk Z0 Z2 Z4 Z1 Z3) 0 (m+1)):=by
 refine R.me Z2f (fun vs H Q E h=>by obtain ⟨w,t,p,sh,sz,rfl,hk,W,hg,hl,hs,q1,q2⟩:=h;rfl) fun f_ cdv A outer s H vs Q E hr h=>?_
 obtain ⟨w,t,p,sh,sz,rfl,hk,W,hg,hl,hs,q1,q2⟩:=h
 refine ⟨_,(@Ye _ _ _ _ _ (@XS _ _ _ _ _ _ PassesOwn.never (@Yt _ _ _ _ _ _ _ _ WW (@YI _ _ _ _ _ _ _ _ _ _ b_len YA (@Ya _ _ _ _ _ (@Ys _ _ _ _ _ (pv 0) rfl) Yc (by rfl)) (by decide +kernel) (by rfl) (by rfl) (by decide) (by decide) (by rfl) (by rfl)) (pv 1) (Yv _)) (@Yh _ _ _ (@Y2 _ _ _ _ (@WX _ _ _ _ _ _ _ _ _ _ _ _ PySem.F.plainAttrs_list PySem.F.slot_list_append PySem.F.type_list_append Xn (@Ys _ _ _ _ _ (pv 0) rfl) (@Ya _ _ _ _ _ (@Xu _ _ _ _ _ _ _ _ _ _ _ _ _ _ _ _ Z2q Z8 hr (pv 0) (@Ya _ _ _ _ _ (@YI _ _ _ _ _ _ _ _ _ _ b_len YA (@Ya _ _ _ _ _ (@Ys _ _ _ _ _ (pv 0) rfl) Yc (by rfl)) (by decide +kernel) (by rfl) (by rfl) (by decide) (by decide) (by rfl) (by rfl)) Yc (by rfl)) (by omega) (by rfl) (by rfl) (by rfl) (by rfl)) Yc (by rfl)) (by rfl) (by rfl) (by rfl) (by rfl) (by rfl)) (by rfl)))) (@Yh _ _ _ (@Ym _ _ _ _ (@Yn _ _ _ _ _ _ _ Yw (@Ys _ _ _ _ _ (pv 0) rfl) (pv 1) (fun _ _=>rfl))))),?_⟩
 walk_at "rd"
 have hC:Vv (Cs.mk Z0 Z2 Z4 Z1 Z3) sh=Z0:=by cases sh<;>first | rfl | (simp [kind] at hk)
 by_cases cs:sz<t.ns p
 ·obtain ⟨dx,c,fs,hU,hd,hsm,hns,hp,hDc,hc,hsub⟩:=W.at_ p sh hg
  rw [hC] at hp
  refine Xd (α:=Unit) (fun x σ H'=>σ=[some (.ref p),some (.int sz)]∧H=H') (fun x=>false) (fun x=>0) () ⟨rfl,rfl⟩ ?_ ?_ ?_
  ·rintro x σ H' ⟨rfl,rfl⟩ R r
   walk_at "rd"
   refine ⟨_,_,_,hp,Z8,Z7,_,YC _ _,_,rfl,_,.inl (SqL.of hc),?_⟩
   rw [YG,dle,decide_eq_false (by omega)]
   exact r H ⟨rfl,rfl⟩
  ·rintro x σ H' ⟨rfl,rfl⟩ hd
   cases hd
  ·rintro x σ H' ⟨rfl,rfl⟩ hd
   walk_at "rd"
   exact ⟨_,_,_,hp,Z8,Z7,_,YC _ _,_,rfl,_,SqL.of hc,_,XD _ cs,q1 cs⟩
 ·obtain ⟨hfu,hRd,q⟩:=q2 (by omega)
  refine Xd (α:=Sw) (fun x σ H'=>σ=[some (.ref p),some (.int sz)]∧Tr (Cs.mk Z0 Z2 Z4 Z1 Z3) w t H x H' sz (dep sh+1)∧x.ns p≤sz+1) (fun x=>decide (x.ns p≤sz)) (fun x=>sz+1 - x.ns p) t ⟨rfl,.refl W _ _,by omega⟩ ?_ ?_ ?_
  ·rintro x σ H' ⟨rfl,T,hx⟩ R r
   obtain ⟨dx,c,fs,hU,hd,hsm,hns,hp,hDc,hc,hsub⟩:=T.wi.at_ p sh hg
   rw [hC] at hp
   walk_at "rd"
   refine ⟨_,_,_,hp,Z8,Z7,_,YC _ _,_,rfl,_,.inl (SqL.of hc),?_⟩
   rw [YG,dle]
   exact r H' ⟨rfl,T,hx⟩
  ·rintro x σ H' ⟨rfl,T,hx⟩ hd
   have hd:x.ns p≤sz:=of_decide_eq_true hd
   obtain ⟨dx,c,fs,hU,hd',hsm,hns,hp,hDc,hc,hsub⟩:=T.wi.at_ p sh hg
   rw [hC] at hp
   walk_at "rd"
   refine ⟨_,_,_,hp,Z8,Z7,_,YC _ _,.inl ⟨rfl,_,SqL.of hc⟩,_,_,hp,Ww (by decide +kernel) hsub,_,_,_,hp,Z8,Z7,_,YC _ _,_,rfl,_,.inl (SqL.of hc),?_⟩
   rw [YG]
   have hfl:=QR (w:=w) (d:=dep sh) hd
   have hrd:Y6 w x (x.ns p) (dep sh+1):=(T.ready hRd).mono (by omega)
   refine ⟨w,x,p,sh,x.ns p,rfl,hk,T.wi,hg,rfl,by omega,by omega,hrd,fun t2 H2 T2 e2 hful hpt=>?_⟩
   have T3:=T.trans (T2.mono (by omega))
   obtain ⟨dx2,c2,fs2,hU2,hd2,hsm2,hns2,hp2,hDc2,hc2,hsub2⟩:=T2.wi.at_ p sh hg
   have ec:=T2.wi.inj _ _ _ hDc2 hDc
   subst ec
   rw [e2] at hc2
   have T4:=T3.count hg hDc2 e2 hd hs hful hpt
   refine ⟨_,rfl,_,hc2,by rw [YG];exact few (by omega),t2.setn p (x.ns p+1),?_,?_,?_⟩
   ·rw [← XG];exact T4
   ·show (if p=p then _ else _)≤_
    rw [if_pos rfl];omega
   ·show sz+1 - (if p=p then _ else _)<_
    rw [if_pos rfl];omega
  ·rintro x σ H' ⟨rfl,T,hx⟩ hd
   have hd:¬ x.ns p≤sz:=of_decide_eq_false hd
   obtain ⟨dx,c,fs,hU,hd',hsm,hns,hp,hDc,hc,hsub⟩:=T.wi.at_ p sh hg
   rw [hC] at hp
   walk_at "rd"
   exact ⟨_,_,_,hp,Z8,Z7,_,YC _ _,_,rfl,_,SqL.of hc,_,XD _ (by omega),q x H' T (by omega)⟩
theorem Z1s {k:Nat} {Z6 Z5 Z1 Z2 Z4 Z3 Z0:Addr} {c_law P_law:Addr} (R:g.RawM Z2 "count_at" "Maker.count_at" Z0J ["self","size"]) (Z35:g.Me k Z2 "reckoned" ["self","size"] (sp_reck (Cs.mk Z0 Z2 Z4 Z1 Z3) 2 m)) (b_len:g.mg "len"=none) (Zi:Cls g.K Z2) (Za:Yb g.K Z2 "counts") (Zl:Yb g.K Z2 "parts") (Zj:Yb g.K Z2 "table"):g.Me (k+1) Z2 "count_at" ["self","size"] (Zq (Cs.mk Z0 Z2 Z4 Z1 Z3) 2 (m+1)):=by
 refine R.me Z2J (fun vs H Q E h=>by obtain ⟨w,t,p,sh,sz,rfl,hk,W,hg,hl,hs,q1,q2⟩:=h;rfl) fun f_ cdv A outer s H vs Q E hr h=>?_
 obtain ⟨w,t,p,sh,sz,rfl,hk,W,hg,hl,hs,q1,q2⟩:=h
 refine ⟨_,(@Ye _ _ _ _ _ (@XS _ _ _ _ _ _ PassesOwn.never (@Yt _ _ _ _ _ _ _ _ WW (@YI _ _ _ _ _ _ _ _ _ _ b_len YA (@Ya _ _ _ _ _ (@Ys _ _ _ _ _ (pv 0) rfl) Yc (by rfl)) (by decide +kernel) (by rfl) (by rfl) (by decide) (by decide) (by rfl) (by rfl)) (pv 1) (Yv _)) (@Yh _ _ _ (@Y2 _ _ _ _ (@WX _ _ _ _ _ _ _ _ _ _ _ _ PySem.F.plainAttrs_list PySem.F.slot_list_append PySem.F.type_list_append Xn (@Ys _ _ _ _ _ (pv 0) rfl) (@Ya _ _ _ _ _ (@Xu _ _ _ _ _ _ _ _ _ _ _ _ _ _ _ _ Z35 Zi hr (pv 0) (@Ya _ _ _ _ _ (@YI _ _ _ _ _ _ _ _ _ _ b_len YA (@Ya _ _ _ _ _ (@Ys _ _ _ _ _ (pv 0) rfl) Yc (by rfl)) (by decide +kernel) (by rfl) (by rfl) (by decide) (by decide) (by rfl) (by rfl)) Yc (by rfl)) (by omega) (by rfl) (by rfl) (by rfl) (by rfl)) Yc (by rfl)) (by rfl) (by rfl) (by rfl) (by rfl) (by rfl)) (by rfl)))) (@Yh _ _ _ (@Ym _ _ _ _ (@Yn _ _ _ _ _ _ _ Yw (@Ys _ _ _ _ _ (pv 0) rfl) (pv 1) (fun _ _=>rfl))))),?_⟩
 walk_at "rd"
 have hC:Vv (Cs.mk Z0 Z2 Z4 Z1 Z3) sh=Z2:=by cases sh<;>first | rfl | (simp [kind] at hk)
 by_cases cs:sz<t.ns p
 ·obtain ⟨dx,c,fs,hU,hd,hsm,hns,hp,hDc,hc,hsub⟩:=W.at_ p sh hg
  rw [hC] at hp
  refine Xd (α:=Unit) (fun x σ H'=>σ=[some (.ref p),some (.int sz)]∧H=H') (fun x=>false) (fun x=>0) () ⟨rfl,rfl⟩ ?_ ?_ ?_
  ·rintro x σ H' ⟨rfl,rfl⟩ R r
   walk_at "rd"
   refine ⟨_,_,_,hp,Zi,Za,_,YC _ _,_,rfl,_,.inl (SqL.of hc),?_⟩
   rw [YG,dle,decide_eq_false (by omega)]
   exact r H ⟨rfl,rfl⟩
  ·rintro x σ H' ⟨rfl,rfl⟩ hd
   cases hd
  ·rintro x σ H' ⟨rfl,rfl⟩ hd
   walk_at "rd"
   exact ⟨_,_,_,hp,Zi,Za,_,YC _ _,_,rfl,_,SqL.of hc,_,XD _ cs,q1 cs⟩
 ·obtain ⟨hfu,hRd,q⟩:=q2 (by omega)
  refine Xd (α:=Sw) (fun x σ H'=>σ=[some (.ref p),some (.int sz)]∧Tr (Cs.mk Z0 Z2 Z4 Z1 Z3) w t H x H' sz (dep sh+1)∧x.ns p≤sz+1) (fun x=>decide (x.ns p≤sz)) (fun x=>sz+1 - x.ns p) t ⟨rfl,.refl W _ _,by omega⟩ ?_ ?_ ?_
  ·rintro x σ H' ⟨rfl,T,hx⟩ R r
   obtain ⟨dx,c,fs,hU,hd,hsm,hns,hp,hDc,hc,hsub⟩:=T.wi.at_ p sh hg
   rw [hC] at hp
   walk_at "rd"
   refine ⟨_,_,_,hp,Zi,Za,_,YC _ _,_,rfl,_,.inl (SqL.of hc),?_⟩
   rw [YG,dle]
   exact r H' ⟨rfl,T,hx⟩
  ·rintro x σ H' ⟨rfl,T,hx⟩ hd
   have hd:x.ns p≤sz:=of_decide_eq_true hd
   obtain ⟨dx,c,fs,hU,hd',hsm,hns,hp,hDc,hc,hsub⟩:=T.wi.at_ p sh hg
   rw [hC] at hp
   walk_at "rd"
   refine ⟨_,_,_,hp,Zi,Za,_,YC _ _,.inl ⟨rfl,_,SqL.of hc⟩,_,_,hp,Ww (by decide +kernel) hsub,_,_,_,hp,Zi,Za,_,YC _ _,_,rfl,_,.inl (SqL.of hc),?_⟩
   rw [YG]
   have hfl:=QR (w:=w) (d:=dep sh) hd
   have hrd:Y6 w x (x.ns p) (dep sh+1):=(T.ready hRd).mono (by omega)
   refine ⟨w,x,p,sh,x.ns p,rfl,hk,T.wi,hg,rfl,by omega,by omega,hrd,fun t2 H2 T2 e2 hful hpt=>?_⟩
   have T3:=T.trans (T2.mono (by omega))
   obtain ⟨dx2,c2,fs2,hU2,hd2,hsm2,hns2,hp2,hDc2,hc2,hsub2⟩:=T2.wi.at_ p sh hg
   have ec:=T2.wi.inj _ _ _ hDc2 hDc
   subst ec
   rw [e2] at hc2
   have T4:=T3.count hg hDc2 e2 hd hs hful hpt
   refine ⟨_,rfl,_,hc2,by rw [YG];exact few (by omega),t2.setn p (x.ns p+1),?_,?_,?_⟩
   ·rw [← XG];exact T4
   ·show (if p=p then _ else _)≤_
    rw [if_pos rfl];omega
   ·show sz+1 - (if p=p then _ else _)<_
    rw [if_pos rfl];omega
  ·rintro x σ H' ⟨rfl,T,hx⟩ hd
   have hd:¬ x.ns p≤sz:=of_decide_eq_false hd
   obtain ⟨dx,c,fs,hU,hd',hsm,hns,hp,hDc,hc,hsub⟩:=T.wi.at_ p sh hg
   rw [hC] at hp
   walk_at "rd"
   exact ⟨_,_,_,hp,Zi,Za,_,YC _ _,_,rfl,_,SqL.of hc,_,XD _ (by omega),q x H' T (by omega)⟩
theorem Z1k {k:Nat} {Z6 Z5 Z1 Z2 Z4 Z3 Z0:Addr} {c_law P_law:Addr} (R:g.RawM Z1 "count_at" "Maker.count_at" Z0o ["self","size"]) (Z2M:g.Me k Z1 "reckoned" ["self","size"] (sp_reck (Cs.mk Z0 Z2 Z4 Z1 Z3) 3 m)) (b_len:g.mg "len"=none) (Zc:Cls g.K Z1) (Z9:Yb g.K Z1 "counts") (Zg:Yb g.K Z1 "marks") (Ze:Yb g.K Z1 "parts"):g.Me (k+1) Z1 "count_at" ["self","size"] (Zq (Cs.mk Z0 Z2 Z4 Z1 Z3) 3 (m+1)):=by
 refine R.me Z2p (fun vs H Q E h=>by obtain ⟨w,t,p,sh,sz,rfl,hk,W,hg,hl,hs,q1,q2⟩:=h;rfl) fun f_ cdv A outer s H vs Q E hr h=>?_
 obtain ⟨w,t,p,sh,sz,rfl,hk,W,hg,hl,hs,q1,q2⟩:=h
 refine ⟨_,(@Ye _ _ _ _ _ (@XS _ _ _ _ _ _ PassesOwn.never (@Yt _ _ _ _ _ _ _ _ WW (@YI _ _ _ _ _ _ _ _ _ _ b_len YA (@Ya _ _ _ _ _ (@Ys _ _ _ _ _ (pv 0) rfl) Yc (by rfl)) (by decide +kernel) (by rfl) (by rfl) (by decide) (by decide) (by rfl) (by rfl)) (pv 1) (Yv _)) (@Yh _ _ _ (@Y2 _ _ _ _ (@WX _ _ _ _ _ _ _ _ _ _ _ _ PySem.F.plainAttrs_list PySem.F.slot_list_append PySem.F.type_list_append Xn (@Ys _ _ _ _ _ (pv 0) rfl) (@Ya _ _ _ _ _ (@Xu _ _ _ _ _ _ _ _ _ _ _ _ _ _ _ _ Z2M Zc hr (pv 0) (@Ya _ _ _ _ _ (@YI _ _ _ _ _ _ _ _ _ _ b_len YA (@Ya _ _ _ _ _ (@Ys _ _ _ _ _ (pv 0) rfl) Yc (by rfl)) (by decide +kernel) (by rfl) (by rfl) (by decide) (by decide) (by rfl) (by rfl)) Yc (by rfl)) (by omega) (by rfl) (by rfl) (by rfl) (by rfl)) Yc (by rfl)) (by rfl) (by rfl) (by rfl) (by rfl) (by rfl)) (by rfl)))) (@Yh _ _ _ (@Ym _ _ _ _ (@Yn _ _ _ _ _ _ _ Yw (@Ys _ _ _ _ _ (pv 0) rfl) (pv 1) (fun _ _=>rfl))))),?_⟩
 walk_at "rd"
 have hC:Vv (Cs.mk Z0 Z2 Z4 Z1 Z3) sh=Z1:=by cases sh<;>first | rfl | (simp [kind] at hk)
 by_cases cs:sz<t.ns p
 ·obtain ⟨dx,c,fs,hU,hd,hsm,hns,hp,hDc,hc,hsub⟩:=W.at_ p sh hg
  rw [hC] at hp
  refine Xd (α:=Unit) (fun x σ H'=>σ=[some (.ref p),some (.int sz)]∧H=H') (fun x=>false) (fun x=>0) () ⟨rfl,rfl⟩ ?_ ?_ ?_
  ·rintro x σ H' ⟨rfl,rfl⟩ R r
   walk_at "rd"
   refine ⟨_,_,_,hp,Zc,Z9,_,YC _ _,_,rfl,_,.inl (SqL.of hc),?_⟩
   rw [YG,dle,decide_eq_false (by omega)]
   exact r H ⟨rfl,rfl⟩
  ·rintro x σ H' ⟨rfl,rfl⟩ hd
   cases hd
  ·rintro x σ H' ⟨rfl,rfl⟩ hd
   walk_at "rd"
   exact ⟨_,_,_,hp,Zc,Z9,_,YC _ _,_,rfl,_,SqL.of hc,_,XD _ cs,q1 cs⟩
 ·obtain ⟨hfu,hRd,q⟩:=q2 (by omega)
  refine Xd (α:=Sw) (fun x σ H'=>σ=[some (.ref p),some (.int sz)]∧Tr (Cs.mk Z0 Z2 Z4 Z1 Z3) w t H x H' sz (dep sh+1)∧x.ns p≤sz+1) (fun x=>decide (x.ns p≤sz)) (fun x=>sz+1 - x.ns p) t ⟨rfl,.refl W _ _,by omega⟩ ?_ ?_ ?_
  ·rintro x σ H' ⟨rfl,T,hx⟩ R r
   obtain ⟨dx,c,fs,hU,hd,hsm,hns,hp,hDc,hc,hsub⟩:=T.wi.at_ p sh hg
   rw [hC] at hp
   walk_at "rd"
   refine ⟨_,_,_,hp,Zc,Z9,_,YC _ _,_,rfl,_,.inl (SqL.of hc),?_⟩
   rw [YG,dle]
   exact r H' ⟨rfl,T,hx⟩
  ·rintro x σ H' ⟨rfl,T,hx⟩ hd
   have hd:x.ns p≤sz:=of_decide_eq_true hd
   obtain ⟨dx,c,fs,hU,hd',hsm,hns,hp,hDc,hc,hsub⟩:=T.wi.at_ p sh hg
   rw [hC] at hp
   walk_at "rd"
   refine ⟨_,_,_,hp,Zc,Z9,_,YC _ _,.inl ⟨rfl,_,SqL.of hc⟩,_,_,hp,Ww (by decide +kernel) hsub,_,_,_,hp,Zc,Z9,_,YC _ _,_,rfl,_,.inl (SqL.of hc),?_⟩
   rw [YG]
   have hfl:=QR (w:=w) (d:=dep sh) hd
   have hrd:Y6 w x (x.ns p) (dep sh+1):=(T.ready hRd).mono (by omega)
   refine ⟨w,x,p,sh,x.ns p,rfl,hk,T.wi,hg,rfl,by omega,by omega,hrd,fun t2 H2 T2 e2 hful hpt=>?_⟩
   have T3:=T.trans (T2.mono (by omega))
   obtain ⟨dx2,c2,fs2,hU2,hd2,hsm2,hns2,hp2,hDc2,hc2,hsub2⟩:=T2.wi.at_ p sh hg
   have ec:=T2.wi.inj _ _ _ hDc2 hDc
   subst ec
   rw [e2] at hc2
   have T4:=T3.count hg hDc2 e2 hd hs hful hpt
   refine ⟨_,rfl,_,hc2,by rw [YG];exact few (by omega),t2.setn p (x.ns p+1),?_,?_,?_⟩
   ·rw [← XG];exact T4
   ·show (if p=p then _ else _)≤_
    rw [if_pos rfl];omega
   ·show sz+1 - (if p=p then _ else _)<_
    rw [if_pos rfl];omega
  ·rintro x σ H' ⟨rfl,T,hx⟩ hd
   have hd:¬ x.ns p≤sz:=of_decide_eq_false hd
   obtain ⟨dx,c,fs,hU,hd',hsm,hns,hp,hDc,hc,hsub⟩:=T.wi.at_ p sh hg
   rw [hC] at hp
   walk_at "rd"
   exact ⟨_,_,_,hp,Zc,Z9,_,YC _ _,_,rfl,_,SqL.of hc,_,XD _ (by omega),q x H' T (by omega)⟩
theorem Z1t {k:Nat} {Z6 Z5 Z1 Z2 Z4 Z3 Z0:Addr} {c_law P_law:Addr} (R:g.RawM Z3 "count_at" "Maker.count_at" Z0K ["self","size"]) (Z36:g.Me k Z3 "reckoned" ["self","size"] (sp_reck (Cs.mk Z0 Z2 Z4 Z1 Z3) 5 m)) (b_len:g.mg "len"=none) (Zk:Cls g.K Z3) (Zb:Yb g.K Z3 "counts") (Zh:Yb g.K Z3 "named"):g.Me (k+1) Z3 "count_at" ["self","size"] (Zq (Cs.mk Z0 Z2 Z4 Z1 Z3) 5 (m+1)):=by
 refine R.me Z2K (fun vs H Q E h=>by obtain ⟨w,t,p,sh,sz,rfl,hk,W,hg,hl,hs,q1,q2⟩:=h;rfl) fun f_ cdv A outer s H vs Q E hr h=>?_
 obtain ⟨w,t,p,sh,sz,rfl,hk,W,hg,hl,hs,q1,q2⟩:=h
 refine ⟨_,(@Ye _ _ _ _ _ (@XS _ _ _ _ _ _ PassesOwn.never (@Yt _ _ _ _ _ _ _ _ WW (@YI _ _ _ _ _ _ _ _ _ _ b_len YA (@Ya _ _ _ _ _ (@Ys _ _ _ _ _ (pv 0) rfl) Yc (by rfl)) (by decide +kernel) (by rfl) (by rfl) (by decide) (by decide) (by rfl) (by rfl)) (pv 1) (Yv _)) (@Yh _ _ _ (@Y2 _ _ _ _ (@WX _ _ _ _ _ _ _ _ _ _ _ _ PySem.F.plainAttrs_list PySem.F.slot_list_append PySem.F.type_list_append Xn (@Ys _ _ _ _ _ (pv 0) rfl) (@Ya _ _ _ _ _ (@Xu _ _ _ _ _ _ _ _ _ _ _ _ _ _ _ _ Z36 Zk hr (pv 0) (@Ya _ _ _ _ _ (@YI _ _ _ _ _ _ _ _ _ _ b_len YA (@Ya _ _ _ _ _ (@Ys _ _ _ _ _ (pv 0) rfl) Yc (by rfl)) (by decide +kernel) (by rfl) (by rfl) (by decide) (by decide) (by rfl) (by rfl)) Yc (by rfl)) (by omega) (by rfl) (by rfl) (by rfl) (by rfl)) Yc (by rfl)) (by rfl) (by rfl) (by rfl) (by rfl) (by rfl)) (by rfl)))) (@Yh _ _ _ (@Ym _ _ _ _ (@Yn _ _ _ _ _ _ _ Yw (@Ys _ _ _ _ _ (pv 0) rfl) (pv 1) (fun _ _=>rfl))))),?_⟩
 walk_at "rd"
 have hC:Vv (Cs.mk Z0 Z2 Z4 Z1 Z3) sh=Z3:=by cases sh<;>first | rfl | (simp [kind] at hk)
 by_cases cs:sz<t.ns p
 ·obtain ⟨dx,c,fs,hU,hd,hsm,hns,hp,hDc,hc,hsub⟩:=W.at_ p sh hg
  rw [hC] at hp
  refine Xd (α:=Unit) (fun x σ H'=>σ=[some (.ref p),some (.int sz)]∧H=H') (fun x=>false) (fun x=>0) () ⟨rfl,rfl⟩ ?_ ?_ ?_
  ·rintro x σ H' ⟨rfl,rfl⟩ R r
   walk_at "rd"
   refine ⟨_,_,_,hp,Zk,Zb,_,YC _ _,_,rfl,_,.inl (SqL.of hc),?_⟩
   rw [YG,dle,decide_eq_false (by omega)]
   exact r H ⟨rfl,rfl⟩
  ·rintro x σ H' ⟨rfl,rfl⟩ hd
   cases hd
  ·rintro x σ H' ⟨rfl,rfl⟩ hd
   walk_at "rd"
   exact ⟨_,_,_,hp,Zk,Zb,_,YC _ _,_,rfl,_,SqL.of hc,_,XD _ cs,q1 cs⟩
 ·obtain ⟨hfu,hRd,q⟩:=q2 (by omega)
  refine Xd (α:=Sw) (fun x σ H'=>σ=[some (.ref p),some (.int sz)]∧Tr (Cs.mk Z0 Z2 Z4 Z1 Z3) w t H x H' sz (dep sh+1)∧x.ns p≤sz+1) (fun x=>decide (x.ns p≤sz)) (fun x=>sz+1 - x.ns p) t ⟨rfl,.refl W _ _,by omega⟩ ?_ ?_ ?_
  ·rintro x σ H' ⟨rfl,T,hx⟩ R r
   obtain ⟨dx,c,fs,hU,hd,hsm,hns,hp,hDc,hc,hsub⟩:=T.wi.at_ p sh hg
   rw [hC] at hp
   walk_at "rd"
   refine ⟨_,_,_,hp,Zk,Zb,_,YC _ _,_,rfl,_,.inl (SqL.of hc),?_⟩
   rw [YG,dle]
   exact r H' ⟨rfl,T,hx⟩
  ·rintro x σ H' ⟨rfl,T,hx⟩ hd
   have hd:x.ns p≤sz:=of_decide_eq_true hd
   obtain ⟨dx,c,fs,hU,hd',hsm,hns,hp,hDc,hc,hsub⟩:=T.wi.at_ p sh hg
   rw [hC] at hp
   walk_at "rd"
   refine ⟨_,_,_,hp,Zk,Zb,_,YC _ _,.inl ⟨rfl,_,SqL.of hc⟩,_,_,hp,Ww (by decide +kernel) hsub,_,_,_,hp,Zk,Zb,_,YC _ _,_,rfl,_,.inl (SqL.of hc),?_⟩
   rw [YG]
   have hfl:=QR (w:=w) (d:=dep sh) hd
   have hrd:Y6 w x (x.ns p) (dep sh+1):=(T.ready hRd).mono (by omega)
   refine ⟨w,x,p,sh,x.ns p,rfl,hk,T.wi,hg,rfl,by omega,by omega,hrd,fun t2 H2 T2 e2 hful hpt=>?_⟩
   have T3:=T.trans (T2.mono (by omega))
   obtain ⟨dx2,c2,fs2,hU2,hd2,hsm2,hns2,hp2,hDc2,hc2,hsub2⟩:=T2.wi.at_ p sh hg
   have ec:=T2.wi.inj _ _ _ hDc2 hDc
   subst ec
   rw [e2] at hc2
   have T4:=T3.count hg hDc2 e2 hd hs hful hpt
   refine ⟨_,rfl,_,hc2,by rw [YG];exact few (by omega),t2.setn p (x.ns p+1),?_,?_,?_⟩
   ·rw [← XG];exact T4
   ·show (if p=p then _ else _)≤_
    rw [if_pos rfl];omega
   ·show sz+1 - (if p=p then _ else _)<_
    rw [if_pos rfl];omega
  ·rintro x σ H' ⟨rfl,T,hx⟩ hd
   have hd:¬ x.ns p≤sz:=of_decide_eq_false hd
   obtain ⟨dx,c,fs,hU,hd',hsm,hns,hp,hDc,hc,hsub⟩:=T.wi.at_ p sh hg
   rw [hC] at hp
   walk_at "rd"
   exact ⟨_,_,_,hp,Zk,Zb,_,YC _ _,_,rfl,_,SqL.of hc,_,XD _ (by omega),q x H' T (by omega)⟩
inductive sp_ld (vs:List V) (H:Hp) (Q:VK) (E_:XK):Prop
 | mk (n:Nat) (h0:vs=[.int n]) (h1:n≤100) (h2:Q (.int (1*2^n / 2^1)) H)
theorem Z3y {Z6 Z5 Z1 Z2 Z4 Z3 Z0:Addr} {c_law P_law:Addr} (R:g.Raw "least_distance" "least_distance" Z18 ["size"]):g.Fn (1) "least_distance" ["size"] (sp_ld):=by
 refine R.fn Z3v (fun vs H Q E h=>by obtain ⟨n,rfl,hn,q⟩:=h;rfl) fun f_ cdv A outer s H vs Q E hr h=>?_
 obtain ⟨n,rfl,hn,q⟩:=h
 refine ⟨_,(@Yh _ _ _ (@Ym _ _ _ _ (@Yl _ _ _ _ _ _ _ _ YfY (@Yl _ _ _ _ _ _ _ _ YcX Yf (pv 0)) Yf))),?_⟩
 walk_at "rd"
 exact ⟨⟨by omega,by omega,by decide⟩,by decide,q⟩
theorem Z14 {k:Nat} {Z6 Z5 Z1 Z2 Z4 Z3 Z0:Addr} {c_law P_law:Addr} (R:g.RawM Z0 "reckoned" "WholeMaker.reckoned" Z0c ["self","size"]) (Z1d:g.Fn k "least_distance" ["size"] (sp_ld)) (b_max:g.mg "max"=none) (b_min:g.mg "min"=none) (Z8:Cls g.K Z0) (Z7:Yb g.K Z0 "counts") (Zf:Yb g.K Z0 "low") (Zd:Yb g.K Z0 "span"):g.Me (k+1) Z0 "reckoned" ["self","size"] (sp_reck (Cs.mk Z0 Z2 Z4 Z1 Z3) 0 (m+1)):=by
 refine R.me Z12 (fun vs H Q E h=>by obtain ⟨w,t,p,sh,sz,rfl,hk,W,hg,hn,hs,hf,hR,q⟩:=h;rfl) fun f_ cdv A outer s H vs Q E hr h=>?_
 obtain ⟨w,t,p,sh,sz,rfl,hk,W,hg,hn,hs,hf,hR,q⟩:=h
 refine ⟨_,(@Ye _ _ _ _ _ (@Yq _ _ (2) _ _ _ _ Z12.nd rfl (.inl rfl) (@YI _ _ _ _ _ _ _ _ _ _ b_min (Qo rfl) (@Ya _ _ _ _ _ (@Ys _ _ _ _ _ (pv 0) rfl) (@Ya _ _ _ _ _ (@Yl _ _ _ _ _ _ _ _ Xm (@Yl _ _ _ _ _ _ _ _ YcX Yf (pv 1)) Yf) Yc (by rfl)) (by rfl)) (by decide +kernel) (by rfl) (by rfl) (by decide) (by decide) (by rfl) (by rfl)) (by rfl) (by first | exact .inl rfl | exact .inr rfl | assumption)) (@Yh _ _ _ (@Ym _ _ _ _ (@YI _ _ _ _ _ _ _ _ _ _ b_max (Qn rfl) (@Ya _ _ _ _ _ Yf (@Ya _ _ _ _ _ (@Yl _ _ _ _ _ _ _ _ YQ (@Yl _ _ _ _ _ _ _ _ Xm (pv 2) (@YH _ _ _ _ _ _ _ _ _ _ _ _ Z1d hr (@Ya _ _ _ _ _ (pv 1) Yc (by rfl)) (by omega) (by rfl) (by rfl) (by decide) (by rfl) (by rfl))) Yf) Yc (by rfl)) (by rfl)) (by decide +kernel) (by rfl) (by rfl) (by decide) (by decide) (by rfl) (by rfl))))),?_⟩
 cases sh with
 | w lo span =>
  obtain ⟨dx,c,fs,hU,hd,hsm,hns,hp,hDc,hc,hsub⟩:=W.at_ p _ hg
  have hsub:fs=fW lo span:=hsub
  subst hsub
  walk_at "rd"
  have:=q t H (.refl W _ _) hn (fun ps z=>by cases z) (fun dx c fs as _ h a ha=>by rw [show as=[] from h] at ha;cases ha)
  rw [QQ] at this
  exact ⟨_,_,_,hp,Z8,Zd,_,rfl,⟨by omega,by omega,by decide⟩,_,rfl,sz,rfl,by omega,_,rfl,this⟩
 | _=>simp [kind] at hk
def Blk (H:Hp) (D:Addr) (ps:List (Int×Int)):Prop:=∃ xs:List V,H D=some (.lst xs)∧xs.length=ps.length∧∀ (i:Nat) x p,xs[i]?=some x→ps[i]?=some p→∃ T,x = .ref T∧H T=some (.tup [.int p.1,.int p.2])
inductive Z2N (K:PySem.W.Frag) (vs:List V) (H:Hp) (Q:VK) (E_:XK):Prop
 | mk (D:Addr) (ps:List (Int×Int)) (h0:vs=[.ref D]) (h1:Blk H D ps) (h2:ps.length≤1000) (h3:(∀ p∈ps,sm p.1∧sm p.2)) (h4:∀ H',Yk H H'→Q (.int (ps.map fun p=>p.1*p.2).sum) H')
section
variable {src:List (Option Nat)} {te:TE} {σ:St} {H:Hp} {Q:VK}
theorem Ydy {K:PySem.W.Frag} {tl:TE} {b:Addr} {xs:List V} (ps:List (V×V)) (ys:List V) (ha:∀ R:V→Hp→Prop,R (.ref b) H→tl σ H R) (hS:SqL K H b xs) (hp:∀ (i:Nat) x p,xs[i]?=some x→ps[i]?=some p→∃ T,x = .ref T∧H T=some (.tup [p.1,p.2])) (hl:ps.length=xs.length) (hl2:ys.length=xs.length) (hlen:xs.length≤100000)
  (step:∀ (i:Nat) p y H',ps[i]?=some p→ys[i]?=some y→Yk H H'→∀ R:VK,(∀ H'',Yk H' H''→R y H'')→te (some p.1::some p.2::YD src σ) H' R)
  (fin:∀ D H',H D=none→Yk H H'→H' D=some (.lst ys)→Q (.ref D) H'):tLC (none::none::src) (WA K tl) (W2 K 2 (Xt (Yy 0) (Xt (Yy 1) Vl))) XT te σ H Q:=by
 refine ha _ ⟨b,rfl,⟨xs,hS⟩,fun D hD=>?_⟩
 have h6:100000<sizeLine:=by decide
 refine W0 (X2.imp fun H' (e:Yk H H')=>e.seq hS) (fun i zs σ' H'=>zs=ys.take i∧(∃ o o',σ'=o::o'::YD src σ)∧Yk H H'∧H' D=some (.lst zs)) ⟨by simp,⟨none,none,rfl⟩,.upd_new hD _,Yg⟩ (fun i zs σ' H' p=>⟨p.2.2.1,p.2.2.2⟩) (Ue K 0 1) ?_ ?_
 ·rintro i zs σ' H' x hx ⟨rfl,⟨o,o',rfl⟩,sm,hd⟩
  have hi:=(List.getElem?_eq_some_iff.mp hx).1
  have hy:ys[i]?=some (ys[i]'(by omega)):=List.getElem?_eq_getElem _
  have hpi:ps[i]?=some (ps[i]'(by omega)):=List.getElem?_eq_getElem _
  obtain ⟨T,rfl,hT⟩:=hp i x _ hx hpi
  refine ⟨T,_,rfl,SqT.of (sm _ _ hT),rfl,_,_,rfl,_,_,rfl,rfl,?_⟩
  refine step i _ _ H' hpi hy sm _ fun H'' s2=>⟨s2 _ _ hd,?_,(Xo hy).symm,⟨_,_,rfl⟩,.upd_over hD (sm.trans s2) _,Yg⟩
  rw [List.length_take];omega
 ·rintro zs σ' H' ⟨rfl,_,sm,hd⟩
  rw [← hl2,List.take_length] at hd
  exact fin D H' hD sm hd
end
theorem Ycx {Z6 Z5 Z1 Z2 Z4 Z3 Z0:Addr} {c_law P_law:Addr} (R:g.Raw "ways_of" "ways_of" Z3h ["blocks"]) (b_sum:g.mg "sum"=none):g.Fn (1) "ways_of" ["blocks"] (Z2N g.K):=by
 refine R.fn Ycs (fun vs H Q E h=>by obtain ⟨D,ps,rfl,⟨xs,hD,hxl,hxp⟩,hl,hb,q⟩:=h;rfl) fun f_ cdv A outer s H vs Q E hr h=>?_
 obtain ⟨D,ps,rfl,⟨xs,hD,hxl,hxp⟩,hl,hb,q⟩:=h
 refine ⟨_,(@Yh _ _ _ (@Ym _ _ _ _ (@YI _ _ _ _ _ _ _ _ _ _ b_sum XR (@Ya _ _ _ _ _ (@XF _ _ _ _ _ _ _ ([none,none]) ((["choices","rest"]:List Str)) _ (W2 g.K 2 (Xt (Yy 0) (Xt (Yy 1) Vl))) _ _ (.own (.own .nil)) rfl (@XC _ _ _ _ (pv 0)) (fun cl C s₀ H₀ fp pn=>(@VD _ _ _ _ _ (2) rfl (@Xq _ _ _ _ _ (@Yx _ _ (0) _ (show List.Nodup (["choices","rest"]:List Str) by decide +kernel) rfl (.inl rfl) (.inr rfl)) (@Xq _ _ _ _ _ (@Yx _ _ (1) _ (show List.Nodup (["choices","rest"]:List Str) by decide +kernel) rfl (.inl rfl) (.inr rfl)) W6 (by rfl)) (by rfl)) (by rfl) (by rfl))) (fun cl C s₀ H₀ fp pn=>Xb) (fun cl C s₀ H₀ fp pn=>(@Yl _ _ _ _ _ _ _ _ Xw (pv 0) (pv 1))) (by intro x hx;simp at hx) (by rfl) (by decide) (by decide +kernel) (by intro _;rfl)) Yc (by rfl)) (by decide +kernel) (by rfl) (by rfl) (by decide) (by decide) (by rfl) (by rfl)))),?_⟩
 walk_at "rd"
 refine Ydy (K:=g.K) (b:=D) (xs:=xs) (ps.map fun p=>(V.int p.1,V.int p.2)) (ps.map fun p=>V.int (p.1*p.2)) (fun R r=>by walk_at "rd";exact r) (SqL.of hD) ?_ (by rw [List.length_map];omega) (by rw [List.length_map];omega) (by omega) ?_ ?_
 ·intro i x p hx hp
  rw [List.getElem?_map] at hp
  obtain ⟨p',hp',rfl⟩:=Option.map_eq_some_iff.mp hp
  exact hxp i x p' hx hp'
 ·intro i p y H' hp hy sm R r
  rw [List.getElem?_map] at hp hy
  obtain ⟨p',hp',rfl⟩:=Option.map_eq_some_iff.mp hp
  rw [hp'] at hy
  have:V.int (p'.1*p'.2)=y:=Option.some.inj hy
  subst this
  obtain ⟨⟨n1,b0,b1⟩,⟨n2,b2,b3⟩⟩:=hb p' (List.mem_of_getElem? hp')
  walk_at "rd"
  exact ⟨.inl (cm b1 b3 (by omega)),r H' (.refl _)⟩
 ·intro D' H' hD' sm hd
  refine ⟨D',rfl,ps.map fun p=>p.1*p.2,SqL.of (by rw [hd,List.map_map];rfl),q H' sm⟩
def Tb (C:Cs) (H:Hp) (p T:Addr):Prop:=∃ dx c P,H p=some (.ins C.row dx (mf c (fR P T)))
inductive sp_ways (C:Cs) (l:Nat) (vs:List V) (H:Hp) (Q:VK) (E_:XK):Prop
 | mk (w:Wo) (t:Sw) (p T:Addr) (ps:List Sh) (pl left:Nat) (h0:vs=[.ref T,.int pl,.int left]) (h1:WI C w t H) (h2:w.reg p=some (.row ps)) (h3:Tb C H p T) (h4:pl≤ps.length) (h5:left≤40) (h6:1≤l) (h7:(left<t.ms p ps.length→left<t.ms p pl∧Q (.int (YB w.bk (ps.drop pl) left)) H)) (h8:(t.ms p ps.length≤left→Uni t p∧left≤t.ns p∧fu w left (YO ps+1)+3≤l∧Y6 w t left (YO ps+1)∧∀ t' H',Tr C w t H t' H' left (YO ps+2)→t'.ns p=t.ns p→Uni t' p→left<t'.ms p 0→Q (.int (YB w.bk (ps.drop pl) left)) H'))
inductive sp_add (C:Cs) (l:Nat) (vs:List V) (H:Hp) (Q:VK) (E_:XK):Prop
 | mk (w:Wo) (t:Sw) (p T:Addr) (ps:List Sh) (sz:Nat) (h0:vs=[.ref T,.int sz]) (h1:WI C w t H) (h2:w.reg p=some (.row ps)) (h3:Tb C H p T) (h4:(∀ i,t.ms p i=sz)) (h5:sz≤40) (h6:sz≤t.ns p) (h7:fu w sz (YO ps+1)+2≤l) (h8:Y6 w t sz (YO ps+1)) (h9:∀ t' H',Tr C w t H t' H' sz (YO ps+2)→t'.ns p=t.ns p→(∀ i,t'.ms p i=sz+1)→Q .non H')
inductive Z1u (C:Cs) (l:Nat) (vs:List V) (H:Hp) (Q:VK) (E_:XK):Prop
 | mk (w:Wo) (t:Sw) (p T:Addr) (ps:List Sh) (pl left:Nat) (sh:Sh) (h0:vs=[.ref T,.int pl,.int left]) (h1:WI C w t H) (h2:w.reg p=some (.row ps)) (h3:Tb C H p T) (h4:ps[pl]?=some sh) (h5:left≤40) (h6:left≤t.ns p) (h7:(∀ i,pl<i→left<t.ms p i)) (h8:fu w left (YO ps+1)+1≤l) (h9:Y6 w t left (YO ps+1)) (h10:∀ D t' H',Tr C w t H t' H' left (YO ps+1)→H D=none→¬ t'.U D→Blk H' D ((List.range (left+1)).map fun f=>(cnt w.bk sh f,YB w.bk (ps.drop (pl+1)) (left - f)))→(∀ a,V8 C H p pl a→left<t'.ns a)→Q (.ref D) H')
theorem Ybt {C:Cs} {vs:List V} {H:Hp} {Q:VK} {E:XK} (h:sp_ways C 0 vs H Q E):False:=by
 obtain ⟨w,t,p,T,ps,pl,left,_,_,_,_,_,_,h,_⟩:=h
 omega
theorem Ygd {C:Cs} {vs:List V} {H:Hp} {Q:VK} {E:XK} (h:sp_add C 0 vs H Q E):False:=by
 obtain ⟨w,t,p,T,ps,sz,_,_,_,_,_,_,_,h,_⟩:=h
 omega
theorem Ycy {C:Cs} {vs:List V} {H:Hp} {Q:VK} {E:XK} (h:Z1u C 0 vs H Q E):False:=by
 obtain ⟨w,t,p,T,ps,pl,left,sh,_,_,_,_,_,_,_,_,h,_⟩:=h
 omega
theorem Vw {as bs:List Addr} (h:as.map V.ref=bs.map V.ref):as=bs:=by
 induction as generalizing bs with
 | nil=>cases bs with
  | nil=>rfl
  | cons b bs=>simp at h
 | cons a as ih=>cases bs with
  | nil=>simp at h
  | cons b bs =>
   rw [List.map_cons,List.map_cons] at h
   injection h with h1 h2
   rw [V.ref.inj h1,ih h2]
theorem U7 {c c' P P' T T':Addr} (h:mf c (fR P T)=mf c' (fR P' T')):P=P'∧T=T':=by
 unfold mf fR at h
 injection h with _ h
 injection h with h1 h
 injection h with h2 _
 injection h1 with _ h1
 injection h2 with _ h2
 exact ⟨V.ref.inj h1,V.ref.inj h2⟩
theorem Ydz {C:Cs} {w:Wo} {t:Sw} {H H':Hp} {p a:Addr} {i:Nat} {ps:List Sh} (W:WI C w t H) (hg:w.reg p=some (.row ps)) (fr:Fr w H H') (h:V8 C H' p i a):V8 C H p i a:=by
 obtain ⟨dx,c,fs,hU,hd,hsm,hns,hp,hDc,hc,hsub⟩:=W.at_ p _ hg
 obtain ⟨P,T',dt,L,as,ws,rfl,h2,h3,h4,h5,h6,_⟩:=hsub
 obtain ⟨dx',c',P',T'',bs,e1,e2,e3⟩:=h
 rw [fr _ _ hU.1 hp] at e1
 have e:=Option.some.inj e1
 injection e with _ _ e
 obtain ⟨rfl,_⟩:=U7 e
 rw [fr _ _ h2.1 h5] at e2
 have e:=Option.some.inj e2
 injection e with e
 cases Vw e
 exact ⟨dx,c,P,T',as,hp,h5,e3⟩
theorem Ybu {C:Cs} {w:Wo} {t:Sw} {H:Hp} {p T P dt L a:Addr} {i:Nat} {as:List Addr} {ps:List Sh} (W:WI C w t H) (hg:w.reg p=some (.row ps)) (hTb:Tb C H p T) (hT:H T=some (.ins C.tab dt (X6 P L))) (hP:H P=some (.lst (as.map V.ref))) (h:V8 C H p i a):as[i]?=some a:=by
 obtain ⟨dx,c,fs,hU,hd,hsm,hns,hp,hDc,hc,hsub⟩:=W.at_ p _ hg
 obtain ⟨P1,T1,dt1,L1,as1,ws,rfl,h2,h3,h4,h5,h6,h7,h8,_⟩:=hsub
 obtain ⟨dx2,c2,P2,hp2⟩:=hTb
 rw [hp] at hp2
 have e:=Option.some.inj hp2
 injection e with _ _ e
 obtain ⟨_,rfl⟩:=U7 e
 rw [h8] at hT
 have e:=Option.some.inj hT
 injection e with _ _ e
 unfold X6 at e
 injection e with e _
 injection e with _ e
 cases V.ref.inj e
 obtain ⟨dx',c',P',T'',bs,e1,e2,e3⟩:=h
 rw [hp] at e1
 have e:=Option.some.inj e1
 injection e with _ _ e
 obtain ⟨rfl,_⟩:=U7 e
 rw [hP] at e2
 have e:=Option.some.inj e2
 injection e with e
 cases Vw e
 exact e3
theorem Vc {C:Cs} {w:Wo} {t:Sw} {H:Hp} {p T:Addr} {ps:List Sh} (W:WI C w t H) (hg:w.reg p=some (.row ps)) (hT:Tb C H p T):∃ (P dt L:Addr) (as ws:List Addr),w.D T=none∧w.D P=none∧w.D L=none∧H P=some (.lst (as.map V.ref))∧RegM w t p as ps∧ps.length≤100 ∧
   H T=some (.ins C.tab dt (X6 P L))∧H L=some (.lst (ws.map V.ref))∧ws.length=ps.length+1 ∧
   (∀ (i:Nat) x,ws[i]?=some x→w.D x=some (p,i+1)∧t.ns p≤t.ms p i∧t.ms p i≤60∧H x=some (.lst (Xj (YB w.bk (ps.drop i)) (t.ms p i))))∧(∀ i s,s≤45→sm (YB w.bk (ps.drop i) s))∧dep (.row ps)≤w.M:=by
 obtain ⟨dx,c,fs,hU,hd,hsm,hns,hp,hDc,hc,hsub⟩:=W.at_ p _ hg
 obtain ⟨P,T',dt,L,as,ws,rfl,h2,h3,h4,h5,h6,h7,h8,h9,h10,h11,h12⟩:=hsub
 obtain ⟨dx',c',P',hp'⟩:=hT
 rw [hp] at hp'
 have e:=Option.some.inj hp'
 injection e with e1 e2 e3
 unfold mf fR at e3
 injection e3 with e4 e5
 injection e5 with e6 e7
 injection e7 with e8 e9
 injection e8 with _ e8
 have:=V.ref.inj e8
 subst this
 exact ⟨P,dt,L,as,ws,h3.1,h2.1,h4.1,h5,h6,h7,h8,h9,h10,h11,h12,hd⟩
theorem Tr.tb {C:Cs} {w:Wo} {t t':Sw} {H H':Hp} {s d:Nat} (T:Tr C w t H t' H' s d) {p x:Addr} {sh:Sh} (W:WI C w t H) (hg:w.reg p=some sh) (h:Tb C H p x):Tb C H' p x:=by
 obtain ⟨dx,c,P,h⟩:=h
 obtain ⟨_,_,_,hU,_⟩:=W.at_ p _ hg
 exact ⟨dx,c,P,T.fr _ _ hU.1 h⟩
abbrev cntL (C:Cs) (l:Nat):List (Addr×Sp):=[(C.w,Zq C 0 l),(C.row,Zq C 2 l),(C.pick,Zq C 3 l),(C.use,Zq C 5 l)]
theorem Yen (C:Cs) (l:Nat) (sh:Sh):(Vv C sh,Zq C (kind sh) l)∈cntL C l:=by
 cases sh with
 | w lo span=>exact .head _
 | row ps=>exact .tail _ (.head _)
 | pick mk ps=>exact .tail _ (.tail _ (.head _))
 | use x=>exact .tail _ (.tail _ (.tail _ (.head _)))
theorem Vx {C:Cs} {w:Wo} {t:Sw} {H:Hp} {a:Addr} {sh:Sh} {l sz:Nat} {Q:VK} (W:WI C w t H) (hg:w.reg a=some sh) (hs:sz≤40) (hf:fu w sz (dep sh)+5≤l) (hR:Y6 w t sz (dep sh+1))
  (q:∀ t' H',Tr C w t H t' H' sz (dep sh+1)→sz<t'.ns a→Q (.int (cnt w.bk sh sz)) H'):MeAQ (cntL C l) H a "count_at" fun sp=>sp [.ref a,.int sz] H Q E0:=by
 obtain ⟨dx,c,fs,hU,hd,hsm,hns,hp,hDc,hc,hsub⟩:=W.at_ a sh hg
 exact ⟨_,_,Yen C l sh,dx,_,hp,Ww (by decide +kernel) hsub,w,t,a,sh,sz,rfl,rfl,W,hg,by omega,hs,fun h=>q t H (.refl W _ _) h,fun _=>⟨hf,hR,fun t' H' T e=>q t' H' T (by omega)⟩⟩
theorem Z1l {k:Nat} {Z6 Z5 Z1 Z2 Z4 Z3 Z0:Addr} {c_law P_law:Addr} (R:g.RawM Z4 "blocks_at" "RowTable.blocks_at" Z0k ["self","place","left"]) (Z0U:g.Me k Z4 "ways_at" ["self","place","left"] (sp_ways (Cs.mk Z0 Z2 Z4 Z1 Z3) m)) (Zv:g.Me k Z0 "count_at" ["self","size"] (Zq (Cs.mk Z0 Z2 Z4 Z1 Z3) 0 m)) (ZA:g.Me k Z2 "count_at" ["self","size"] (Zq (Cs.mk Z0 Z2 Z4 Z1 Z3) 2 m)) (Zy:g.Me k Z1 "count_at" ["self","size"] (Zq (Cs.mk Z0 Z2 Z4 Z1 Z3) 3 m)) (ZB:g.Me k Z3 "count_at" ["self","size"] (Zq (Cs.mk Z0 Z2 Z4 Z1 Z3) 5 m)) (Zt:g.mg "range"=none) (Zc:Cls g.K Z1) (Z9:Yb g.K Z1 "counts") (Zg:Yb g.K Z1 "marks") (Ze:Yb g.K Z1 "parts") (Zi:Cls g.K Z2) (Za:Yb g.K Z2 "counts") (Zl:Yb g.K Z2 "parts") (Zj:Yb g.K Z2 "table") (Zn:Cls g.K Z4) (Zo:Yb g.K Z4 "parts") (Zm:Yb g.K Z4 "ways") (Zk:Cls g.K Z3) (Zb:Yb g.K Z3 "counts") (Zh:Yb g.K Z3 "named") (Z8:Cls g.K Z0) (Z7:Yb g.K Z0 "counts") (Zf:Yb g.K Z0 "low") (Zd:Yb g.K Z0 "span"):g.Me (k+1) Z4 "blocks_at" ["self","place","left"] (Z1u (Cs.mk Z0 Z2 Z4 Z1 Z3) (m+1)):=by
 refine R.me Z1i (fun vs H Q E h=>by obtain ⟨w,t,p,T,ps,pl,left,sh,rfl,W,hg,hT,hsh,hl,hln,hms,hf,hR,q⟩:=h;rfl) fun f_ cdv A outer s H vs Q E hr h=>?_
 obtain ⟨w,t,p,T,ps,pl,left,sh,rfl,W,hg,hT,hsh,hl,hln,hms,hf,hR,q⟩:=h
 refine ⟨_,(@Ye _ _ _ _ _ (@Yq _ _ (3) _ _ _ _ Z1i.nd rfl (.inr rfl) (@Yn _ _ _ _ _ _ _ Yw (@Ys _ _ _ _ _ (pv 0) rfl) (pv 1) (fun _ _=>rfl)) (by rfl) (by first | exact .inl rfl | exact .inr rfl | assumption)) (@Yh _ _ _ (@Ym _ _ _ _ (@XF _ _ _ _ _ _ _ ([none,some 3,some 0,some 1,some 2]) ((["first","part","self","place","left"]:List Str)) _ (Yy 0) _ _ (.own (.cap (i:=3) rfl rfl (by first | exact .inl rfl | exact .inr rfl) (.cap (i:=0) rfl rfl (by first | exact .inl rfl | exact .inr rfl) (.cap (i:=1) rfl rfl (by first | exact .inl rfl | exact .inr rfl) (.cap (i:=2) rfl rfl (by first | exact .inl rfl | exact .inr rfl) .nil))))) rfl (@Xk _ _ _ _ _ _ rfl Zt (@Ya _ _ _ _ _ (@Yl _ _ _ _ _ _ _ _ YQ (pv 2) Yf) Yc (by rfl)) (by rfl)) (fun cl C s₀ H₀ fp pn=>(@Yx _ _ (0) _ (show List.Nodup (["first","part","self","place","left"]:List Str) by decide +kernel) rfl (.inl rfl) (.inr rfl))) (fun cl C s₀ H₀ fp pn=>Xb) (fun cl C s₀ H₀ fp pn=>(@Xi _ _ _ _ _ (@Ya _ _ _ _ _ (@X5 _ _ _ _ _ _ _ _ _ _ _ _ _ _ _ (Yo Zv Z8 (Yo ZA Zi (Yo Zy Zc (Yo ZB Zk XN)))) hr (pv 1) (@Ya _ _ _ _ _ (pv 0) Yc (by rfl)) (by omega) (by rfl) (by rfl) (by rfl) (by rfl)) (@Ya _ _ _ _ _ (@Xu _ _ _ _ _ _ _ _ _ _ _ _ _ _ _ _ Z0U Zn hr (pv 2) (@Ya _ _ _ _ _ (@Yl _ _ _ _ _ _ _ _ YQ (pv 3) Yf) (@Ya _ _ _ _ _ (@Yl _ _ _ _ _ _ _ _ Xm (pv 4) (pv 0)) Yc (by rfl)) (by rfl)) (by omega) (by rfl) (by rfl) (by rfl) (by rfl)) Yc (by rfl)) (by rfl)))) (by intro x hx;simp at hx;first | (subst hx;exact .inl rfl) | (rcases hx with rfl | rfl<;>exact .inl rfl) | (rcases hx with rfl | rfl | rfl<;>exact .inl rfl) | (rcases hx with rfl | rfl | rfl | rfl<;>exact .inl rfl) | (rcases hx with rfl | rfl | rfl | rfl | rfl<;>exact .inl rfl)) (by rfl) (by decide) (by decide +kernel) (by intro _;rfl))))),?_⟩
 walk_at "rd"
 obtain ⟨P,dt,L,as,ws,dT,dP,dL,hP,hra,hpl,hTT,hLL,hwl,hws,hsm,hdp⟩:=Vc W hg hT
 have hpi:=(List.getElem?_eq_some_iff.mp hsh).1
 have hal:=hra.1
 have hai:as[pl]?=some (as[pl]'(by omega)):=List.getElem?_eq_getElem _
 generalize as[pl]'(by omega)=a at hai
 have hga:=hra.2 pl a sh hai hsh
 have hds:dep sh≤YO ps:=Wi (List.mem_of_getElem? hsh)
 have hdr:dep (.row ps)=YO ps+1:=by rw [dep]
 refine ⟨_,_,_,hTT,Zn,Zo,_,rfl,P,rfl,_,SqL.of hP,.ref a,Yu (by rw [List.getElem?_map,hai];rfl),?_⟩
 refine Uz (n:=left+1) (fun D i zs H'=>∃ t',Tr (Cs.mk Z0 Z2 Z4 Z1 Z3) w t H t' H' left (YO ps+1)∧i≤t'.ns a∧zs.length=i∧H' D=some (.lst zs)∧¬ t'.U D∧∀ (j:Nat) x,zs[j]?=some x→∃ T,x = .ref T∧w.D T=none∧¬ t'.U T∧T≠D∧H' T=some (.tup [.int (cnt w.bk sh j),.int (YB w.bk (ps.drop (pl+1)) (left - j))])) (fun R r=>by walk_at "rd";exact r) (by omega) ?_ ?_ ?_ ?_
 ·intro D hD
  exact ⟨t,(Tr.refl W _ _).put hD (W.new hD).2 _,Nat.zero_le _,rfl,Yg,(W.new hD).2,fun j x hx=>by simp at hx⟩
 ·rintro D i zs H' ⟨t',_,_,h1,h2,_⟩
  exact ⟨h1,h2⟩
 ·rintro D i zs H' hD hi ⟨t',T1,hna,hz,hd,hUD,hts⟩ R r
  have fm:fu w i (dep sh)+5≤fu w left (YO ps+1):=U6 (by omega) (by omega)
  have dD:w.D D=none:=(W.new hD).1
  walk_at "rd"
  refine Vx T1.wi hga (by omega) (by omega) ((T1.ready hR).mono (by omega)) fun t2 H2 T2 hn2=>?_
  have T12:=T1.trans (T2.mono (by omega))
  have own:=T12.own hg (by omega) hln
  have hd2:=T2.fr _ _ dD hd
  have hUD2:=T2.ours hUD hd
  refine ⟨_,_,T12.fr _ _ dT hTT,rfl,w,t2,p,T,ps,pl+1,left - i,by rw [show (left:Int) - (i:Int)=((left - i:Nat):Int) by omega];rfl,T2.wi,hg,T12.tb W hg hT,by omega,by omega,by omega,fun _=>⟨?_,few (by decide),fun X gX=>?_⟩,fun h=>?_⟩
  ·rw [own.2]
   have:=hms (pl+1) (by omega)
   omega
  ·have nXD:X≠D:=Ne.symm (Yj hd2 gX)
   have sX:=Yk.upd_new gX (.tup [.int (cnt w.bk sh i),.int (YB w.bk (ps.drop (pl+1)) (left - i))])
   refine r _ _ (sX _ _ hd2) ⟨t2,(T12.same sX).put hD hUD2 _,hn2,by rw [List.length_append,hz];rfl,Yg,hUD2,fun j x hx=>?_⟩
   by_cases c:j<zs.length
   ·rw [List.getElem?_append_left c] at hx
    obtain ⟨Y,rfl,y1,y2,y3,y4⟩:=hts j x hx
    exact ⟨Y,rfl,y1,T2.ours y2 y4,y3,by rw [Yd y3];exact sX _ _ (T2.fr _ _ y1 y4)⟩
   ·have hj:j=zs.length:=by
     have:=(List.getElem?_eq_some_iff.mp hx).1
     rw [List.length_append,List.length_singleton] at this
     omega
    subst hj
    rw [List.getElem?_append_right (Nat.le_refl _),Nat.sub_self] at hx
    have:V.ref X=x:=Option.some.inj hx
    subst this
    exact ⟨X,rfl,(T2.wi.new gX).1,(T2.wi.new gX).2,nXD,by rw [Yd nXD,Yg,hz]⟩
  ·have:=hms ps.length (by omega)
   rw [own.2] at h
   omega
 ·rintro D zs H' hD ⟨t',T1,hna,hz,hd,hUD,hts⟩
  refine q D t' H' T1 hD hUD ⟨zs,hd,by rw [hz,List.length_map,List.length_range],fun j x y hx hy=>?_⟩ fun a' ha'=>?_
  rotate_left
  ·have:=Ybu W hg hT hTT hP ha'
   rw [hai] at this
   cases Option.some.inj this
   exact hna
  obtain ⟨X,rfl,_,_,_,hX⟩:=hts j x hx
  have hj:=(List.getElem?_eq_some_iff.mp hx).1
  rw [List.getElem?_map,List.getElem?_range (by omega)] at hy
  have:=Option.some.inj hy
  subst this
  exact ⟨X,rfl,hX⟩
theorem Ye0 {xs:List V} {n:Nat} {x:V} (hl:xs.length=n+1) (h:xs[n]?=some x):atI xs (-1)=some x:=by
 have e:xs=xs.take n++[x]:=by rw [← Xo h,List.take_of_length_le (by omega)]
 rw [e]
 exact Yd1 _ _
theorem Xz (P L:Addr):(X6 P L).lookup ("ways":Str)=some (.ref L):=by
 unfold X6
 rw [List.lookup_cons,show (("ways":Str)==("parts":Str))=false by decide +kernel,List.lookup_cons,show (("ways":Str)==("ways":Str))=true by decide +kernel]
theorem U8 (P L:Addr) {m:Str} (hm:isF m=false):(X6 P L).lookup m=none:=by
 obtain ⟨a1,a2,a3,a4,a5,a6,a7,a8,a9,a10⟩:=Ydx hm
 unfold X6
 rw [List.lookup_cons,a5,List.lookup_cons,a7];rfl
theorem Ycz {g:TG} {tb:TS} {D:Ends} {σ:St} {H:Hp} {ta:TA} {n:Nat} (Pv:Nat→St→Hp→Prop) (ha:∀ R:List V→Hp→Prop,R [.int ((n:Int) - 1),.int (-1),.int (-1)] H→ta σ H R) (hn:n<2^62) (h0:Pv 0 σ H)
  (hs:∀ i σ H,i<n→Pv i σ H→g (.int ((n - 1 - i:Nat):Int)) σ H fun σ2 H2=>tb { D with nx:=Pv (i+1),ct:=Pv (i+1),bk:=D.nx } σ2 H2) (hd:∀ σ H,Pv n σ H→D.nx σ H):Ui (YeU ta) g tb D σ H:=by
 refine ha _ ⟨(n:Int) - 1,-1,rfl,⟨by omega,by omega,by omega,by omega⟩,?_⟩
 have e:((n:Int) - 1 - (-1)).toNat=n:=by omega
 rw [e]
 refine ⟨fun i m σ H=>m=n - i∧i≤n∧Pv i σ H,⟨n,by simp,Nat.zero_le _,h0⟩,?_⟩
 rintro i m σ H ⟨rfl,hi,p⟩
 by_cases hlt:i<n
 ·refine .inr ⟨hlt,Pv (i+1),fun σ' H' p'=>⟨n - (i+1),by omega,rfl,hlt,p'⟩,fun x H' y=>?_⟩
  obtain ⟨e,y⟩:=y
  subst e y
  have:=hs i σ _ hlt p
  have e2:((n - 1 - i:Nat):Int)=(n:Int) - 1 - i:=by omega
  rw [e2] at this
  exact this
 ·have e:i=n:=by omega
  subst e
  exact .inl ⟨Nat.le_refl _,hd σ H p⟩
theorem Z1v {k:Nat} {Z6 Z5 Z1 Z2 Z4 Z3 Z0:Addr} {c_law P_law:Addr} (R:g.RawM Z4 "add_size" "RowTable.add_size" Z0C ["self","size"]) (Z3m:g.Fn k "ways_of" ["blocks"] (Z2N g.K)) (Z0p:g.Me k Z4 "blocks_at" ["self","place","left"] (Z1u (Cs.mk Z0 Z2 Z4 Z1 Z3) m)) (b_len:g.mg "len"=none) (Zt:g.mg "range"=none) (Zn:Cls g.K Z4) (Zo:Yb g.K Z4 "parts") (Zm:Yb g.K Z4 "ways"):g.Me (k+1) Z4 "add_size" ["self","size"] (sp_add (Cs.mk Z0 Z2 Z4 Z1 Z3) (m+1)):=by
 refine R.me Z1r (fun vs H Q E h=>by obtain ⟨w,t,p,T,ps,sz,rfl,W,hg,hT,hms,hs,hsn,hf,hR,q⟩:=h;rfl) fun f_ cdv A outer s H vs Q E hr h=>?_
 obtain ⟨w,t,p,T,ps,sz,rfl,W,hg,hT,hms,hs,hsn,hf,hR,q⟩:=h
 refine ⟨_,(@Ye _ _ _ _ _ (@Y2 _ _ _ _ (@WX _ _ _ _ _ _ _ _ _ _ _ _ PySem.F.plainAttrs_list PySem.F.slot_list_append PySem.F.type_list_append Xn (@Yn _ _ _ _ _ _ _ Yw (@Ys _ _ _ _ _ (pv 0) rfl) (@Uu _ _ _ _ _ _ VF Yf) (fun _ _=>rfl)) (@Ya _ _ _ _ _ (@QX _ _ _ _ _ _ _ _ (@Yt _ _ _ _ _ _ _ _ Xa (pv 1) Yf (Yv _)) Yf Yf) Yc (by rfl)) (by rfl) (by rfl) (by rfl) (by rfl) (by rfl)) (by rfl)) (@Yh _ _ _ (@XO _ _ _ _ _ _ _ _ PassesOwn.never rfl (@Yde _ _ _ _ _ _ _ _ rfl Zt (@Ya _ _ _ _ _ (@Yl _ _ _ _ _ _ _ _ Xm (@YI _ _ _ _ _ _ _ _ _ _ b_len YA (@Ya _ _ _ _ _ (@Ys _ _ _ _ _ (pv 0) rfl) Yc (by rfl)) (by decide +kernel) (by rfl) (by rfl) (by decide) (by decide) (by rfl) (by rfl)) Yf) (@Ya _ _ _ _ _ (@Uu _ _ _ _ _ _ VF Yf) (@Ya _ _ _ _ _ (@Uu _ _ _ _ _ _ VF Yf) Yc (by rfl)) (by rfl)) (by rfl)) (by rfl) (by rfl)) (@Yx _ _ (2) _ Z1r.nd rfl (.inl rfl) (by first | exact .inl rfl | exact .inr rfl | assumption)) (@Yh _ _ _ (@Y2 _ _ _ _ (@WX _ _ _ _ _ _ _ _ _ _ _ _ PySem.F.plainAttrs_list PySem.F.slot_list_append PySem.F.type_list_append Xn (@Yn _ _ _ _ _ _ _ Yw (@Ys _ _ _ _ _ (pv 0) rfl) (pv 2) (fun _ _=>rfl)) (@Ya _ _ _ _ _ (@YH _ _ _ _ _ _ _ _ _ _ _ _ Z3m hr (@Ya _ _ _ _ _ (@Xu _ _ _ _ _ _ _ _ _ _ _ _ _ _ _ _ Z0p Zn hr (pv 0) (@Ya _ _ _ _ _ (pv 2) (@Ya _ _ _ _ _ (pv 1) Yc (by rfl)) (by rfl)) (by omega) (by rfl) (by rfl) (by rfl) (by rfl)) Yc (by rfl)) (by omega) (by rfl) (by rfl) (by decide) (by rfl) (by rfl)) Yc (by rfl)) (by rfl) (by rfl) (by rfl) (by rfl) (by rfl)) (by rfl))) (by intro _;rfl)))),?_⟩
 obtain ⟨P,dt,L,as,ws,dT,dP,dL,hP,hra,hpl,hTT,hLL,hwl,hws,hsm,hdp⟩:=Vc W hg hT
 have hwk:ws[ps.length]?=some (ws[ps.length]'(by omega)):=List.getElem?_eq_getElem _
 generalize ws[ps.length]'(by omega)=y at hwk
 obtain ⟨hDy,hny,hm60,hy⟩:=hws ps.length y hwk
 have hnn:t.ns p=sz:=by have:=hms ps.length;omega
 rw [hms] at hy
 have e0:YB w.bk (ps.drop ps.length) sz=if sz=0 then 1 else 0:=by rw [List.drop_length,XV]
 have hdr:dep (.row ps)=YO ps+1:=by rw [dep]
 have hbr:bnd sz (YO ps+1) (.row ps)≤t.ns p:=by rw [bnd,if_neg (by omega)];omega
 refine cut1 (fun σ H'=>σ=[some (.ref T),some (.int sz),none]∧H'=upd H y (.lst (Xj (YB w.bk (ps.drop ps.length)) (sz+1)))) ?_ (fun N hN=>?_)
 rotate_left
 ·walk_at "rd"
  refine ⟨_,_,_,hTT,Zn,Zm,_,Xz _ _,L,rfl,_,SqL.of hLL,.ref y,Ye0 (n:=ps.length) (by rw [List.length_map,hwl]) (by rw [List.getElem?_map,hwk];rfl),.inl ⟨rfl,_,SqL.of hy⟩,UV (fun c=>?_) (fun c=>?_)⟩
  ·refine ⟨y,rfl,_,hy,by rw [YG];exact few (by omega),hN _ _ ⟨rfl,?_⟩⟩
   rw [XG,e0,if_pos (by omega)]
  ·refine ⟨y,rfl,_,hy,by rw [YG];exact few (by omega),hN _ _ ⟨rfl,?_⟩⟩
   rw [XG,e0,if_neg (by omega)]
 rintro σ H1 ⟨rfl,rfl⟩
 have T0:TrB (Cs.mk Z0 Z2 Z4 Z1 Z3) w t H t H sz (YO ps+2) p:=(Tr.refl W _ _).b rfl
 have T1:=T0.way hg hDy (hms _) (by omega) (fun j h1 h2=>by omega) (fun a ha=>by
  have h1:=(List.getElem?_eq_some_iff.mp (Ybu W hg hT hTT hP ha)).1
  have h2:=hra.1
  omega)
 walk_at "rd"
 refine Ycz (n:=ps.length) (fun i σ H'=>∃ (t':Sw) (o:Option V),σ=[some (.ref T),some (.int sz),o]∧TrB (Cs.mk Z0 Z2 Z4 Z1 Z3) w t H t' H' sz (YO ps+2) p∧(∀ j,ps.length - i≤j→t'.ms p j=sz+1)∧∀ j,j<ps.length - i→t'.ms p j=sz) (fun R r=>?_) (by omega) ⟨_,none,rfl,T1,fun j hj=>if_pos ⟨rfl,hj⟩,fun j hj=>(if_neg (fun z=>by omega)).trans (hms j)⟩ ?_ ?_
 ·walk_at "rd"
  refine ⟨_,_,_,T1.fr _ _ dT hTT,Zn,Zo,_,rfl,P,rfl,_,.inl (SqL.of (T1.fr _ _ dP hP)),?_⟩
  rw [List.length_map,hra.1]
  exact r
 ·rintro i σ H' hi ⟨t',o,rfl,T2,hge,hlt⟩
  obtain ⟨pl,hplq⟩:∃ pl,pl=ps.length - 1 - i:=⟨_,rfl⟩
  rw [← hplq]
  have hsh:ps[pl]?=some (ps[pl]'(by omega)):=List.getElem?_eq_getElem _
  generalize ps[pl]'(by omega)=sh at hsh
  have hwp:ws[pl]?=some (ws[pl]'(by omega)):=List.getElem?_eq_getElem _
  generalize ws[pl]'(by omega)=yy at hwp
  obtain ⟨hDyy,_,_,_⟩:=hws pl yy hwp
  have hT':Tb (Cs.mk Z0 Z2 Z4 Z1 Z3) H' p T:=by
   obtain ⟨dx,c,P',h⟩:=hT
   obtain ⟨_,_,_,hU,_⟩:=W.at_ p _ hg
   exact ⟨dx,c,P',T2.fr _ _ hU.1 h⟩
  obtain ⟨P2,dt2,L2,as2,ws2,_,_,_,_,_,_,_,_,hwl2,hws2,_,_⟩:=Vc T2.wi hg hT'
  have hwp2:ws2[pl]?=some (ws2[pl]'(by omega)):=List.getElem?_eq_getElem _
  obtain ⟨hD2,_,_,hy2⟩:=hws2 pl _ hwp2
  rw [T2.wi.inj _ _ _ hD2 hDyy] at hy2
  walk_at "rd"
  refine ⟨_,_,_,T2.fr _ _ dT hTT,Zn,Zm,_,Xz _ _,L,rfl,_,SqL.of (T2.fr _ _ dL hLL),.ref yy,Yu (by rw [List.getElem?_map,hwp];rfl),.inl ⟨rfl,_,SqL.of hy2⟩,_,_,T2.fr _ _ dT hTT,U8 _ _ (by decide +kernel),?_⟩
  refine ⟨w,t',p,T,ps,pl,sz,sh,rfl,T2.wi,hg,hT',hsh,hs,by rw [T2.own];exact hsn,fun j hj=>by rw [hge j (by omega)];omega,by omega,T2.ready hg hbr hR,fun D t3 H3 T3 gD hUD hB hpc=>?_⟩
  have own:=T3.own hg (by omega) (by rw [T2.own];exact hsn)
  have hlen:((List.range (sz+1)).map fun f=>(cnt w.bk sh f,YB w.bk (ps.drop (pl+1)) (sz - f))).length=sz+1:=by simp
  refine ⟨D,_,rfl,hB,by rw [hlen];omega,fun x hx=>?_,fun H4 s4=>?_⟩
  ·obtain ⟨f,hf',rfl⟩:=List.mem_map.mp hx
   have hf':=List.mem_range.mp hf'
   have hga:∃ a,w.reg a=some sh:=by
    have hai:as[pl]?=some (as[pl]'(by have:=hra.1;omega)):=List.getElem?_eq_getElem _
    exact ⟨_,hra.2 pl _ sh hai hsh⟩
   obtain ⟨a,hga⟩:=hga
   obtain ⟨_,_,_,_,_,hsma,_⟩:=W.at_ a sh hga
   exact ⟨hsma f (by omega),hsm _ _ (by omega)⟩
  have T4:=(T2.trans ((T3.mono (by omega)).b own.1)).same s4
  have T5:=T4.way (i:=pl) hg hDyy (by rw [own.2];exact hlt pl (by omega)) (by omega) (fun j h1 h2=>by rw [own.2];exact hge j (by omega)) (fun a ha=>hpc a (Ydz T2.wi hg (fun b o e h=>s4 _ _ (T3.fr b o e h)) ha))
  obtain ⟨P4,dt4,L4,as4,ws4,_,_,_,_,_,_,_,_,hwl4,hws4,_,_⟩:=Vc T3.wi hg (T3.tb T2.wi hg hT')
  have hwp4:ws4[pl]?=some (ws4[pl]'(by omega)):=List.getElem?_eq_getElem _
  obtain ⟨hD4,_,_,hy4⟩:=hws4 pl _ hwp4
  rw [T3.wi.inj _ _ _ hD4 hDyy,own.2,hlt pl (by omega)] at hy4
  have hy4:=s4 _ _ hy4
  refine ⟨yy,rfl,_,hy4,by rw [YG];exact few (by omega),t3.setm p pl (sz+1),?_,fun j hj=>?_,fun j hj=>?_⟩
  ·have esum:(((List.range (sz+1)).map fun f=>(cnt w.bk sh f,YB w.bk (ps.drop (pl+1)) (sz - f))).map fun p=>p.1*p.2).sum=YB w.bk (ps.drop pl) sz:=by
    rw [List.drop_eq_getElem_cons (by omega:pl<ps.length),Wu,List.map_map]
    have:ps[pl]'(by omega)=sh:=by
     have:=List.getElem?_eq_getElem (l:=ps) (i:=pl) (by omega)
     rw [this] at hsh
     exact Option.some.inj hsh
    rw [this]
    rfl
   rw [esum,← XG]
   exact T5
  ·show (if p=p∧pl≤j then _ else _)=_
   rw [if_pos ⟨rfl,by omega⟩]
  ·show (if p=p∧pl≤j then _ else _)=_
   rw [if_neg (by omega),own.2]
   exact hlt j (by omega)
 ·rintro σ H' ⟨t',o,rfl,T2,hge,hlt⟩
  walk_at "rd"
  have hall:∀ i,t'.ms p i=sz+1:=fun i=>hge i (by omega)
  exact q t' H' (T2.to hg (by omega) (by omega) (fun i=>by rw [hall,hall])) T2.own hall
theorem Z1E {k:Nat} {Z6 Z5 Z1 Z2 Z4 Z3 Z0:Addr} {c_law P_law:Addr} (R:g.RawM Z4 "ways_at" "RowTable.ways_at" Z0T ["self","place","left"]) (Z37:g.Me k Z4 "add_size" ["self","size"] (sp_add (Cs.mk Z0 Z2 Z4 Z1 Z3) m)) (b_len:g.mg "len"=none) (Zn:Cls g.K Z4) (Zo:Yb g.K Z4 "parts") (Zm:Yb g.K Z4 "ways"):g.Me (k+1) Z4 "ways_at" ["self","place","left"] (sp_ways (Cs.mk Z0 Z2 Z4 Z1 Z3) (m+1)):=by
 refine R.me Z34 (fun vs H Q E h=>by obtain ⟨w,t,p,T,ps,pl,left,rfl,W,hg,hT,hpl,hl,hm1,q1,q2⟩:=h;rfl) fun f_ cdv A outer s H vs Q E hr h=>?_
 obtain ⟨w,t,p,T,ps,pl,left,rfl,W,hg,hT,hpl,hl,hm1,q1,q2⟩:=h
 refine ⟨_,(@Ye _ _ _ _ _ (@XS _ _ _ _ _ _ PassesOwn.never (@Yt _ _ _ _ _ _ _ _ WW (@YI _ _ _ _ _ _ _ _ _ _ b_len YA (@Ya _ _ _ _ _ (@Yn _ _ _ _ _ _ _ Yw (@Ys _ _ _ _ _ (pv 0) rfl) (@Uu _ _ _ _ _ _ VF Yf) (fun _ _=>rfl)) Yc (by rfl)) (by decide +kernel) (by rfl) (by rfl) (by decide) (by decide) (by rfl) (by rfl)) (pv 2) (Yv _)) (@Yh _ _ _ (@Y2 _ _ _ _ (@Xu _ _ _ _ _ _ _ _ _ _ _ _ _ _ _ _ Z37 Zn hr (pv 0) (@Ya _ _ _ _ _ (@YI _ _ _ _ _ _ _ _ _ _ b_len YA (@Ya _ _ _ _ _ (@Yn _ _ _ _ _ _ _ Yw (@Ys _ _ _ _ _ (pv 0) rfl) (@Uu _ _ _ _ _ _ VF Yf) (fun _ _=>rfl)) Yc (by rfl)) (by decide +kernel) (by rfl) (by rfl) (by decide) (by decide) (by rfl) (by rfl)) Yc (by rfl)) (by omega) (by rfl) (by rfl) (by rfl) (by rfl)) (by rfl)))) (@Yh _ _ _ (@Ym _ _ _ _ (@Yn _ _ _ _ _ _ _ Yw (@Yn _ _ _ _ _ _ _ Yw (@Ys _ _ _ _ _ (pv 0) rfl) (pv 1) (fun _ _=>rfl)) (pv 2) (fun _ _=>rfl))))),?_⟩
 obtain ⟨P,dt,L,as,ws,dT,dP,dL,hP,hra,hpl',hTT,hLL,hwl,hws,hsm,hdp⟩:=Vc W hg hT
 have hwk:ws[ps.length]?=some (ws[ps.length]'(by omega)):=List.getElem?_eq_getElem _
 generalize ws[ps.length]'(by omega)=y at hwk
 obtain ⟨hDy,hny,hm60,hy⟩:=hws ps.length y hwk
 have hwp:ws[pl]?=some (ws[pl]'(by omega)):=List.getElem?_eq_getElem _
 generalize ws[pl]'(by omega)=yp at hwp
 obtain ⟨hDp,hnp,hmp,hyp⟩:=hws pl yp hwp
 have hm1':atI (ws.map V.ref) (-1)=some (.ref y):=Ye0 (n:=ps.length) (by rw [List.length_map,hwl]) (by rw [List.getElem?_map,hwk];rfl)
 have hmp':atI (ws.map V.ref) (pl:Int)=some (.ref yp):=Yu (by rw [List.getElem?_map,hwp];rfl)
 walk_at "rd"
 by_cases cs:left<t.ms p ps.length
 ·refine Xd (α:=Unit) (fun x σ H'=>σ=[some (.ref T),some (.int pl),some (.int left)]∧H=H') (fun x=>false) (fun x=>0) () ⟨rfl,rfl⟩ ?_ ?_ ?_
  ·rintro x σ H' ⟨rfl,rfl⟩ R r
   walk_at "rd"
   refine ⟨_,_,_,hTT,Zn,Zm,_,Xz _ _,L,rfl,_,SqL.of hLL,_,hm1',y,rfl,_,.inl (SqL.of hy),?_⟩
   rw [YG,dle,decide_eq_false (by omega)]
   exact r H ⟨rfl,rfl⟩
  ·rintro x σ H' ⟨rfl,rfl⟩ hd
   cases hd
  ·rintro x σ H' ⟨rfl,rfl⟩ hd
   walk_at "rd"
   exact ⟨_,_,_,hTT,Zn,Zm,_,Xz _ _,L,rfl,_,SqL.of hLL,_,hmp',yp,rfl,_,SqL.of hyp,_,XD _ (q1 cs).1,(q1 cs).2⟩
 ·obtain ⟨hU,hln,hf,hR,q⟩:=q2 (by omega)
  have hms:∀ i,t.ms p i=left:=fun i=>by have:=hU i;have:=hU ps.length;omega
  have T0:∀ (x:Sw) (H':Hp),Tr (Cs.mk Z0 Z2 Z4 Z1 Z3) w t H x H' left (YO ps+2)→(∀ i,x.ms p i=left+1)→H' y=some (.lst (Xj (YB w.bk (ps.drop ps.length)) (left+1)))∧H' yp=some (.lst (Xj (YB w.bk (ps.drop pl)) (left+1))):=fun x H' T1 hx=>by
   obtain ⟨P2,dt2,L2,as2,ws2,_,_,_,_,_,_,_,_,hwl2,hws2,_,_⟩:=Vc T1.wi hg (T1.tb W hg hT)
   have h1:ws2[ps.length]?=some (ws2[ps.length]'(by omega)):=List.getElem?_eq_getElem _
   have h2:ws2[pl]?=some (ws2[pl]'(by omega)):=List.getElem?_eq_getElem _
   obtain ⟨k1,_,_,k4⟩:=hws2 _ _ h1
   obtain ⟨j1,_,_,j4⟩:=hws2 _ _ h2
   rw [T1.wi.inj _ _ _ k1 hDy,hx] at k4
   rw [T1.wi.inj _ _ _ j1 hDp,hx] at j4
   exact ⟨k4,j4⟩
  rw [hms] at hy
  refine Xd (α:=Bool×Sw) (fun x σ H'=>σ=[some (.ref T),some (.int pl),some (.int left)]∧(x.1=false→x.2=t∧H'=H)∧(x.1=true→Tr (Cs.mk Z0 Z2 Z4 Z1 Z3) w t H x.2 H' left (YO ps+2)∧x.2.ns p=t.ns p∧∀ i,x.2.ms p i=left+1)) (fun x => !x.1) (fun x=>if x.1 then 0 else 1) (false,t) ⟨rfl,fun _=>⟨rfl,rfl⟩,fun z=>by cases z⟩ ?_ ?_ ?_
  ·rintro ⟨b,x⟩ σ H' ⟨rfl,h1,h2⟩ R r
   have rr:=r H' ⟨rfl,h1,h2⟩
   walk_at "rd"
   cases b with
   | false =>
    obtain ⟨rfl,rfl⟩:=h1 rfl
    refine ⟨_,_,_,hTT,Zn,Zm,_,Xz _ _,L,rfl,_,SqL.of hLL,_,hm1',y,rfl,_,.inl (SqL.of hy),?_⟩
    rw [YG,dle,decide_eq_true (by omega)]
    exact rr
   | true =>
    obtain ⟨T1,_,hx⟩:=h2 rfl
    refine ⟨_,_,_,T1.fr _ _ dT hTT,Zn,Zm,_,Xz _ _,L,rfl,_,SqL.of (T1.fr _ _ dL hLL),_,hm1',y,rfl,_,.inl (SqL.of (T0 x H' T1 hx).1),?_⟩
    rw [YG,dle,decide_eq_false (by omega)]
    exact rr
  ·rintro ⟨b,x⟩ σ H' ⟨rfl,h1,h2⟩ hd
   cases b with
   | true=>cases hd
   | false =>
    obtain ⟨rfl,rfl⟩:=h1 rfl
    walk_at "rd"
    refine ⟨_,_,hTT,U8 _ _ (by decide +kernel),_,_,_,hTT,Zn,Zm,_,Xz _ _,L,rfl,_,SqL.of hLL,_,hm1',y,rfl,_,.inl (SqL.of hy),?_⟩
    rw [YG]
    exact ⟨w,x,p,T,ps,left,rfl,W,hg,hT,hms,hl,hln,by omega,hR,fun t' H' T1 hn hx=>⟨(true,t'),(fun z=>by cases z),fun _=>⟨T1,hn,hx⟩,Nat.zero_lt_one⟩⟩
  ·rintro ⟨b,x⟩ σ H' ⟨rfl,h1,h2⟩ hd
   cases b with
   | false=>cases hd
   | true =>
    obtain ⟨T1,hn,hx⟩:=h2 rfl
    walk_at "rd"
    exact ⟨_,_,_,T1.fr _ _ dT hTT,Zn,Zm,_,Xz _ _,L,rfl,_,SqL.of (T1.fr _ _ dL hLL),_,hmp',yp,rfl,_,SqL.of (T0 x H' T1 hx).2,_,XD _ (by omega),q x H' T1 hn (fun i=>by rw [hx,hx]) (by rw [hx];omega)⟩
theorem Yar (c P T:Addr):(mf c (fR P T)).lookup ("table":Str)=some (.ref T):=by
 unfold mf fR
 rw [List.lookup_cons,show (("table":Str)==("counts":Str))=false by decide +kernel,List.lookup_cons,show (("table":Str)==("parts":Str))=false by decide +kernel,List.lookup_cons,show (("table":Str)==("table":Str))=true by decide +kernel]
theorem Z1w {k:Nat} {Z6 Z5 Z1 Z2 Z4 Z3 Z0:Addr} {c_law P_law:Addr} (R:g.RawM Z2 "reckoned" "RowMaker.reckoned" Z0E ["self","size"]) (Z0U:g.Me k Z4 "ways_at" ["self","place","left"] (sp_ways (Cs.mk Z0 Z2 Z4 Z1 Z3) m)) (Zi:Cls g.K Z2) (Za:Yb g.K Z2 "counts") (Zl:Yb g.K Z2 "parts") (Zj:Yb g.K Z2 "table") (Zn:Cls g.K Z4) (Zo:Yb g.K Z4 "parts") (Zm:Yb g.K Z4 "ways"):g.Me (k+1) Z2 "reckoned" ["self","size"] (sp_reck (Cs.mk Z0 Z2 Z4 Z1 Z3) 2 (m+1)):=by
 refine R.me Z2F (fun vs H Q E h=>by obtain ⟨w,t,p,sh,sz,rfl,hk,W,hg,hn,hs,hf,hR,q⟩:=h;rfl) fun f_ cdv A outer s H vs Q E hr h=>?_
 obtain ⟨w,t,p,sh,sz,rfl,hk,W,hg,hn,hs,hf,hR,q⟩:=h
 refine ⟨_,(@Yh _ _ _ (@Ym _ _ _ _ (@Xu _ _ _ _ _ _ _ _ _ _ _ _ _ _ _ _ Z0U Zn hr (@Ys _ _ _ _ _ (pv 0) rfl) (@Ya _ _ _ _ _ Yf (@Ya _ _ _ _ _ (pv 1) Yc (by rfl)) (by rfl)) (by omega) (by rfl) (by rfl) (by rfl) (by rfl)))),?_⟩
 cases sh with
 | row ps =>
  obtain ⟨dx,c,fs,hU,hd,hsm,hns,hp,hDc,hc,hsub⟩:=W.at_ p _ hg
  obtain ⟨P,T,dt,L,as,ws,rfl,h2,h3,h4,h5,h6,h7,h8,h9,h10,h11,h12⟩:=hsub
  have hT:Tb (Cs.mk Z0 Z2 Z4 Z1 Z3) H p T:=⟨dx,c,P,hp⟩
  have hdr:dep (.row ps)=YO ps+1:=by rw [dep]
  rw [hdr] at hf hR
  have hUni:Uni t p:=hR p _ hg (by rw [hn,bnd,if_pos (by omega)];omega)
  have hwk:ws[ps.length]?=some (ws[ps.length]'(by omega)):=List.getElem?_eq_getElem _
  obtain ⟨_,hnk,_,_⟩:=h11 _ _ hwk
  have hw0:ws[0]?=some (ws[0]'(by omega)):=List.getElem?_eq_getElem _
  obtain ⟨_,hn0,_,_⟩:=h11 _ _ hw0
  walk_at "rd"
  refine ⟨_,_,_,hp,Zi,Zj,_,Yar _ _ _,T,rfl,_,_,h8,U8 _ _ (by decide +kernel),w,t,p,T,ps,0,sz,rfl,W,hg,hT,by omega,hs,by omega,fun h=>⟨by rw [← hUni ps.length];exact h,?_⟩,fun h=>⟨hUni,by omega,by omega,hR.mono (by omega),fun t' H' T1 hn' hU' hl'=>?_⟩⟩
  ·have:=q t H (.refl W _ _) hn fun ps' z i=>by
    have:=Sh.row.inj z
    subst this
    rw [hUni i,← hUni ps.length];omega
   rw [Vb] at this
   exact this fun dx c fs as _ h a ha=>by rw [show as=[] from h] at ha;cases ha
  ·have hful:∀ i,sz+1≤t'.ms p i:=fun i=>by
    rw [hU' i];exact hl'
   have:=q t' H' (by rw [hdr];exact T1) (by omega) fun ps' z i=>hful i
   rw [Vb] at this
   exact this fun dx c fs as _ h a ha=>by rw [show as=[] from h] at ha;cases ha
 | _=>simp [kind] at hk
def Ye1 (C:Cs) (H:Hp) (p a:Addr):Prop:=∃ dx c M P,∃ as:List Addr,H p=some (.ins C.pick dx (mf c (fP M P)))∧H P=some (.lst (as.map V.ref))∧a∈as
theorem Ybv {c c' P P' T T':Addr} (h:mf c (fP P T)=mf c' (fP P' T')):P=P'∧T=T':=by
 unfold mf fP at h
 injection h with _ h
 injection h with h1 h
 injection h with h2 _
 injection h1 with _ h1
 injection h2 with _ h2
 exact ⟨V.ref.inj h1,V.ref.inj h2⟩
theorem Yeo {C:Cs} {H:Hp} {p dx c M P a:Addr} {as:List Addr} (hp:H p=some (.ins C.pick dx (mf c (fP M P)))) (hP:H P=some (.lst (as.map V.ref))) (h:Ye1 C H p a):a∈as:=by
 obtain ⟨dx',c',M',P',bs,e1,e2,e3⟩:=h
 rw [hp] at e1
 have e:=Option.some.inj e1
 injection e with _ _ e
 obtain ⟨_,rfl⟩:=Ybv e
 rw [hP] at e2
 have e:=Option.some.inj e2
 injection e with e
 cases Vw e
 exact e3
inductive Z1x (C:Cs) (l:Nat) (vs:List V) (H:Hp) (Q:VK) (E_:XK):Prop
 | mk (w:Wo) (t:Sw) (p:Addr) (mk:List (List Nat)) (ps:List Sh) (sz:Nat) (h0:vs=[.ref p,.int sz]) (h1:WI C w t H) (h2:w.reg p=some (.pick mk ps)) (h3:sz≤40) (h4:sz≤t.ns p) (h5:fu w sz (YO ps+1)+3≤l) (h6:Y6 w t sz (YO ps+1)) (h7:∀ D t' H',Tr C w t H t' H' sz (YO ps+1)→H D=none→¬ t'.U D→Blk H' D (ps.map fun sh=>(cnt w.bk sh sz,1))→(∀ a,Ye1 C H p a→sz<t'.ns a)→Q (.ref D) H')
theorem YcA {C:Cs} {vs:List V} {H:Hp} {Q:VK} {E:XK} (h:Z1x C 0 vs H Q E):False:=by
 obtain ⟨w,t,p,mk,ps,sz,_,_,_,_,_,h,_⟩:=h
 omega
theorem Qx (c M P:Addr):(mf c (fP M P)).lookup ("parts":Str)=some (.ref P):=by
 unfold mf fP
 rw [List.lookup_cons,show (("parts":Str)==("counts":Str))=false by decide +kernel,List.lookup_cons,show (("parts":Str)==("marks":Str))=false by decide +kernel,List.lookup_cons,show (("parts":Str)==("parts":Str))=true by decide +kernel]
theorem Yas (c:Addr) (a:V):(mf c (fU a)).lookup ("named":Str)=some a:=by
 unfold mf fU
 rw [List.lookup_cons,show (("named":Str)==("counts":Str))=false by decide +kernel,List.lookup_cons,show (("named":Str)==("named":Str))=true by decide +kernel]
theorem Z1y {k:Nat} {Z6 Z5 Z1 Z2 Z4 Z3 Z0:Addr} {c_law P_law:Addr} (R:g.RawM Z3 "reckoned" "UseMaker.reckoned" Z0H ["self","size"]) (Zv:g.Me k Z0 "count_at" ["self","size"] (Zq (Cs.mk Z0 Z2 Z4 Z1 Z3) 0 m)) (ZA:g.Me k Z2 "count_at" ["self","size"] (Zq (Cs.mk Z0 Z2 Z4 Z1 Z3) 2 m)) (Zy:g.Me k Z1 "count_at" ["self","size"] (Zq (Cs.mk Z0 Z2 Z4 Z1 Z3) 3 m)) (ZB:g.Me k Z3 "count_at" ["self","size"] (Zq (Cs.mk Z0 Z2 Z4 Z1 Z3) 5 m)) (Zc:Cls g.K Z1) (Z9:Yb g.K Z1 "counts") (Zg:Yb g.K Z1 "marks") (Ze:Yb g.K Z1 "parts") (Zi:Cls g.K Z2) (Za:Yb g.K Z2 "counts") (Zl:Yb g.K Z2 "parts") (Zj:Yb g.K Z2 "table") (Zk:Cls g.K Z3) (Zb:Yb g.K Z3 "counts") (Zh:Yb g.K Z3 "named") (Z8:Cls g.K Z0) (Z7:Yb g.K Z0 "counts") (Zf:Yb g.K Z0 "low") (Zd:Yb g.K Z0 "span"):g.Me (k+1) Z3 "reckoned" ["self","size"] (sp_reck (Cs.mk Z0 Z2 Z4 Z1 Z3) 5 (m+1)):=by
 refine R.me Z2H (fun vs H Q E h=>by obtain ⟨w,t,p,sh,sz,rfl,hk,W,hg,hn,hs,hf,hR,q⟩:=h;rfl) fun f_ cdv A outer s H vs Q E hr h=>?_
 obtain ⟨w,t,p,sh,sz,rfl,hk,W,hg,hn,hs,hf,hR,q⟩:=h
 refine ⟨_,(@Yh _ _ _ (@Ym _ _ _ _ (@QX _ _ _ _ _ _ _ _ (@Yt _ _ _ _ _ _ _ _ Xa (pv 1) Yf (Yv _)) Yf (@X5 _ _ _ _ _ _ _ _ _ _ _ _ _ _ _ (Yo Zv Z8 (Yo ZA Zi (Yo Zy Zc (Yo ZB Zk XN)))) hr (@Ys _ _ _ _ _ (pv 0) rfl) (@Ya _ _ _ _ _ (@Yl _ _ _ _ _ _ _ _ Xm (pv 1) Yf) Yc (by rfl)) (by omega) (by rfl) (by rfl) (by rfl) (by rfl))))),?_⟩
 cases sh with
 | use x =>
  obtain ⟨dx,c,fs,hU,hd,hsm,hns,hp,hDc,hc,hsub⟩:=W.at_ p _ hg
  obtain ⟨a,rfl,hga,hcn⟩:=hsub
  have pt:∀ {t':Sw} {H':Hp} {n:Nat},H' p=some (.ins Z3 dx (mf c (fU (.ref a))))→n≤t'.ns a+1→PtC (Cs.mk Z0 Z2 Z4 Z1 Z3) t' H' p (.use x) n:=fun {t' H' n} h1 h2 dx' c' fs as e h b hb=>by
   obtain ⟨a',rfl,rfl⟩:=h
   rw [h1] at e
   have e:=Option.some.inj e
   injection e with _ _ e
   unfold mf fU at e
   injection e with _ e
   injection e with e _
   injection e with _ e
   cases V.ref.inj e
   cases List.mem_singleton.mp hb
   exact h2
  have hdr:dep (.use x)=0:=by simp [dep]
  rw [hdr] at hf hR
  walk_at "rd"
  refine UV (fun c=>?_) (fun c=>?_)
  ·have e:sz=0:=by omega
   subst e
   have:=q t H (.refl W _ _) hn (fun ps z=>by cases z) (pt hp (by omega))
   rw [WQ] at this
   exact this
  ·obtain ⟨j,rfl⟩:∃ j,sz=j+1:=⟨sz - 1,by omega⟩
   obtain ⟨_,_,_,_,hda,_⟩:=W.at_ a _ hga
   have fm:fu w j (dep (w.bk x))+5≤fu w (j+1) 0:=U6 hda (by omega)
   rw [show ((j+1:Nat):Int) - 1=(j:Int) by omega]
   refine ⟨_,_,_,hp,Zk,Zh,_,Yas _ _,a,rfl,?_⟩
   refine Vx W hga (by omega) (by omega) (hR.mono (by omega)) fun t2 H2 T2 hn2=>?_
   have T3:Tr (Cs.mk Z0 Z2 Z4 Z1 Z3) w t H t2 H2 (j+1) 0:=T2.mono (by omega)
   have own:=T3.own hg (by omega) (by omega)
   have:=q t2 H2 (T3.mono (by omega)) (by omega) (fun ps z=>by cases z) (pt (T2.fr _ _ hU.1 hp) (by omega))
   rw [V7] at this
   exact this
 | _=>simp [kind] at hk
theorem Z15 {k:Nat} {Z6 Z5 Z1 Z2 Z4 Z3 Z0:Addr} {c_law P_law:Addr} (R:g.RawM Z1 "blocks_at" "PickMaker.blocks_at" Z0e ["self","size"]) (Zv:g.Me k Z0 "count_at" ["self","size"] (Zq (Cs.mk Z0 Z2 Z4 Z1 Z3) 0 m)) (ZA:g.Me k Z2 "count_at" ["self","size"] (Zq (Cs.mk Z0 Z2 Z4 Z1 Z3) 2 m)) (Zy:g.Me k Z1 "count_at" ["self","size"] (Zq (Cs.mk Z0 Z2 Z4 Z1 Z3) 3 m)) (ZB:g.Me k Z3 "count_at" ["self","size"] (Zq (Cs.mk Z0 Z2 Z4 Z1 Z3) 5 m)) (Zc:Cls g.K Z1) (Z9:Yb g.K Z1 "counts") (Zg:Yb g.K Z1 "marks") (Ze:Yb g.K Z1 "parts") (Zi:Cls g.K Z2) (Za:Yb g.K Z2 "counts") (Zl:Yb g.K Z2 "parts") (Zj:Yb g.K Z2 "table") (Zk:Cls g.K Z3) (Zb:Yb g.K Z3 "counts") (Zh:Yb g.K Z3 "named") (Z8:Cls g.K Z0) (Z7:Yb g.K Z0 "counts") (Zf:Yb g.K Z0 "low") (Zd:Yb g.K Z0 "span"):g.Me (k+1) Z1 "blocks_at" ["self","size"] (Z1x (Cs.mk Z0 Z2 Z4 Z1 Z3) (m+1)):=by
 refine R.me Z2e (fun vs H Q E h=>by obtain ⟨w,t,p,mk,ps,sz,rfl,W,hg,hs,hsn,hf,hR,q⟩:=h;rfl) fun f_ cdv A outer s H vs Q E hr h=>?_
 obtain ⟨w,t,p,mk,ps,sz,rfl,W,hg,hs,hsn,hf,hR,q⟩:=h
 refine ⟨_,(@Yh _ _ _ (@Ym _ _ _ _ (@XF _ _ _ _ _ _ _ ([none,some 1]) ((["part","size"]:List Str)) _ (Yy 0) _ _ (.own (.cap (i:=1) rfl rfl (by first | exact .inl rfl | exact .inr rfl) .nil)) rfl (@XC _ _ _ _ (@Ys _ _ _ _ _ (pv 0) rfl)) (fun cl C s₀ H₀ fp pn=>(@Yx _ _ (0) _ (show List.Nodup (["part","size"]:List Str) by decide +kernel) rfl (.inl rfl) (.inr rfl))) (fun cl C s₀ H₀ fp pn=>Xb) (fun cl C s₀ H₀ fp pn=>(@Xi _ _ _ _ _ (@Ya _ _ _ _ _ (@X5 _ _ _ _ _ _ _ _ _ _ _ _ _ _ _ (Yo Zv Z8 (Yo ZA Zi (Yo Zy Zc (Yo ZB Zk XN)))) hr (pv 0) (@Ya _ _ _ _ _ (pv 1) Yc (by rfl)) (by omega) (by rfl) (by rfl) (by rfl) (by rfl)) (@Ya _ _ _ _ _ Yf Yc (by rfl)) (by rfl)))) (by intro x hx;simp at hx;first | (subst hx;exact .inl rfl) | (rcases hx with rfl | rfl<;>exact .inl rfl) | (rcases hx with rfl | rfl | rfl<;>exact .inl rfl) | (rcases hx with rfl | rfl | rfl | rfl<;>exact .inl rfl) | (rcases hx with rfl | rfl | rfl | rfl | rfl<;>exact .inl rfl)) (by rfl) (by decide) (by decide +kernel) (by intro _;rfl)))),?_⟩
 walk_at "rd"
 obtain ⟨dx,c,fs,hU,hd,hsm,hns,hp,hDc,hc,hsub⟩:=W.at_ p _ hg
 obtain ⟨M,P,as,rfl,h2,h3,h4,h5,h6,h7⟩:=hsub
 have hdr:dep (.pick mk ps)=YO ps+1:=by rw [dep]
 have hal:=h6.1
 refine Ydn (K:=g.K) (b:=P) (xs:=as.map V.ref) (fun D i zs H'=>∃ t',Tr (Cs.mk Z0 Z2 Z4 Z1 Z3) w t H t' H' sz (YO ps+1)∧(∀ (j:Nat) a,j<i→as[j]?=some a→sz<t'.ns a)∧zs.length=i∧H' D=some (.lst zs)∧¬ t'.U D∧∀ (j:Nat) x q,zs[j]?=some x→ps[j]?=some q→∃ T,x = .ref T∧w.D T=none∧¬ t'.U T∧T≠D∧H' T=some (.tup [.int (cnt w.bk q sz),.int 1])) (fun R r=>by walk_at "rd";exact ⟨_,_,_,hp,Zc,Ze,_,Qx _ _ _,r⟩) (SqL.of h5) (by rw [List.length_map];omega) ?_ ?_ ?_ ?_
 ·intro D hD
  exact ⟨t,(Tr.refl W _ _).put hD (W.new hD).2 _,fun j a hj=>absurd hj (Nat.not_lt_zero _),rfl,Yg,(W.new hD).2,fun j x q hx=>by simp at hx⟩
 ·rintro D i zs H' hD ⟨t',T1,_,h1,h2',_⟩
  exact ⟨h1,h2',SqL.of (T1.fr _ _ h3.1 h5)⟩
 ·rintro D i x zs H' hD hx ⟨t',T1,hna,hz,hd',hUD,hts⟩ R r
  rw [List.getElem?_map] at hx
  obtain ⟨a,ha,rfl⟩:=Option.map_eq_some_iff.mp hx
  have hi:=(List.getElem?_eq_some_iff.mp ha).1
  have hpi:ps[i]?=some (ps[i]'(by omega)):=List.getElem?_eq_getElem _
  generalize ps[i]'(by omega)=sh at hpi
  have hga:=h6.2 i a sh ha hpi
  have hds:dep sh≤YO ps:=Wi (List.mem_of_getElem? hpi)
  have fm:fu w sz (dep sh)+5≤fu w sz (YO ps+1):=U6 (by omega) (by omega)
  have dD:w.D D=none:=(W.new hD).1
  walk_at "rd"
  refine Vx T1.wi hga (by omega) (by omega) ((T1.ready hR).mono (by omega)) fun t2 H2 T2 hn2=>⟨few (by decide),fun X gX=>?_⟩
  have T12:=T1.trans (T2.mono (by omega))
  have hd2:=T2.fr _ _ dD hd'
  have hUD2:=T2.ours hUD hd'
  have nXD:X≠D:=Ne.symm (Yj hd2 gX)
  have sX:=Yk.upd_new gX (.tup [.int (cnt w.bk sh sz),.int 1])
  have hna2:∀ (j:Nat) b,j<i+1→as[j]?=some b→sz<t2.ns b:=fun j b hj hb=>by
   by_cases c:j<i
   ·have hpj:ps[j]?=some (ps[j]'(by have:=(List.getElem?_eq_some_iff.mp hb).1;omega)):=List.getElem?_eq_getElem _
    have:=(T2.gr b _ (h6.2 j b _ hb hpj)).up
    have:=hna j b c hb
    omega
   ·have:j=i:=by omega
    subst this
    rw [ha] at hb
    cases Option.some.inj hb
    exact hn2
  refine r _ _ (sX _ _ hd2) ⟨t2,(T12.same sX).put hD hUD2 _,hna2,by rw [List.length_append,hz];rfl,Yg,hUD2,fun j x q hx hq=>?_⟩
  by_cases c:j<zs.length
  ·rw [List.getElem?_append_left c] at hx
   obtain ⟨Y,rfl,y1,y2,y3,y4⟩:=hts j x q hx hq
   exact ⟨Y,rfl,y1,T2.ours y2 y4,y3,by rw [Yd y3];exact sX _ _ (T2.fr _ _ y1 y4)⟩
  ·have hj:j=zs.length:=by
    have:=(List.getElem?_eq_some_iff.mp hx).1
    rw [List.length_append,List.length_singleton] at this
    omega
   subst hj
   rw [List.getElem?_append_right (Nat.le_refl _),Nat.sub_self] at hx
   have:V.ref X=x:=Option.some.inj hx
   subst this
   rw [hz,hpi] at hq
   have:=Option.some.inj hq
   subst this
   exact ⟨X,rfl,(T2.wi.new gX).1,(T2.wi.new gX).2,nXD,by rw [Yd nXD,Yg]⟩
 ·rintro D zs H' hD ⟨t',T1,hna,hz,hd',hUD,hts⟩
  rw [List.length_map] at hz hna
  refine q D t' H' T1 hD hUD ⟨zs,hd',by rw [hz,List.length_map,hal],fun j x y hx hy=>?_⟩ fun a' ha'=>?_
  rotate_left
  ·obtain ⟨j,hj⟩:=List.mem_iff_getElem?.mp (Yeo hp h5 ha')
   exact hna j a' (List.getElem?_eq_some_iff.mp hj).1 hj
  have hj:=(List.getElem?_eq_some_iff.mp hx).1
  rw [List.getElem?_map] at hy
  obtain ⟨q',hq',rfl⟩:=Option.map_eq_some_iff.mp hy
  obtain ⟨X,rfl,_,_,_,hX⟩:=hts j x q' hx hq'
  exact ⟨X,rfl,hX⟩
theorem Z1m {k:Nat} {Z6 Z5 Z1 Z2 Z4 Z3 Z0:Addr} {c_law P_law:Addr} (R:g.RawM Z1 "reckoned" "PickMaker.reckoned" Z0m ["self","size"]) (Z3m:g.Fn k "ways_of" ["blocks"] (Z2N g.K)) (Z0g:g.Me k Z1 "blocks_at" ["self","size"] (Z1x (Cs.mk Z0 Z2 Z4 Z1 Z3) m)) (Zc:Cls g.K Z1) (Z9:Yb g.K Z1 "counts") (Zg:Yb g.K Z1 "marks") (Ze:Yb g.K Z1 "parts"):g.Me (k+1) Z1 "reckoned" ["self","size"] (sp_reck (Cs.mk Z0 Z2 Z4 Z1 Z3) 3 (m+1)):=by
 refine R.me Z2o (fun vs H Q E h=>by obtain ⟨w,t,p,sh,sz,rfl,hk,W,hg,hn,hs,hf,hR,q⟩:=h;rfl) fun f_ cdv A outer s H vs Q E hr h=>?_
 obtain ⟨w,t,p,sh,sz,rfl,hk,W,hg,hn,hs,hf,hR,q⟩:=h
 refine ⟨_,(@Yh _ _ _ (@Ym _ _ _ _ (@YH _ _ _ _ _ _ _ _ _ _ _ _ Z3m hr (@Ya _ _ _ _ _ (@Xu _ _ _ _ _ _ _ _ _ _ _ _ _ _ _ _ Z0g Zc hr (pv 0) (@Ya _ _ _ _ _ (pv 1) Yc (by rfl)) (by omega) (by rfl) (by rfl) (by rfl) (by rfl)) Yc (by rfl)) (by omega) (by rfl) (by rfl) (by decide) (by rfl) (by rfl)))),?_⟩
 cases sh with
 | pick mk ps =>
  obtain ⟨dx,c,fs,hU,hd,hsm,hns,hp,hDc,hc,hsub⟩:=W.at_ p _ hg
  have hno:=fun {m:Str} (h:isF m=false)=>Ww (c:=c) h hsub
  obtain ⟨M,P,as,rfl,h2,h3,h4,h5,h6,h7⟩:=hsub
  have hdr:dep (.pick mk ps)=YO ps+1:=by rw [dep]
  rw [hdr] at hf hR
  walk_at "rd"
  refine ⟨_,_,hp,hno (by decide +kernel),w,t,p,mk,ps,sz,rfl,W,hg,hs,by omega,by omega,hR.mono (by omega),fun D t' H' T1 gD hUD hB hpc=>?_⟩
  refine ⟨D,_,rfl,hB,by rw [List.length_map];omega,fun x hx=>?_,fun H4 s4=>?_⟩
  ·obtain ⟨q',hq',rfl⟩:=List.mem_map.mp hx
   obtain ⟨i,hi,rfl⟩:=List.getElem_of_mem hq'
   have hai:as[i]?=some (as[i]'(by have:=h6.1;omega)):=List.getElem?_eq_getElem _
   have hga:=h6.2 i _ _ hai (List.getElem?_eq_getElem hi)
   obtain ⟨_,_,_,_,_,hsma,_⟩:=W.at_ _ _ hga
   exact ⟨hsma _ (by omega),1,by decide,(by decide:(1:Int).natAbs<2^1)⟩
  ·have own:=T1.own hg (by omega) (by omega)
   have:=q t' H4 (by rw [hdr];exact (T1.mono (by omega)).same s4) (by omega) (fun ps z=>by cases z) (fun dx' c' fs bs e h b hb=>by
    obtain ⟨M',P',rfl,hP'⟩:=h
    rw [s4 _ _ (T1.fr _ _ hU.1 hp)] at e
    have e:=Option.some.inj e
    injection e with _ _ e
    obtain ⟨_,rfl⟩:=Ybv e
    rw [s4 _ _ (T1.fr _ _ h3.1 h5)] at hP'
    have e:=Option.some.inj hP'
    injection e with e
    cases Vw e
    have:=hpc b ⟨dx,c,M,P,as,hp,h5,hb⟩
    omega)
   rw [Vu] at this
   rw [List.map_map,show ((fun p=>p.1*p.2) ∘ fun sh=>(cnt w.bk sh sz,(1:Int)))=fun sh=>cnt w.bk sh sz by funext z;exact Int.mul_one _]
   exact this
 | _=>simp [kind] at hk
abbrev Prs:=List (List Nat×Sh)
def bkO (prs:Prs) (x:List Nat):Sh:=((prs.find? fun q=>decide (q.1=x)).map (·.2)).getD (.row [])
mutual
def okS (prs:Prs):Sh→Prop
 | .w _ _=>True
 | .row ps=>ps.length≤100∧Xx prs ps
 | .pick mk ps=>mk.length=ps.length∧ps.length≤100∧Xx prs ps∧∀ m∈mk,PyData.strOk (S m)=true
 | .use x=>∃ q,(prs.find? fun q=>decide (q.1=x))=some q
def Xx (prs:Prs):List Sh→Prop
 | []=>True
 | p::ps=>okS prs p∧Xx prs ps
end
theorem WJ {prs:Prs} {p:Sh}:∀ {ps:List Sh},Xx prs ps→p∈ps→okS prs p
 | q::ps,h,hm=>by
  rw [Xx] at h
  rcases List.mem_cons.mp hm with rfl | hm
  ·exact h.1
  ·exact WJ h.2 hm
theorem Ul {prs:Prs}:∀ {ps:List Sh} (i:Nat),Xx prs ps→Xx prs (ps.drop i)
 | _,0,h=>h
 | [],i+1,h=>h
 | q::ps,i+1,h=>by
  rw [Xx] at h
  exact Ul i h.2
mutual
def wt:Sh→Nat
 | .row ps=>wts ps+1
 | .pick _ ps=>wts ps+1
 | _=>1
def wts:List Sh→Nat
 | []=>0
 | p::ps=>wt p+wts ps
end
theorem Vd (sh:Sh):1≤wt sh:=by cases sh<;>simp [wt]
theorem Yat {p:Sh}:∀ {ps:List Sh},p∈ps→wt p≤wts ps
 | q::ps,h=>by
  rw [wts]
  rcases List.mem_cons.mp h with rfl | h
  ·omega
  ·have:=Yat h
   omega
theorem Vy:∀ (ps:List Sh) (i:Nat),wts (ps.drop i)≤wts ps
 | _,0=>Nat.le_refl _
 | [],i+1=>Nat.le_refl _
 | q::ps,i+1=>by
  have:=Vy ps i
  rw [List.drop_succ_cons,wts]
  omega
theorem Vn {a b:List Nat} (h:S a=S b):a=b:=by
 unfold S at h
 injection h with h
 have:=congrArg Array.toList h
 simpa using this
def kdm:PyData→Str
 | .tuple (.str x::_)=>x
 | _=>""
mutual
theorem Yau {prs:Prs}:∀ {a b:Sh},okS prs a→okS prs b→kd a=kd b→a=b
 | .w lo span,.w lo' span',_,_,h=>by
  simp only [kd,PyData.tuple.injEq,List.cons.injEq,PyData.int.injEq,and_true,true_and] at h
  obtain ⟨rfl,h⟩:=h
  have:span=span':=by omega
  rw [this]
 | .row ps,.row ps',h1,h2,h=>by
  simp only [kd,PyData.tuple.injEq,List.cons.injEq,and_true,true_and] at h
  rw [okS] at h1 h2
  rw [Ybw h1.2 h2.2 h]
 | .pick mk ps,.pick mk' ps',h1,h2,h=>by
  simp only [kd,PyData.tuple.injEq,List.cons.injEq,and_true,true_and] at h
  rw [okS] at h1 h2
  obtain ⟨e1,e2⟩:=Ybx h1.1 h2.1 h1.2.2.1 h2.2.2.1 h
  rw [e1,e2]
 | .use x,.use x',_,_,h=>by
  simp only [kd,PyData.tuple.injEq,List.cons.injEq,PyData.str.injEq,and_true,true_and] at h
  rw [Vn h]
 | .w _ _,.row _,_,_,h=>absurd (congrArg kdm h) (by simp only [kd,kdm];decide +kernel)
 | .w _ _,.pick _ _,_,_,h=>absurd (congrArg kdm h) (by simp only [kd,kdm];decide +kernel)
 | .w _ _,.use _,_,_,h=>absurd (congrArg kdm h) (by simp only [kd,kdm];decide +kernel)
 | .row _,.w _ _,_,_,h=>absurd (congrArg kdm h) (by simp only [kd,kdm];decide +kernel)
 | .row _,.pick _ _,_,_,h=>absurd (congrArg kdm h) (by simp only [kd,kdm];decide +kernel)
 | .row _,.use _,_,_,h=>absurd (congrArg kdm h) (by simp only [kd,kdm];decide +kernel)
 | .pick _ _,.w _ _,_,_,h=>absurd (congrArg kdm h) (by simp only [kd,kdm];decide +kernel)
 | .pick _ _,.row _,_,_,h=>absurd (congrArg kdm h) (by simp only [kd,kdm];decide +kernel)
 | .pick _ _,.use _,_,_,h=>absurd (congrArg kdm h) (by simp only [kd,kdm];decide +kernel)
 | .use _,.w _ _,_,_,h=>absurd (congrArg kdm h) (by simp only [kd,kdm];decide +kernel)
 | .use _,.row _,_,_,h=>absurd (congrArg kdm h) (by simp only [kd,kdm];decide +kernel)
 | .use _,.pick _ _,_,_,h=>absurd (congrArg kdm h) (by simp only [kd,kdm];decide +kernel)
theorem Ybw {prs:Prs}:∀ {a b:List Sh},Xx prs a→Xx prs b→kds a=kds b→a=b
 | [],[],_,_,_=>rfl
 | p::ps,q::qs,h1,h2,h=>by
  rw [kds,kds] at h
  rw [Xx] at h1 h2
  injection h with e1 e2
  rw [Yau h1.1 h2.1 e1,Ybw h1.2 h2.2 e2]
 | [],_::_,_,_,h=>by simp [kds] at h
 | _::_,[],_,_,h=>by simp [kds] at h
theorem Ybx {prs:Prs}:∀ {mk mk':List (List Nat)} {a b:List Sh},mk.length=a.length→mk'.length=b.length→Xx prs a→Xx prs b→kdp mk a=kdp mk' b→mk=mk'∧a=b
 | [],[],[],[],_,_,_,_,_=>⟨rfl,rfl⟩
 | m::mk,m'::mk',p::ps,q::qs,l1,l2,h1,h2,h=>by
  rw [kdp,kdp] at h
  rw [Xx] at h1 h2
  injection h with e1 e2
  simp only [PyData.tuple.injEq,List.cons.injEq,PyData.str.injEq,and_true] at e1
  obtain ⟨r1,r2⟩:=Ybx (by simpa using l1) (by simpa using l2) h1.2 h2.2 e2
  rw [Vn e1.1,Yau h1.1 h2.1 e1.2,r1,r2]
  exact ⟨rfl,rfl⟩
 | [],_,_::_,_,l,_,_,_,_=>by simp at l
 | _::_,_,[],_,l,_,_,_,_=>by simp at l
 | _,[],_,_::_,_,l,_,_,_=>by simp at l
 | _,_::_,_,[],_,l,_,_,_=>by simp at l
 | [],_::_,[],_::_,_,_,_,_,h=>by simp [kdp] at h
 | _::_,[],_::_,[],_,_,_,_,h=>by simp [kdp] at h
end
theorem YdA {B:Int}:∀ {l:List Int},(∀ x∈l,0≤x∧x≤B)→0≤l.sum∧l.sum≤l.length*B
 | [],_=>by simp
 | a::l,h=>by
  obtain ⟨h1,h2⟩:=h a (.head _)
  obtain ⟨h3,h4⟩:=YdA (l:=l) fun x hx=>h x (.tail _ hx)
  rw [List.sum_cons,List.length_cons,Int.natCast_succ,Int.add_mul]
  omega
theorem Yge {a b:Int} {x y:Nat} (h1:0≤a) (h2:a≤2^x) (h3:0≤b) (h4:b≤2^y):0≤a*b∧a*b≤2^(x+y):=by
 refine ⟨Int.mul_nonneg h1 h3,?_⟩
 rw [Int.pow_add]
 exact Int.mul_le_mul h2 h4 h3 (Int.le_of_lt (Int.pow_pos (by decide)))
theorem WF {a b:Nat} (h:a≤b):(2:Int)^a≤2^b:=by
 have:(2:Nat)^a≤2^b:=Nat.pow_le_pow_right (by decide) h
 exact_mod_cast this
theorem Ygf {n x:Nat} (h:n≤64):(n:Int)*2^x≤2^(6+x):=by
 rw [Int.pow_add]
 exact Int.mul_le_mul_of_nonneg_right (by omega) (Int.le_of_lt (Int.pow_pos (by decide)))
theorem Yav (span:Nat) (s:Nat):0≤wc span s∧wc span s≤2^s:=by
 have p:(0:Int)<2^s:=Int.pow_pos (by decide)
 unfold wc
 split
 ·split<;>omega
 ·omega
structure okB (prs:Prs):Prop where
 len:prs.length≤3
 ok:∀ q∈prs,okS prs q.2
 wt:∀ q∈prs,wt q.2≤24
 dp:∀ q∈prs,dep q.2≤2
theorem U9 {prs:Prs} {x:List Nat} {q:List Nat×Sh} (h:(prs.find? fun q=>decide (q.1=x))=some q):bkO prs x=q.2∧q∈prs:=by
 rw [bkO,h]
 exact ⟨rfl,List.mem_of_find?_eq_some h⟩
mutual
theorem WR (prs:Prs) (ob:okB prs):∀ (sh:Sh) (s:Nat),s≤45→okS prs sh→wt sh≤1000→0≤cnt (bkO prs) sh s∧cnt (bkO prs) sh s≤2^(300*s+(12*wt sh - 6))
 | .w lo span,s,hs,h,hw=>by
  have wp:=Vd (.w lo span)
  rw [QQ]
  obtain ⟨h1,h2⟩:=Yav span s
  exact ⟨h1,Int.le_trans h2 (WF (by omega))⟩
 | .row ps,s,hs,h,hw=>by
  rw [okS] at h
  rw [wt] at hw ⊢
  rw [Vb]
  obtain ⟨h1,h2⟩:=Ub prs ob ps s hs h.2 (by omega)
  exact ⟨h1,Int.le_trans h2 (WF (by omega))⟩
 | .pick mk ps,s,hs,h,hw=>by
  rw [okS] at h
  rw [wt] at hw ⊢
  rw [Vu]
  obtain ⟨h1,h2⟩:=Yby prs ob ps s hs h.2.2.1 (by omega)
  exact ⟨h1,Int.le_trans h2 (WF (by omega))⟩
 | .use x,0,hs,h,hw=>by
  rw [WQ]
  exact ⟨Int.le_refl _,Int.le_of_lt (Int.pow_pos (by decide))⟩
 | .use x,s+1,hs,h,hw=>by
  rw [okS] at h
  obtain ⟨q,hq⟩:=h
  obtain ⟨eb,hm⟩:=U9 hq
  have w1:=ob.wt q hm
  rw [V7,eb]
  obtain ⟨h1,h2⟩:=WR prs ob q.2 s (by omega) (ob.ok q hm) (by omega)
  exact ⟨h1,Int.le_trans h2 (WF (by omega))⟩
termination_by sh s=>(s,sizeOf sh)
decreasing_by
 all_goals simp only [Prod.lex_def]
 all_goals first | (right;exact ⟨trivial,by simp;omega⟩) | (right;exact ⟨rfl,by simp;omega⟩) | (right;exact ⟨trivial,by simp⟩) | (left;omega) | (by_cases c:f<s;(left;exact c);(right;exact ⟨by omega,by simp;omega⟩)) | (by_cases c:s - f<s;(left;exact c);(right;exact ⟨by omega,by simp;omega⟩)) | (right;simp) | (right;simp;omega)
theorem Ub (prs:Prs) (ob:okB prs):∀ (ps:List Sh) (s:Nat),s≤45→Xx prs ps→wts ps≤1000→0≤YB (bkO prs) ps s∧YB (bkO prs) ps s≤2^(300*s+12*wts ps)
 | [],s,hs,h,hw=>by
  rw [XV]
  split
  ·exact ⟨by decide,Int.le_trans (by decide:(1:Int)≤2^0) (WF (Nat.zero_le _))⟩
  ·exact ⟨Int.le_refl _,Int.le_of_lt (Int.pow_pos (by decide))⟩
 | p::ps,s,hs,h,hw=>by
  rw [Xx] at h
  have ew:wts (p::ps)=wt p+wts ps:=by rw [wts]
  have wp:=Vd p
  rw [Wu]
  obtain ⟨h1,h2⟩:=YdA (B:=2^(300*s+(12*wt p - 6)+12*wts ps)) (l:=(List.range (s+1)).map fun f=>cnt (bkO prs) p f*YB (bkO prs) ps (s - f)) (fun x hx=>by
   obtain ⟨f,hf,rfl⟩:=List.mem_map.mp hx
   have hf:=List.mem_range.mp hf
   obtain ⟨a1,a2⟩:=WR prs ob p f (by omega) h.1 (by omega)
   obtain ⟨b1,b2⟩:=Ub prs ob ps (s - f) (by omega) h.2 (by omega)
   obtain ⟨c1,c2⟩:=Yge a1 a2 b1 b2
   refine ⟨c1,Int.le_trans c2 (WF ?_)⟩
   omega)
  refine ⟨h1,Int.le_trans h2 ?_⟩
  rw [List.length_map,List.length_range]
  exact Int.le_trans (Ygf (by omega)) (WF (by omega))
termination_by ps s=>(s,sizeOf ps)
decreasing_by
 all_goals simp only [Prod.lex_def]
 all_goals first | (right;exact ⟨trivial,by simp;omega⟩) | (right;exact ⟨rfl,by simp;omega⟩) | (right;exact ⟨trivial,by simp⟩) | (left;omega) | (by_cases c:f<s;(left;exact c);(right;exact ⟨by omega,by simp;omega⟩)) | (by_cases c:s - f<s;(left;exact c);(right;exact ⟨by omega,by simp;omega⟩)) | (right;simp) | (right;simp;omega)
theorem Yby (prs:Prs) (ob:okB prs):∀ (ps:List Sh) (s:Nat),s≤45→Xx prs ps→wts ps≤1000→0≤(ps.map fun p=>cnt (bkO prs) p s).sum∧(ps.map fun p=>cnt (bkO prs) p s).sum≤2^(300*s+12*wts ps)
 | [],s,hs,h,hw=>⟨Int.le_refl _,Int.le_of_lt (Int.pow_pos (by decide))⟩
 | p::ps,s,hs,h,hw=>by
  rw [Xx] at h
  have ew:wts (p::ps)=wt p+wts ps:=by rw [wts]
  have wp:=Vd p
  obtain ⟨a1,a2⟩:=WR prs ob p s hs h.1 (by omega)
  obtain ⟨b1,b2⟩:=Yby prs ob ps s hs h.2 (by omega)
  rw [List.map_cons,List.sum_cons]
  have c1:=Int.le_trans a2 (WF (show 300*s+(12*wt p - 6)≤300*s+12*wts (p::ps) - 1 by omega))
  have c2:=Int.le_trans b2 (WF (show 300*s+12*wts ps≤300*s+12*wts (p::ps) - 1 by omega))
  obtain ⟨n,hn⟩:∃ n,300*s+12*wts (p::ps)=n+1:=⟨300*s+12*wts (p::ps) - 1,by omega⟩
  rw [hn,Nat.add_sub_cancel] at c1 c2
  rw [hn,Int.pow_succ]
  omega
termination_by ps s=>(s,sizeOf ps)
decreasing_by
 all_goals simp only [Prod.lex_def]
 all_goals first | (right;exact ⟨trivial,by simp;omega⟩) | (right;exact ⟨rfl,by simp;omega⟩) | (right;exact ⟨trivial,by simp⟩) | (left;omega) | (by_cases c:f<s;(left;exact c);(right;exact ⟨by omega,by simp;omega⟩)) | (by_cases c:s - f<s;(left;exact c);(right;exact ⟨by omega,by simp;omega⟩)) | (right;simp) | (right;simp;omega)
end
mutual
theorem UH:∀ sh:Sh,KO (kd sh)
 | .w _ _=>by rw [kd];exact .tup (.cons (.str _) (.cons (.int _) (.cons (.int _) .nil)))
 | .row ps=>by rw [kd];exact .tup (.cons (.str _) (.cons (.tup (YdB ps)) .nil))
 | .pick mk ps=>by rw [kd];exact .tup (.cons (.str _) (.cons (.tup (YdC mk ps)) .nil))
 | .use _=>by rw [kd];exact .tup (.cons (.str _) (.cons (.str _) .nil))
theorem YdB:∀ ps:List Sh,KOs (kds ps)
 | []=>by rw [kds];exact .nil
 | p::ps=>by rw [kds];exact .cons (UH p) (YdB ps)
theorem YdC:∀ (mk:List (List Nat)) (ps:List Sh),KOs (kdp mk ps)
 | m::mk,p::ps=>by rw [kdp];exact .cons (.tup (.cons (.str _) (.cons (UH p) .nil))) (YdC mk ps)
 | [],_=>by simp only [kdp];exact .nil
 | _::_,[]=>by simp only [kdp];exact .nil
end
theorem Xy {K:PySem.W.Frag} {H:Hp} {v:V} {ds:List PyData} (h:Den K H v (.tuple ds)):∃ b vs,v = .ref b∧SqT K H b vs∧Dens K H vs ds:=by
 cases h with
 | tup h1 h2=>exact ⟨_,_,rfl,h1,h2⟩
theorem Ve {K:PySem.W.Frag} {H:Hp} {v:V} {x:Str} (h:Den K H v (.str x)):v = .str x:=by cases h;rfl
theorem Ybz {K:PySem.W.Frag} {H:Hp} {v:V} {x:Int} (h:Den K H v (.int x)):v = .int x:=by cases h;rfl
theorem Y9 {K:PySem.W.Frag} {H:Hp} {vs:List V} {d:PyData} {ds:List PyData} (h:Dens K H vs (d::ds)):∃ v r,vs=v::r∧Den K H v d∧Dens K H r ds:=by
 cases h with
 | cons h1 h2=>exact ⟨_,_,rfl,h1,h2⟩
theorem Wj {K:PySem.W.Frag} {H:Hp} {vs:List V} (h:Dens K H vs []):vs=[]:=by cases h;rfl
theorem Yaw (sh:Sh):∃ ds,kd sh = .tuple ds:=by cases sh<;>exact ⟨_,by rw [kd]⟩
theorem Yax {K:PySem.W.Frag} {H:Hp}:∀ {ps:List Sh} {vs:List V},Dens K H vs (kds ps)→∃ bs:List Addr,vs=bs.map V.ref∧bs.length=ps.length∧∀ (i:Nat) b q,bs[i]?=some b→ps[i]?=some q→Den K H (.ref b) (kd q)
 | [],vs,h=>by
  rw [kds] at h
  exact ⟨[],Wj h,rfl,fun i b q h=>by simp at h⟩
 | p::ps,vs,h=>by
  rw [kds] at h
  obtain ⟨v,r,rfl,h1,h2⟩:=Y9 h
  obtain ⟨bs,rfl,hl,hb⟩:=Yax h2
  obtain ⟨ds,hd⟩:=Yaw p
  obtain ⟨b,_,rfl,_,_⟩:=Xy (by rw [hd] at h1;exact h1)
  refine ⟨b::bs,rfl,by simp [hl],fun i b' q e1 e2=>?_⟩
  cases i with
  | zero =>
   have z1:b=b':=Option.some.inj e1
   have z2:p=q:=Option.some.inj e2
   subst z1 z2
   exact h1
  | succ i=>exact hb i b' q (by simpa using e1) (by simpa using e2)
theorem Um {K:PySem.W.Frag} {H:Hp}:∀ {mk:List (List Nat)} {ps:List Sh} {vs:List V},mk.length=ps.length→Dens K H vs (kdp mk ps)→∃ ts bs:List Addr,vs=ts.map V.ref∧ts.length=ps.length∧bs.length=ps.length∧(∀ (i:Nat) T m b,ts[i]?=some T→mk[i]?=some m→bs[i]?=some b→SqT K H T [.str (S m),.ref b])∧∀ (i:Nat) b q,bs[i]?=some b→ps[i]?=some q→Den K H (.ref b) (kd q)
 | [],[],vs,_,h=>by
  rw [show kdp [] []=[] by simp [kdp]] at h
  exact ⟨[],[],Wj h,rfl,rfl,fun i T m b h=>by simp at h,fun i b q h=>by simp at h⟩
 | m::mk,p::ps,vs,hl,h=>by
  rw [kdp] at h
  obtain ⟨v,r,rfl,h1,h2⟩:=Y9 h
  obtain ⟨ts,bs,rfl,l1,l2,hT,hb⟩:=Um (by simpa using hl) h2
  obtain ⟨T,us,rfl,h3,h4⟩:=Xy h1
  obtain ⟨u1,r1,rfl,h5,h6⟩:=Y9 h4
  obtain ⟨u2,r2,rfl,h7,h8⟩:=Y9 h6
  have:=Wj h8
  subst this
  have:=Ve h5
  subst this
  obtain ⟨ds,hd⟩:=Yaw p
  obtain ⟨b,_,rfl,_,_⟩:=Xy (by rw [hd] at h7;exact h7)
  refine ⟨T::ts,b::bs,rfl,by simp [l1],by simp [l2],fun i T' m' b' e1 e2 e3=>?_,fun i b' q e1 e2=>?_⟩
  ·cases i with
   | zero =>
    have z1:T=T':=Option.some.inj e1
    have z2:m=m':=Option.some.inj e2
    have z3:b=b':=Option.some.inj e3
    subst z1 z2 z3
    exact h3
   | succ i=>exact hT i T' m' b' (by simpa using e1) (by simpa using e2) (by simpa using e3)
  ·cases i with
   | zero =>
    have z1:b=b':=Option.some.inj e1
    have z2:p=q:=Option.some.inj e2
    subst z1 z2
    exact h7
   | succ i=>exact hb i b' q (by simpa using e1) (by simpa using e2)
 | [],_::_,_,hl,_=>by simp at hl
 | _::_,[],_,hl,_=>by simp at hl
theorem Qy {q:Sh}:∀ {ps:List Sh},q∈ps→(kd q).depth≤PyData.depthAll (kds ps)
 | p::ps,h=>by
  rw [kds]
  simp only [PyData.depthAll]
  rcases List.mem_cons.mp h with rfl | h
  ·omega
  ·have:=Qy h
   omega
theorem Qz {q:Sh}:∀ {mk:List (List Nat)} {ps:List Sh},mk.length=ps.length→q∈ps→(kd q).depth≤PyData.depthAll (kdp mk ps)
 | m::mk,p::ps,hl,h=>by
  rw [kdp]
  simp only [PyData.depthAll,PyData.depth]
  rcases List.mem_cons.mp h with rfl | h
  ·omega
  ·have:=Qz (mk:=mk) (by simpa using hl) h
   omega
 | [],_::_,hl,_=>by simp at hl
def XH:Sh→List Sh
 | .row ps=>ps
 | .pick _ ps=>ps
 | _=>[]
section
variable {src:List (Option Nat)} {te:TE} {σ:St} {H:Hp} {Q:VK}
theorem UI {K:PySem.W.Frag} {tl:TE} {b:Addr} {xs:List V} (ps:List (V×V)) (ys:List V) (ha:∀ R:V→Hp→Prop,R (.ref b) H→tl σ H R) (hS:SqT K H b xs) (hp:∀ (i:Nat) x p,xs[i]?=some x→ps[i]?=some p→∃ T,x = .ref T∧SqT K H T [p.1,p.2]) (hl:ps.length=xs.length) (hl2:ys.length=xs.length) (hlen:xs.length≤100000)
  (step:∀ (i:Nat) p y H',ps[i]?=some p→ys[i]?=some y→Yk H H'→∀ R:VK,(∀ H'',Yk H' H''→R y H'')→te (some p.1::some p.2::YD src σ) H' R)
  (fin:∀ D H',H D=none→Yk H H'→H' D=some (.lst ys)→Q (.ref D) H'):tLC (none::none::src) (iTup K tl) (W2 K 2 (Xt (Yy 0) (Xt (Yy 1) Vl))) XT te σ H Q:=by
 refine ha _ ⟨b,rfl,⟨xs,hS⟩,fun D hD=>?_⟩
 have h6:100000<sizeLine:=by decide
 refine W0 (Qu.imp fun H' (e:Yk H H')=>e.tup hS) (fun i zs σ' H'=>zs=ys.take i∧(∃ o o',σ'=o::o'::YD src σ)∧Yk H H'∧H' D=some (.lst zs)) ⟨by simp,⟨none,none,rfl⟩,.upd_new hD _,Yg⟩ (fun i zs σ' H' p=>⟨p.2.2.1,p.2.2.2⟩) (Ue K 0 1) ?_ ?_
 ·rintro i zs σ' H' x hx ⟨rfl,⟨o,o',rfl⟩,sm,hd⟩
  have hi:=(List.getElem?_eq_some_iff.mp hx).1
  have hy:ys[i]?=some (ys[i]'(by omega)):=List.getElem?_eq_getElem _
  have hpi:ps[i]?=some (ps[i]'(by omega)):=List.getElem?_eq_getElem _
  obtain ⟨T,rfl,hT⟩:=hp i x _ hx hpi
  refine ⟨T,_,rfl,sm.tup hT,rfl,_,_,rfl,_,_,rfl,rfl,?_⟩
  refine step i _ _ H' hpi hy sm _ fun H'' s2=>⟨s2 _ _ hd,?_,(Xo hy).symm,⟨_,_,rfl⟩,.upd_over hD (sm.trans s2) _,Yg⟩
  rw [List.length_take];omega
 ·rintro zs σ' H' ⟨rfl,_,sm,hd⟩
  rw [← hl2,List.take_length] at hd
  exact fin D H' hD sm hd
theorem YcB {K:PySem.W.Frag} {tl:TE} (G:Addr→List V→Hp→Prop) (ha:∀ R:V→Hp→Prop,(∀ b xs H1,G b xs H1→R (.ref b) H1)→tl σ H R)
  (hb:∀ b xs H1,G b xs H1→SqL K H1 b xs∧xs.length≤100000∧∃ I:Addr→Nat→List V→Hp→Prop,(∀ D,H1 D=none→I D 0 [] (upd H1 D (.lst [])))∧(∀ D i zs H',H1 D=none→I D i zs H'→zs.length=i∧H' D=some (.lst zs)∧SqL K H' b xs) ∧
   (∀ D (i:Nat) x zs H',H1 D=none→xs[i]?=some x→I D i zs H'→∀ R:VK,(∀ y H'',H'' D=some (.lst zs)→I D (i+1) (zs++[y]) (upd H'' D (.lst (zs++[y])))→R y H'')→te (some x::YD src σ) H' R) ∧
   (∀ D zs H',H1 D=none→I D xs.length zs H'→Q (.ref D) H')):tLC (none::src) (WA K tl) (Yy 0) XT te σ H Q:=by
 refine ha _ fun b xs H1 hG=>?_
 obtain ⟨hS,hlen,I,i0,dl,step,fin⟩:=hb b xs H1 hG
 refine ⟨b,rfl,⟨xs,hS⟩,fun D hD=>?_⟩
 have h6:100000<sizeLine:=by decide
 refine W0 X2 (fun i zs σ' H'=>(∃ o,σ'=o::YD src σ)∧i≤xs.length∧I D i zs H') ⟨⟨none,rfl⟩,Nat.zero_le _,i0 D hD⟩ (fun i zs σ' H' q=>⟨(dl _ _ _ _ hD q.2.2).2.2,(dl _ _ _ _ hD q.2.2).2.1⟩) (XM 0) ?_ ?_
 ·rintro i zs σ' H' x hx ⟨⟨o,rfl⟩,_,hI⟩
  have hi:i<xs.length:=(List.getElem?_eq_some_iff.mp hx).1
  have hl:=(dl _ _ _ _ hD hI).1
  show te (some x::YD src σ) H' _
  exact step D i x zs H' hD hx hI _ fun y H'' hd hI'=>⟨hd,by omega,⟨_,rfl⟩,hi,hI'⟩
 ·rintro zs σ' H' ⟨_,_,hI⟩
  exact fin D zs H' hD hI
end
theorem Uo {K:PySem.W.Frag} {H:Hp} {a:Addr} {x:Str} {d:PyData} (h:Den K H (.ref a) (.tuple [.str x,d])):∃ v,SqT K H a [.str x,v]∧Den K H v d:=by
 obtain ⟨b,vs,e,h1,h2⟩:=Xy h
 have:=V.ref.inj e
 subst this
 obtain ⟨u1,r1,rfl,h5,h6⟩:=Y9 h2
 obtain ⟨u2,r2,rfl,h7,h8⟩:=Y9 h6
 have:=Wj h8
 subst this
 have:=Ve h5
 subst this
 exact ⟨u2,h1,h7⟩
theorem Yep {q:Sh} {prs:Prs} {sh:Sh} (hok:okS prs sh) (h:q∈XH sh):(kd q).depth≤(kd sh).depth:=by
 cases sh with
 | row ps =>
  have:=Qy (ps:=ps) h
  rw [show kd (.row ps) = .tuple [.str "row",.tuple (kds ps)] by rw [kd]]
  simp only [PyData.depth,PyData.depthAll]
  omega
 | pick mk ps =>
  rw [okS] at hok
  have:=Qz (ps:=ps) hok.1 h
  rw [show kd (.pick mk ps) = .tuple [.str "pick",.tuple (kdp mk ps)] by rw [kd]]
  simp only [PyData.depth,PyData.depthAll]
  omega
 | _=>cases h
theorem YbA {K:PySem.W.Frag} {H:Hp} {a b:Addr} {prs:Prs} {sh q:Sh} (hk:DK K H a (kd sh)) (hok:okS prs sh) (h:q∈XH sh) (hb:Den K H (.ref b) (kd q)):DK K H b (kd q):=⟨hb,UH q,Nat.le_trans (Yep hok h) hk.dp⟩
inductive Z2h (K:PySem.W.Frag) (vs:List V) (H:Hp) (Q:VK) (E_:XK):Prop
 | mk (prs:Prs) (a:Addr) (sh:Sh) (h0:vs=[.ref a]) (h1:DK K H a (kd sh)) (h2:okS prs sh) (h3:(kind sh=2∨kind sh=3)) (h4:∀ D (bs:List Addr) H',Yk H H'→H D=none→H' D=some (.lst (bs.map V.ref))→bs.length=(XH sh).length→(∀ (i:Nat) b q,bs[i]?=some b→(XH sh)[i]?=some q→DK K H b (kd q))→Q (.ref D) H')
theorem Ya1 {Z6 Z5 Z1 Z2 Z4 Z3 Z0:Addr} {c_law P_law:Addr} (R:g.Raw "parts_of" "parts_of" Z2y ["shape"]) (b_list:g.mg "list"=none):g.Fn (1) "parts_of" ["shape"] (Z2h g.K):=by
 refine R.fn Z3H (fun vs H Q E h=>by obtain ⟨prs,a,sh,rfl,hk,hok,hki,q⟩:=h;rfl) fun f_ cdv A outer s H vs Q E hr h=>?_
 obtain ⟨prs,a,sh,rfl,hk,hok,hki,q⟩:=h
 refine ⟨_,(@Ye _ _ _ _ _ (@Yq _ _ (1) _ _ _ _ Z3H.nd rfl (.inl rfl) (@Yn _ _ _ _ _ _ _ YL (pv 0) Yf (fun _ _=>rfl)) (by rfl) (by first | exact .inl rfl | exact .inr rfl | assumption)) (@Ye _ _ _ _ _ (@YV _ _ _ _ _ _ _ _ (@Yt _ _ _ _ _ _ _ _ Xa (pv 1) Y7 (Yv _)) (@Yh _ _ _ (@Ym _ _ _ _ (@QM _ _ _ _ _ _ _ _ _ _ b_list Yac (@Ya _ _ _ _ _ (@Yn _ _ _ _ _ _ _ YL (pv 0) Yf (fun _ _=>rfl)) Yc (by rfl)) (by decide +kernel) (by rfl) (by rfl) (by decide) (by decide) (by rfl) (by rfl)))) YJ) (@Ye _ _ _ _ _ (@YV _ _ _ _ _ _ _ _ (@Yt _ _ _ _ _ _ _ _ Xa (pv 1) Y7 (Yv _)) (@Yh _ _ _ (@Ym _ _ _ _ (@XF _ _ _ _ _ _ _ ([none,none]) ((["mark","part"]:List Str)) _ (W2 g.K 2 (Xt (Yy 0) (Xt (Yy 1) Vl))) _ _ (.own (.own .nil)) rfl (@Q3 _ _ _ _ (@Yn _ _ _ _ _ _ _ YL (pv 0) Yf (fun _ _=>rfl))) (fun cl C s₀ H₀ fp pn=>(@VD _ _ _ _ _ (2) rfl (@Xq _ _ _ _ _ (@Yx _ _ (0) _ (show List.Nodup (["mark","part"]:List Str) by decide +kernel) rfl (.inl rfl) (.inr rfl)) (@Xq _ _ _ _ _ (@Yx _ _ (1) _ (show List.Nodup (["mark","part"]:List Str) by decide +kernel) rfl (.inl rfl) (.inr rfl)) W6 (by rfl)) (by rfl)) (by rfl) (by rfl))) (fun cl C s₀ H₀ fp pn=>Xb) (fun cl C s₀ H₀ fp pn=>(pv 1)) (by intro x hx;simp at hx) (by rfl) (by decide) (by decide +kernel) (by intro _;rfl)))) YJ) (@Ye _ _ _ _ _ Xp (@Yh _ _ _ Xp))))),?_⟩
 walk_at "rd"
 cases sh with
 | row ps =>
  have hd:=hk.den
  rw [kd] at hd
  obtain ⟨v,hT,hv⟩:=Uo hd
  obtain ⟨b,vs,rfl,hb,hvs⟩:=Xy hv
  obtain ⟨bs,rfl,hl,hbs⟩:=Yax hvs
  exact ⟨_,hT,_,Yu (j:=0) rfl,Xc _ _,X3 rfl ⟨_,hT,_,Yu (j:=1) rfl,b,rfl,_,.inr hb,fun l hl'=>q l bs _ (.upd_new hl' _) hl' Yg hl fun i b' q' h1 h2=>YbA hk hok (List.mem_of_getElem? h2) (hbs i b' q' h1 h2)⟩⟩
 | pick mk ps =>
  have hd:=hk.den
  have hok':=hok
  rw [okS] at hok'
  rw [kd] at hd
  obtain ⟨v,hT,hv⟩:=Uo hd
  obtain ⟨b,vs,rfl,hb,hvs⟩:=Xy hv
  obtain ⟨ts,bs,rfl,hl1,hl2,hts,hbs⟩:=Um hok'.1 hvs
  refine ⟨_,hT,_,Yu (j:=0) rfl,Xc _ _,YZ (by decide +kernel) ⟨Xc _ _,X3 rfl ?_⟩⟩
  have hlz:((mk.zip bs).map fun p=>(V.str (S p.1),V.ref p.2)).length=bs.length:=by rw [List.length_map,List.length_zip];omega
  refine UI (K:=g.K) (b:=b) (xs:=ts.map V.ref) ((mk.zip bs).map fun p=>(V.str (S p.1),V.ref p.2)) (bs.map V.ref) (fun R r=>by walk_at "rd";exact ⟨_,hT,_,Yu (j:=1) rfl,r⟩) hb ?_ (by rw [hlz,List.length_map];omega) (by rw [List.length_map,List.length_map];omega) (by rw [List.length_map];omega) ?_ ?_
  ·intro i x p hx hp
   rw [List.getElem?_map] at hx hp
   obtain ⟨T,hT',rfl⟩:=Option.map_eq_some_iff.mp hx
   obtain ⟨⟨m,b'⟩,hz,rfl⟩:=Option.map_eq_some_iff.mp hp
   rw [List.getElem?_zip_eq_some] at hz
   exact ⟨T,rfl,hts i T m b' hT' hz.1 hz.2⟩
  ·intro i p y H' hp hy sm R r
   rw [List.getElem?_map] at hp hy
   obtain ⟨⟨m,b'⟩,hz,rfl⟩:=Option.map_eq_some_iff.mp hp
   rw [List.getElem?_zip_eq_some] at hz
   rw [hz.2] at hy
   have:V.ref b'=y:=Option.some.inj hy
   subst this
   walk_at "rd"
   exact r H' (.refl _)
  ·intro D H' hD sm hd'
   exact q D bs H' sm hD hd' hl2 fun i b' q' h1 h2=>YbA hk hok (List.mem_of_getElem? h2) (hbs i b' q' h1 h2)
 | _=>simp [kind] at hki
def t0 (U:Addr→Prop):Sw:=⟨fun _=>0,fun _ _=>0,U⟩
structure BI (C:Cs) (w:Wo) (U O:Addr→Prop) (H:Hp):Prop where
 at_:∀ p sh,w.reg p=some sh→¬ O p→X7 C w (t0 U) H p sh
 op:∀ p,O p→∃ x dx c,w.reg p=some (.use x)∧Un w (t0 U) p∧(∀ s,s≤45→sm (cnt w.bk (.use x) s))∧H p=some (.ins C.use dx (mf c (fU .non)))∧w.D c=some (p,0)∧H c=some (.lst [])
 al:∀ b,U b→H b≠none
 ow:∀ b x,w.D b=some x→U b
 oo:∀ b q i,w.D b=some (q,i)→U q
 inj:∀ b b' x,w.D b=some x→w.D b'=some x→b=b'
structure WG (w w':Wo) (U U':Addr→Prop) (H:Hp):Prop where
 bk:w'.bk=w.bk
 M:w'.M=w.M
 reg:∀ p sh,w.reg p=some sh→w'.reg p=some sh
 D:∀ b,U b→w'.D b=w.D b
 u1:∀ b,U b→U' b
 u2:∀ b,U' b→U b∨H b=none
theorem WG.refl (w:Wo) (U:Addr→Prop) (H:Hp):WG w w U U H:=⟨rfl,rfl,fun _ _ h=>h,fun _ _=>rfl,fun _ h=>h,fun _ h => .inl h⟩
theorem WG.trans {w w1 w2:Wo} {U U1 U2:Addr→Prop} {H H1:Hp} (a:WG w w1 U U1 H) (b:WG w1 w2 U1 U2 H1) (h:∀ x,H x≠none→H1 x≠none):WG w w2 U U2 H :=
 ⟨b.bk.trans a.bk,b.M.trans a.M,fun p sh e=>b.reg p sh (a.reg p sh e),fun x e=>(b.D x (a.u1 x e)).trans (a.D x e),fun x e=>b.u1 x (a.u1 x e),fun x e=>by
  rcases b.u2 x e with e | e
  ·exact a.u2 x e
  ·cases c:H x with
   | none=>exact .inr rfl
   | some o=>exact absurd e (h x (by rw [c];intro z;cases z))⟩
theorem Wv.grow {w w':Wo} {U U':Addr→Prop} {H:Hp} (G:WG w w' U U' H) {as:List Addr} {ps:List Sh} (h:Wv w.reg as ps):Wv w'.reg as ps:=⟨h.1,fun i a p h1 h2=>G.reg _ _ (h.2 i a p h1 h2)⟩
theorem Wv.toM {w:Wo} {U:Addr→Prop} {p:Addr} {as:List Addr} {ps:List Sh} (h:Wv w.reg as ps):RegM w (t0 U) p as ps:=⟨h.1,h.2,fun _ _ _=>Nat.le_refl _⟩
theorem Wv.toC {w:Wo} {U:Addr→Prop} {p:Addr} {as:List Addr} {ps:List Sh} (h:Wv w.reg as ps):RegC w (t0 U) p as ps:=⟨h.1,h.2,fun _ _=>Nat.le_refl _⟩
theorem RegM.grow {w w':Wo} {U U':Addr→Prop} {H:Hp} {p:Addr} (G:WG w w' U U' H) {as:List Addr} {ps:List Sh} (h:RegM w (t0 U) p as ps):RegM w' (t0 U') p as ps:=⟨h.1,fun i a p h1 h2=>G.reg _ _ (h.2 i a p h1 h2),fun _ _ _=>Nat.le_refl _⟩
theorem RegC.grow {w w':Wo} {U U':Addr→Prop} {H:Hp} {p:Addr} (G:WG w w' U U' H) {as:List Addr} {ps:List Sh} (h:RegC w (t0 U) p as ps):RegC w' (t0 U') p as ps:=⟨h.1,fun i a p h1 h2=>G.reg _ _ (h.2 i a p h1 h2),fun _ _=>Nat.le_refl _⟩
theorem Sub.grow {C:Cs} {w w':Wo} {U U':Addr→Prop} {H H' H0:Hp} {p:Addr} (G:WG w w' U U' H0) (ow:∀ b x,w.D b=some x→U b) (hk:∀ b o,U b→H b=some o→H' b=some o):∀ {sh:Sh} {fs:List (Str×V)},Sub C w (t0 U) H p sh fs→Sub C w' (t0 U') H' p sh fs
 | .w lo span,fs,h=>h
 | .row ps,fs,h=>by
  obtain ⟨P,T,dt,L,as,ws,h1,h2,h3,h4,h5,h6,h7,h8,h9,h10,h11,h12⟩:=h
  have un:∀ {b:Addr},Un w (t0 U) b→Un w' (t0 U') b:=fun z=>⟨(G.D _ z.2).trans z.1,G.u1 _ z.2⟩
  refine ⟨P,T,dt,L,as,ws,h1,un h2,un h3,un h4,hk _ _ h2.2 h5,h6.grow G,h7,hk _ _ h3.2 h8,hk _ _ h4.2 h9,h10,fun i x hx=>?_,by rw [G.bk];exact h12⟩
  obtain ⟨k1,k2,k3,k4⟩:=h11 i x hx
  exact ⟨(G.D _ (ow _ _ k1)).trans k1,k2,k3,by rw [G.bk];exact hk _ _ (ow _ _ k1) k4⟩
 | .pick mk ps,fs,h=>by
  obtain ⟨M,P,as,h1,h2,h3,h4,h5,h6,h7⟩:=h
  have un:∀ {b:Addr},Un w (t0 U) b→Un w' (t0 U') b:=fun z=>⟨(G.D _ z.2).trans z.1,G.u1 _ z.2⟩
  exact ⟨M,P,as,h1,un h2,un h3,hk _ _ h2.2 h4,hk _ _ h3.2 h5,h6.grow G,h7⟩
 | .use x,fs,⟨a,h1,h2,_⟩=>⟨a,h1,by rw [G.bk];exact G.reg _ _ h2,Nat.zero_le _⟩
theorem X7.grow {C:Cs} {w w':Wo} {U U':Addr→Prop} {H H' H0:Hp} {p:Addr} {sh:Sh} (G:WG w w' U U' H0) (ow:∀ b x,w.D b=some x→U b) (hk:∀ b o,U b→H b=some o→H' b=some o) (h:X7 C w (t0 U) H p sh):X7 C w' (t0 U') H' p sh:=by
 obtain ⟨dx,c,fs,h1,h2,h3,h4,h5,h6,h7,h8⟩:=h
 exact ⟨dx,c,fs,⟨(G.D _ h1.2).trans h1.1,G.u1 _ h1.2⟩,by rw [G.M];exact h2,by rw [G.bk];exact h3,h4,hk _ _ h1.2 h5,(G.D _ (ow _ _ h6)).trans h6,by rw [G.bk];exact hk _ _ (ow _ _ h6) h7,h8.grow G ow hk⟩
theorem BI.keep {C:Cs} {w:Wo} {U O:Addr→Prop} {H H':Hp} (B:BI C w U O H) (hk:∀ b o,U b→H b=some o→H' b=some o):BI C w U O H':=by
 refine ⟨fun p sh hr ho=>(B.at_ p sh hr ho).grow (.refl w U H) B.ow hk,fun p hp=>?_,fun b hb=>?_,B.ow,B.oo,B.inj⟩
 ·obtain ⟨x,dx,c,h1,h2,h3,h4,h5,h6⟩:=B.op p hp
  exact ⟨x,dx,c,h1,h2,h3,hk _ _ h2.2 h4,h5,hk _ _ (B.ow _ _ h5) h6⟩
 ·cases e:H b with
  | none=>exact absurd e (B.al b hb)
  | some o=>rw [hk b o hb e];intro z;cases z
def Wo.add (w:Wo) (p:Addr) (sh:Sh) (os:List Addr):Wo:={ w with reg:=fun q=>if q=p then some sh else w.reg q,D:=fun b=>if b∈os then some (p,os.idxOf b) else w.D b }
def Ua (U:Addr→Prop) (os ss:List Addr):Addr→Prop:=fun b=>U b∨b∈os∨b∈ss
theorem BI.regU {C:Cs} {w:Wo} {U O:Addr→Prop} {H:Hp} (B:BI C w U O H) {p:Addr} {sh:Sh} (h:w.reg p=some sh):U p:=by
 by_cases o:O p
 ·obtain ⟨x,dx,c,h1,h2,_⟩:=B.op p o
  exact h2.2
 ·obtain ⟨dx,c,fs,h1,_⟩:=B.at_ p sh h o
  exact h1.2
theorem Yfx {os:List Addr} {a b:Addr} (ha:a∈os) (hb:b∈os) (h:os.idxOf a=os.idxOf b):a=b:=by
 have h1:=List.getElem_idxOf (List.idxOf_lt_length_of_mem ha)
 have h2:=List.getElem_idxOf (List.idxOf_lt_length_of_mem hb)
 have:os[os.idxOf a]'(List.idxOf_lt_length_of_mem ha)=os[os.idxOf b]'(List.idxOf_lt_length_of_mem hb):=by congr 1
 rw [h1,h2] at this
 exact this
theorem YdD:∀ {os:List Addr} {i:Nat} {a:Addr},os.Nodup→os[i]?=some a→os.idxOf a=i
 | b::os,0,a,hn,h=>by
  have:b=a:=Option.some.inj h
  subst this
  exact List.idxOf_cons_self
 | b::os,i+1,a,hn,h=>by
  have h':os[i]?=some a:=by simpa using h
  have hne:b≠a:=fun z=>by
   rw [List.nodup_cons] at hn
   exact hn.1 (by rw [z];exact List.mem_of_getElem? h')
  have ih:=YdD (List.nodup_cons.mp hn).2 h'
  rw [List.idxOf_cons,ih]
  have e:(b==a)=false:=by simpa using hne
  rw [e];rfl
structure New (H H':Hp) (U:Addr→Prop) (p:Addr) (os ss:List Addr):Prop where
 nu:∀ b,b∈os∨b∈ss→¬ U b
 inn:p∈ss
 nd:os.Nodup
 ap:∀ b∈os,b∉ss
 keep:∀ b o,U b→H b=some o→H' b=some o
 there:∀ b,b∈os∨b∈ss→H' b≠none
theorem New.wg {C:Cs} {w:Wo} {U O:Addr→Prop} {H H' H0:Hp} {p:Addr} {os ss:List Addr} (N:New H H' U p os ss) (B:BI C w U O H) (sh:Sh) (h0:∀ b,b∈os∨b∈ss→H0 b=none):WG w (w.add p sh os) U (Ua U os ss) H0:=by
 refine ⟨rfl,rfl,fun q s e=>?_,fun b hb=>?_,fun b h => .inl h,fun b h=>?_⟩
 ·show (if q=p then some sh else w.reg q)=some s
  rw [if_neg fun z=>?_]
  ·exact e
  ·subst z
   exact N.nu _ (.inr N.inn) (B.regU e)
 ·show (if b∈os then _ else w.D b)=w.D b
  rw [if_neg fun z=>N.nu _ (.inl z) hb]
 ·rcases h with h | h
  ·exact .inl h
  ·exact .inr (h0 b h)
theorem New.un {C:Cs} {w:Wo} {U O:Addr→Prop} {H H':Hp} {p:Addr} {os ss:List Addr} (N:New H H' U p os ss) (B:BI C w U O H) (sh:Sh) {b:Addr} (hb:b∈ss):Un (w.add p sh os) (t0 (Ua U os ss)) b:=by
 refine ⟨?_,.inr (.inr hb)⟩
 show (if b∈os then _ else w.D b)=none
 rw [if_neg fun z=>N.ap b z hb]
 cases e:w.D b with
 | none=>rfl
 | some x=>exact absurd (B.ow b x e) (N.nu b (.inr hb))
theorem New.dat {w:Wo} {U:Addr→Prop} {H H':Hp} {p:Addr} {os ss:List Addr} (N:New H H' U p os ss) (sh:Sh) {i:Nat} {b:Addr} (hb:os[i]?=some b):(w.add p sh os).D b=some (p,i):=by
 show (if b∈os then some (p,os.idxOf b) else w.D b)=_
 rw [if_pos (List.mem_of_getElem? hb),YdD N.nd hb]
theorem New.bi {C:Cs} {w:Wo} {U O O':Addr→Prop} {H H':Hp} {p:Addr} {os ss:List Addr} {sh:Sh} (N:New H H' U p os ss) (B:BI C w U O H) (h1:∀ q,q≠p→(O' q↔O q)) (hm:¬ O' p→X7 C (w.add p sh os) (t0 (Ua U os ss)) H' p sh)
  (ho:O' p→∃ x dx c,sh = .use x∧Un (w.add p sh os) (t0 (Ua U os ss)) p∧(∀ s,s≤45→sm (cnt w.bk (.use x) s))∧H' p=some (.ins C.use dx (mf c (fU .non)))∧(w.add p sh os).D c=some (p,0)∧H' c=some (.lst [])):BI C (w.add p sh os) (Ua U os ss) O' H':=by
 have G:=N.wg (H0:=fun _=>none) B sh fun _ _=>rfl
 have hpr:∀ {q:Addr} {s:Sh},(w.add p sh os).reg q=some s→q≠p→w.reg q=some s:=fun {q s} e n=>by
  have:(if q=p then some sh else w.reg q)=some s:=e
  rwa [if_neg n] at this
 refine ⟨fun q s hq ho'=>?_,fun q hq=>?_,fun b hb=>?_,fun b x e=>?_,fun b q i e=>?_,fun b b' x e e'=>?_⟩
 ·by_cases c:q=p
  ·subst c
   have:(if q=q then some sh else w.reg q)=some s:=hq
   rw [if_pos rfl] at this
   have:=Option.some.inj this
   subst this
   exact hm ho'
  ·exact (B.at_ q s (hpr hq c) fun z=>ho' ((h1 q c).mpr z)).grow G B.ow N.keep
 ·by_cases c:q=p
  ·subst c
   obtain ⟨x,dx,c,e1,e2,e3,e4,e5,e6⟩:=ho hq
   subst e1
   exact ⟨x,dx,c,if_pos rfl,e2,e3,e4,e5,e6⟩
  ·obtain ⟨x,dx,c',e1,e2,e3,e4,e5,e6⟩:=B.op q ((h1 q c).mp hq)
   exact ⟨x,dx,c',G.reg _ _ e1,⟨(G.D _ e2.2).trans e2.1,G.u1 _ e2.2⟩,e3,N.keep _ _ e2.2 e4,(G.D _ (B.ow _ _ e5)).trans e5,N.keep _ _ (B.ow _ _ e5) e6⟩
 ·rcases hb with hb | hb
  ·cases e:H b with
   | none=>exact absurd e (B.al b hb)
   | some o=>rw [N.keep b o hb e];intro z;cases z
  ·exact N.there b hb
 ·have e:(if b∈os then some (p,os.idxOf b) else w.D b)=some x:=e
  by_cases c:b∈os
  ·exact .inr (.inl c)
  ·rw [if_neg c] at e
   exact .inl (B.ow b x e)
 ·have e:(if b∈os then some (p,os.idxOf b) else w.D b)=some (q,i):=e
  by_cases c:b∈os
  ·rw [if_pos c] at e
   injection e with e
   injection e with e _
   rw [← e]
   exact .inr (.inr N.inn)
  ·rw [if_neg c] at e
   exact .inl (B.oo b q i e)
 ·have e:(if b∈os then some (p,os.idxOf b) else w.D b)=some x:=e
  have e':(if b'∈os then some (p,os.idxOf b') else w.D b')=some x:=e'
  have nop:∀ {y:Addr} {i:Nat},w.D y=some (p,i)→False:=fun z=>N.nu _ (.inr N.inn) (B.oo _ _ _ z)
  by_cases c:b∈os
  ·rw [if_pos c] at e
   by_cases c':b'∈os
   ·rw [if_pos c'] at e'
    rw [← e'] at e
    injection e with e
    injection e with _ e
    exact Yfx c c' e
   ·rw [if_neg c',← e] at e'
    exact (nop e').elim
  ·rw [if_neg c] at e
   by_cases c':b'∈os
   ·rw [if_pos c'] at e'
    rw [← e'] at e
    exact (nop e).elim
   ·rw [if_neg c'] at e'
    exact B.inj b b' x e e'
theorem BI.wi {C:Cs} {w:Wo} {U O:Addr→Prop} {H:Hp} (B:BI C w U O H) (h:∀ p,¬ O p):WI C w (t0 U) H:=⟨fun p sh e=>B.at_ p sh e (h p),B.al,B.ow,B.inj⟩
theorem XI {fs:List (Str×V)} (h:fs.length≤3):fs.length<1000:=by omega
def isC (C:Cs) (c:Addr):Prop:=c=C.w∨c=C.row∨c=C.pick∨c=C.use
inductive Z0v (C:Cs) (vs:List V) (H:Hp) (Q:VK) (E_:XK):Prop
 | mk (p dx cl:Addr) (h0:vs=[.ref p]) (h1:isC C cl) (h2:H p=some (.ins cl dx [])) (h3:∀ c,H c=none→Q .non (upd (upd H c (.lst [])) p (.ins cl dx [("counts",.ref c)])))
theorem Z3z {Z6 Z5 Z1 Z2 Z4 Z3 Z0:Addr} {c_law P_law:Addr} (R:g.RawC "Maker" "__init__" "Maker.__init__" Z1c ["self"]) (Zc:Cls g.K Z1) (Z9:Yb g.K Z1 "counts") (Zg:Yb g.K Z1 "marks") (Ze:Yb g.K Z1 "parts") (Zi:Cls g.K Z2) (Za:Yb g.K Z2 "counts") (Zl:Yb g.K Z2 "parts") (Zj:Yb g.K Z2 "table") (Zk:Cls g.K Z3) (Zb:Yb g.K Z3 "counts") (Zh:Yb g.K Z3 "named") (Z8:Cls g.K Z0) (Z7:Yb g.K Z0 "counts") (Zf:Yb g.K Z0 "low") (Zd:Yb g.K Z0 "span"):g.Cf (1) "Maker" "__init__" ["self"] (Z0v (Cs.mk Z0 Z2 Z4 Z1 Z3)):=by
 refine R.cf Z3x (fun vs H Q E h=>by obtain ⟨p,dx,cl,rfl,hC,hp,q⟩:=h;rfl) fun f_ cdv A outer s H vs Q E hr h=>?_
 obtain ⟨p,dx,cl,rfl,hC,hp,q⟩:=h
 refine ⟨_,(@Yh _ _ _ (@Xh _ _ _ _ _ _ _ _ (pv 0) (@W7 _ _ _ _ Yc) rfl)),?_⟩
 walk_at "rd"
 refine ⟨few (by decide),fun c hc=>⟨cl,dx,[],by rw [Yd (Yj hp hc)];exact hp,?_,?_,by decide,q c hc⟩⟩
 ·rcases hC with rfl | rfl | rfl | rfl<;>assumption
 ·rcases hC with rfl | rfl | rfl | rfl<;>assumption
theorem n1 {a b:Str} (h:(a==b)=false):¬ a=b:=fun z=>by rw [z] at h;simp at h
theorem YcC {f:Str} {v:V} {c:Addr} (h:¬ (("counts":Str)=f)):YS f v [("counts",.ref c)]=mf c [(f,v)]:=by simp only [YS,if_neg h];rfl
theorem put2 {f f':Str} {v v':V} {c:Addr} (h:¬ (("counts":Str)=f)) (h2:¬ f'=f):YS f v (mf c [(f',v')])=mf c [(f',v'),(f,v)]:=by
 show YS f v [(("counts":Str),V.ref c),(f',v')]=_
 simp only [YS,if_neg h,if_neg h2];rfl
inductive Z3V (C:Cs) (vs:List V) (H:Hp) (Q:VK) (E_:XK):Prop
 | mk (p dx:Addr) (lo:Int) (span:Nat) (h0:vs=[.ref p,.int lo,.int (lo+span)]) (h1:H p=some (.ins C.w dx [])) (h2:∀ c H',H c=none→SameBut p H H'→H' p=some (.ins C.w dx (mf c (fW lo span)))→H' c=some (.lst [])→Q .non H')
theorem Z2i {k:Nat} {Z6 Z5 Z1 Z2 Z4 Z3 Z0:Addr} {c_law P_law:Addr} (R:g.RawI "WholeMaker" Z0 "WholeMaker.__init__" Z0b ["self","low","high"]) (ZR:g.Cf k "Maker" "__init__" ["self"] (Z0v (Cs.mk Z0 Z2 Z4 Z1 Z3))) (Z8:Cls g.K Z0) (Z7:Yb g.K Z0 "counts") (Zf:Yb g.K Z0 "low") (Zd:Yb g.K Z0 "span"):g.Ma (k+1) "WholeMaker" Z0 ["self","low","high"] (Z3V (Cs.mk Z0 Z2 Z4 Z1 Z3)):=by
 refine R.ma Z2c (fun vs H Q E h=>by obtain ⟨p,dx,lo,span,rfl,hp,q⟩:=h;rfl) fun f_ cdv A outer s H vs Q E hr h=>?_
 obtain ⟨p,dx,lo,span,rfl,hp,q⟩:=h
 refine ⟨_,(@Ye _ _ _ _ _ (@Y2 _ _ _ _ (@QO _ _ _ _ _ _ _ _ _ _ _ _ _ _ _ ZR hr (@Ya _ _ _ _ _ (pv 0) Yc (by rfl)) (by omega) (by rfl) (by rfl) (by decide) (by rfl) (by rfl) (by rfl)) (by rfl)) (@Ye _ _ _ _ _ (@Xh _ _ _ _ _ _ _ _ (pv 0) (pv 1) rfl) (@Yh _ _ _ (@Xh _ _ _ _ _ _ _ _ (pv 0) (@Yl _ _ _ _ _ _ _ _ Xm (pv 2) (pv 1)) rfl)))),?_⟩
 walk_at "rd"
 refine ⟨p,dx,_,rfl,.inl rfl,hp,fun c hc=>?_⟩
 have hne:p≠c:=Yj hp hc
 refine ⟨_,dx,_,Yg,Z8,Zf,XI (show 1≤3 by decide),_,dx,_,Yg,Z8,Zd,XI (Nat.le_trans (Xr _ _ _) (show 2≤3 by decide)),?_⟩
 refine q c _ hc (fun x o hx h=>?_) ?_ ?_
 ·rw [Yd hx,Yd hx,Yd hx,Yd (Yj h hc)];exact h
 ·rw [Yg,show lo+(span:Int) - lo=span by omega,YcC (n1 (by decide +kernel)),put2 (n1 (by decide +kernel)) (n1 (by decide +kernel))];rfl
 ·rw [Yd (Ne.symm hne),Yd (Ne.symm hne),Yd (Ne.symm hne),Yg]
inductive Z3W (C:Cs) (vs:List V) (H:Hp) (Q:VK) (E_:XK):Prop
 | mk (p dx M P:Addr) (h0:vs=[.ref p,.ref M,.ref P]) (h1:H p=some (.ins C.pick dx [])) (h2:∀ c H',H c=none→SameBut p H H'→H' p=some (.ins C.pick dx (mf c (fP M P)))→H' c=some (.lst [])→Q .non H')
theorem Z2r {k:Nat} {Z6 Z5 Z1 Z2 Z4 Z3 Z0:Addr} {c_law P_law:Addr} (R:g.RawI "PickMaker" Z1 "PickMaker.__init__" Z0l ["self","marks","parts"]) (ZR:g.Cf k "Maker" "__init__" ["self"] (Z0v (Cs.mk Z0 Z2 Z4 Z1 Z3))) (Zc:Cls g.K Z1) (Z9:Yb g.K Z1 "counts") (Zg:Yb g.K Z1 "marks") (Ze:Yb g.K Z1 "parts"):g.Ma (k+1) "PickMaker" Z1 ["self","marks","parts"] (Z3W (Cs.mk Z0 Z2 Z4 Z1 Z3)):=by
 refine R.ma Z2n (fun vs H Q E h=>by obtain ⟨p,dx,M,P,rfl,hp,q⟩:=h;rfl) fun f_ cdv A outer s H vs Q E hr h=>?_
 obtain ⟨p,dx,M,P,rfl,hp,q⟩:=h
 refine ⟨_,(@Ye _ _ _ _ _ (@Y2 _ _ _ _ (@QO _ _ _ _ _ _ _ _ _ _ _ _ _ _ _ ZR hr (@Ya _ _ _ _ _ (pv 0) Yc (by rfl)) (by omega) (by rfl) (by rfl) (by decide) (by rfl) (by rfl) (by rfl)) (by rfl)) (@Ye _ _ _ _ _ (@Xh _ _ _ _ _ _ _ _ (pv 0) (pv 1) rfl) (@Yh _ _ _ (@Xh _ _ _ _ _ _ _ _ (pv 0) (pv 2) rfl)))),?_⟩
 walk_at "rd"
 refine ⟨p,dx,_,rfl,.inr (.inr (.inl rfl)),hp,fun c hc=>?_⟩
 have hne:p≠c:=Yj hp hc
 refine ⟨_,dx,_,Yg,Zc,Zg,XI (show 1≤3 by decide),_,dx,_,Yg,Zc,Ze,XI (Nat.le_trans (Xr _ _ _) (show 2≤3 by decide)),?_⟩
 refine q c _ hc (fun x o hx h=>?_) ?_ ?_
 ·rw [Yd hx,Yd hx,Yd hx,Yd (Yj h hc)];exact h
 ·rw [Yg,YcC (n1 (by decide +kernel)),put2 (n1 (by decide +kernel)) (n1 (by decide +kernel))];rfl
 ·rw [Yd (Ne.symm hne),Yd (Ne.symm hne),Yd (Ne.symm hne),Yg]
inductive Z3X (C:Cs) (vs:List V) (H:Hp) (Q:VK) (E_:XK):Prop
 | mk (p dx:Addr) (h0:vs=[.ref p]) (h1:H p=some (.ins C.use dx [])) (h2:∀ c H',H c=none→SameBut p H H'→H' p=some (.ins C.use dx (mf c (fU .non)))→H' c=some (.lst [])→Q .non H')
theorem Z2O {k:Nat} {Z6 Z5 Z1 Z2 Z4 Z3 Z0:Addr} {c_law P_law:Addr} (R:g.RawI "UseMaker" Z3 "UseMaker.__init__" Z0G ["self"]) (ZR:g.Cf k "Maker" "__init__" ["self"] (Z0v (Cs.mk Z0 Z2 Z4 Z1 Z3))) (Zk:Cls g.K Z3) (Zb:Yb g.K Z3 "counts") (Zh:Yb g.K Z3 "named"):g.Ma (k+1) "UseMaker" Z3 ["self"] (Z3X (Cs.mk Z0 Z2 Z4 Z1 Z3)):=by
 refine R.ma Z2G (fun vs H Q E h=>by obtain ⟨p,dx,rfl,hp,q⟩:=h;rfl) fun f_ cdv A outer s H vs Q E hr h=>?_
 obtain ⟨p,dx,rfl,hp,q⟩:=h
 refine ⟨_,(@Ye _ _ _ _ _ (@Y2 _ _ _ _ (@QO _ _ _ _ _ _ _ _ _ _ _ _ _ _ _ ZR hr (@Ya _ _ _ _ _ (pv 0) Yc (by rfl)) (by omega) (by rfl) (by rfl) (by decide) (by rfl) (by rfl) (by rfl)) (by rfl)) (@Yh _ _ _ (@Xh _ _ _ _ _ _ _ _ (pv 0) YfT rfl))),?_⟩
 walk_at "rd"
 refine ⟨p,dx,_,rfl,.inr (.inr (.inr rfl)),hp,fun c hc=>?_⟩
 have hne:p≠c:=Yj hp hc
 refine ⟨_,dx,_,Yg,Zk,Zh,XI (show 1≤3 by decide),?_⟩
 refine q c _ hc (fun x o hx h=>?_) ?_ ?_
 ·rw [Yd hx,Yd hx,Yd (Yj h hc)];exact h
 ·rw [Yg,YcC (n1 (by decide +kernel))];rfl
 ·rw [Yd (Ne.symm hne),Yd (Ne.symm hne),Yg]
inductive Z3J (C:Cs) (vs:List V) (H:Hp) (Q:VK) (E_:XK):Prop
 | mk (T dx P:Addr) (as:List Addr) (h0:vs=[.ref T,.ref P]) (h1:H T=some (.ins C.tab dx [])) (h2:H P=some (.lst (as.map V.ref))) (h3:as.length≤100) (h4:∀ L (ws:List Addr) H',H L=none→(∀ x∈ws,H x=none)→ws.Nodup→ws.length=as.length+1→SameBut T H H'→H' T=some (.ins C.tab dx (X6 P L))→H' L=some (.lst (ws.map V.ref))→(∀ x∈ws,H' x=some (.lst []))→Q .non H')
theorem Z2P {Z6 Z5 Z1 Z2 Z4 Z3 Z0:Addr} {c_law P_law:Addr} (R:g.RawI "RowTable" Z4 "RowTable.__init__" Z0B ["self","parts"]) (b_len:g.mg "len"=none) (Zt:g.mg "range"=none) (Zn:Cls g.K Z4) (Zo:Yb g.K Z4 "parts") (Zm:Yb g.K Z4 "ways"):g.Ma (1) "RowTable" Z4 ["self","parts"] (Z3J (Cs.mk Z0 Z2 Z4 Z1 Z3)):=by
 refine R.ma Z2D (fun vs H Q E h=>by obtain ⟨T,dx,P,as,rfl,hT,hP,hl,q⟩:=h;rfl) fun f_ cdv A outer s H vs Q E hr h=>?_
 obtain ⟨T,dx,P,as,rfl,hT,hP,hl,q⟩:=h
 refine ⟨_,(@Ye _ _ _ _ _ (@Xh _ _ _ _ _ _ _ _ (pv 0) (pv 1) rfl) (@Yh _ _ _ (@Xh _ _ _ _ _ _ _ _ (pv 0) (@XF _ _ _ _ _ _ _ ([none]) ((["place"]:List Str)) _ (Yy 0) _ _ (.own .nil) rfl (@Xk _ _ _ _ _ _ rfl Zt (@Ya _ _ _ _ _ (@Yl _ _ _ _ _ _ _ _ YQ (@YI _ _ _ _ _ _ _ _ _ _ b_len YA (@Ya _ _ _ _ _ (pv 1) Yc (by rfl)) (by decide +kernel) (by rfl) (by rfl) (by decide) (by decide) (by rfl) (by rfl)) Yf) Yc (by rfl)) (by rfl)) (fun cl C s₀ H₀ fp pn=>(@Yx _ _ (0) _ (show List.Nodup (["place"]:List Str) by decide +kernel) rfl (.inl rfl) (.inr rfl))) (fun cl C s₀ H₀ fp pn=>Xb) (fun cl C s₀ H₀ fp pn=>(@W7 _ _ _ _ Yc)) (by intro x hx;simp at hx) (by rfl) (by decide) (by decide +kernel) (by intro _;rfl)) rfl))),?_⟩
 walk_at "rd"
 have nTP:T≠P:=YX hT hP (by simp)
 refine ⟨_,dx,_,hT,Zn,Zo,by decide,?_⟩
 obtain ⟨H1,hH1⟩:∃ H1,H1=upd H T (.ins Z4 dx (YS "parts" (.ref P) [])):=⟨_,rfl⟩
 rw [← hH1]
 have h1T:H1 T=some (.ins Z4 dx (YS "parts" (.ref P) [])):=by rw [hH1,Yg]
 have h1:∀ {b:Addr},b≠T→H1 b=H b:=fun n=>by rw [hH1,Yd n]
 refine Uz (n:=as.length+1) (fun D i zs H'=>∃ ws:List Addr,zs=ws.map V.ref∧ws.length=i∧ws.Nodup∧(∀ x∈ws,H1 x=none∧x≠D∧H' x=some (.lst []))∧H' D=some (.lst zs)∧∀ b o,b≠D→H1 b=some o→H' b=some o) (fun R r=>?_) (by omega) ?_ ?_ ?_ ?_
 ·walk_at "rd"
  refine ⟨_,.inl (SqL.of ((h1 (Ne.symm nTP)).trans hP)),?_⟩
  rw [List.length_map]
  exact r
 ·intro D hD
  exact ⟨[],rfl,rfl,.nil,fun x hx=>(by cases hx),Yg,fun b o hb e=>by rw [Yd hb];exact e⟩
 ·rintro D i zs H' ⟨ws,rfl,h2,_,_,h3,_⟩
  exact ⟨by rw [List.length_map,h2],h3⟩
 ·rintro D i zs H' hD hi ⟨ws,rfl,hwl,hnd,hws,hd,fr⟩ R r
  walk_at "rd"
  refine ⟨few (by decide),fun X gX=>?_⟩
  have nXD:X≠D:=Ne.symm (Yj hd gX)
  have sX:=Yk.upd_new gX (.lst [])
  have gX1:H1 X=none:=by
   cases e:H1 X with
   | none=>rfl
   | some o=>rw [fr X o nXD e] at gX;cases gX
  refine r _ _ (sX _ _ hd) ⟨ws++[X],by rw [List.map_append];rfl,by rw [List.length_append,hwl];rfl,?_,fun x hx=>?_,Yg,fun b o hb e=>by rw [Yd hb];exact sX _ _ (fr b o hb e)⟩
  ·rw [List.nodup_append]
   refine ⟨hnd,by simp,fun x hx y hy=>?_⟩
   have:y=X:=by simpa using hy
   subst this
   intro z
   subst z
   rw [(hws x hx).2.2] at gX
   cases gX
  ·rcases List.mem_append.mp hx with hx | hx
   ·obtain ⟨k1,k2,k3⟩:=hws x hx
    exact ⟨k1,k2,by rw [Yd k2];exact sX _ _ k3⟩
   ·have:x=X:=by simpa using hx
    subst this
    exact ⟨gX1,nXD,by rw [Yd nXD,Yg]⟩
 ·rintro L zs H' hL ⟨ws,rfl,hwl,hnd,hws,hd,fr⟩
  have nLT:L≠T:=Ne.symm (Yj h1T hL)
  have nf:∀ {b:Addr},H1 b=none→H b=none:=fun {b} e=>by
   by_cases c:b=T
   ·subst c;rw [h1T] at e;cases e
   ·rw [← h1 c];exact e
  have h'T:=fr T _ (Ne.symm nLT) h1T
  refine ⟨_,dx,_,h'T,Zn,Zm,XI (show 1≤3 by decide),?_⟩
  have nw:∀ x∈ws,x≠T:=fun x hx=>YX (hws x hx).2.2 h'T (by simp)
  refine q L ws _ (nf hL) (fun x hx=>nf (hws x hx).1) hnd hwl (fun b o hb e=>?_) ?_ (by rw [Yd nLT];exact hd) (fun x hx=>by rw [Yd (nw x hx)];exact (hws x hx).2.2)
  ·rw [Yd hb]
   exact fr b o (Yj ((h1 hb).trans e) hL) ((h1 hb).trans e)
  ·rw [Yg]
   refine congrArg some (congrArg (HO.ins _ _) ?_)
   show YS "ways" (.ref L) [(("parts":Str),V.ref P)]=X6 P L
   simp only [YS,if_neg (n1 (a:=("parts":Str)) (b:=("ways":Str)) (by decide +kernel))];rfl
inductive Z3Y (C:Cs) (vs:List V) (H:Hp) (Q:VK) (E_:XK):Prop
 | mk (p dx P:Addr) (as:List Addr) (h0:vs=[.ref p,.ref P]) (h1:H p=some (.ins C.row dx [])) (h2:H P=some (.lst (as.map V.ref))) (h3:as.length≤100) (h4:∀ c T dt L (ws:List Addr) H',H c=none→H T=none→H L=none→(∀ x∈ws,H x=none)→(c::ws).Nodup→ws.length=as.length+1→SameBut p H H'→H' p=some (.ins C.row dx (mf c (fR P T)))→H' c=some (.lst [])→H' T=some (.ins C.tab dt (X6 P L))→H' L=some (.lst (ws.map V.ref))→(∀ x∈ws,H' x=some (.lst []))→Q .non H')
theorem Z2Q {k:Nat} {Z6 Z5 Z1 Z2 Z4 Z3 Z0:Addr} {c_law P_law:Addr} (R:g.RawI "RowMaker" Z2 "RowMaker.__init__" Z0D ["self","parts"]) {j_RowTable___init__:Nat} (Z38:g.Ma j_RowTable___init__ "RowTable" Z4 ["self","parts"] (Z3J (Cs.mk Z0 Z2 Z4 Z1 Z3))) (h_RowTable___init__:j_RowTable___init__+1≤k) (ZR:g.Cf k "Maker" "__init__" ["self"] (Z0v (Cs.mk Z0 Z2 Z4 Z1 Z3))) (Zi:Cls g.K Z2) (Za:Yb g.K Z2 "counts") (Zl:Yb g.K Z2 "parts") (Zj:Yb g.K Z2 "table"):g.Ma (k+1) "RowMaker" Z2 ["self","parts"] (Z3Y (Cs.mk Z0 Z2 Z4 Z1 Z3)):=by
 refine R.ma Z2E (fun vs H Q E h=>by obtain ⟨p,dx,P,as,rfl,hp,hP,hl,q⟩:=h;rfl) fun f_ cdv A outer s H vs Q E hr h=>?_
 obtain ⟨p,dx,P,as,rfl,hp,hP,hl,q⟩:=h
 refine ⟨_,(@Ye _ _ _ _ _ (@Y2 _ _ _ _ (@QO _ _ _ _ _ _ _ _ _ _ _ _ _ _ _ ZR hr (@Ya _ _ _ _ _ (pv 0) Yc (by rfl)) (by omega) (by rfl) (by rfl) (by decide) (by rfl) (by rfl) (by rfl)) (by rfl)) (@Ye _ _ _ _ _ (@Xh _ _ _ _ _ _ _ _ (pv 0) (pv 1) rfl) (@Yh _ _ _ (@Xh _ _ _ _ _ _ _ _ (pv 0) (@V2 _ _ _ _ _ _ _ _ _ _ _ _ _ Z38 hr (@Ya _ _ _ _ _ (pv 1) Yc (by rfl)) (by omega) (by rfl) (by rfl) (by decide) (by rfl) (by rfl)) rfl)))),?_⟩
 walk_at "rd"
 refine ⟨p,dx,_,rfl,.inr (.inl rfl),hp,fun c hc=>?_⟩
 have hne:p≠c:=Yj hp hc
 have npP:p≠P:=YX hp hP (by simp)
 have nPc:P≠c:=Yj hP hc
 refine ⟨_,dx,_,Yg,Zi,Zl,XI (show 1≤3 by decide),?_⟩
 obtain ⟨H1,hH1⟩:∃ H1,H1=upd (upd (upd H c (.lst [])) p (.ins Z2 dx [("counts",.ref c)])) p (.ins Z2 dx (YS "parts" (.ref P) [("counts",.ref c)])):=⟨_,rfl⟩
 rw [← hH1]
 have h1p:H1 p=some (.ins Z2 dx (mf c [("parts",.ref P)])):=by rw [hH1,Yg,YcC (n1 (by decide +kernel))]
 have h1c:H1 c=some (.lst []):=by rw [hH1,Yd (Ne.symm hne),Yd (Ne.symm hne),Yg]
 have h1:∀ {b:Addr} {o:HO},b≠p→H b=some o→H1 b=some o:=fun n e=>by rw [hH1,Yd n,Yd n,Yd (Yj e hc)];exact e
 have nf:∀ {b:Addr},H1 b=none→H b=none:=fun {b} e=>by
  cases z:H b with
  | none=>rfl
  | some o =>
   exfalso
   by_cases cc:b=p
   ·subst cc;rw [h1p] at e;cases e
   ·rw [h1 cc z] at e;cases e
 intro T dt gT gdt hnd
 have sd:=Yk.upd_new gdt (.own T)
 have gT2:upd H1 dt (.own T) T=none:=by rw [Yd (Ne.symm hnd)];exact gT
 have s12:=sd.trans (.upd_new gT2 (.ins Z4 dt []))
 refine ⟨T,dt,P,as,rfl,Yg,s12 _ _ (h1 (Ne.symm npP) hP),hl,fun L ws H3 gL gws hndw hwl sb h3T h3L h3w=>?_⟩
 have npT:p≠T:=Yj h1p gT
 have ncT:c≠T:=Yj h1c gT
 have h3p:=sb _ _ npT (s12 _ _ h1p)
 have h3c:=sb _ _ ncT (s12 _ _ h1c)
 have ncw:c∉ws:=fun z=>by have:=gws c z;rw [s12 _ _ h1c] at this;cases this
 have npw:∀ x∈ws,x≠p:=fun x hx=>YX (h3w x hx) h3p (by simp)
 have npL:L≠p:=YX h3L h3p (by simp)
 refine ⟨rfl,_,dx,_,h3p,Zi,Zj,XI (show 2≤3 by decide),?_⟩
 refine q c T dt L ws _ hc (nf gT) (nf (s12.free gL)) (fun x hx=>nf (s12.free (gws x hx))) (List.nodup_cons.mpr ⟨ncw,hndw⟩) hwl (fun b o hb e=>?_) ?_ ?_ ?_ ?_ (fun x hx=>?_)
 ·rw [Yd hb]
  exact sb _ _ (Yj (h1 hb e) gT) (s12 _ _ (h1 hb e))
 ·rw [Yg,put2 (n1 (by decide +kernel)) (n1 (by decide +kernel))];rfl
 ·rw [Yd (Ne.symm hne)];exact h3c
 ·rw [Yd (Ne.symm npT)];exact h3T
 ·rw [Yd npL];exact h3L
 ·rw [Yd (npw x hx)];exact h3w x hx
def lf (b:V) (d:Addr):List (Str×V):=[("book",b),("makers",.ref d)]
theorem nbm:¬ (("book":Str)="makers"):=by decide +kernel
theorem Ygg (b:V) (d:Addr):YS "makers" (.ref d) (YS "book" b [])=lf b d:=by
 simp only [YS,if_neg nbm];rfl
theorem XY (b:V) (d:Addr):(lf b d).lookup ("makers":Str)=some (.ref d):=by
 show List.lookup ("makers":Str) [(("book":Str),b),(("makers":Str),V.ref d)]=_
 rw [List.lookup_cons,show (("makers":Str)==("book":Str))=false by decide +kernel,List.lookup_cons,show (("makers":Str)==("makers":Str))=true by decide +kernel]
theorem Yfy (b:V) (d:Addr):(lf b d).lookup ("book":Str)=some b:=rfl
theorem UJ (b:V) (d:Addr) {m:Str} (h1:(m==("book":Str))=false) (h2:(m==("makers":Str))=false):(lf b d).lookup m=none:=by
 show List.lookup m [(("book":Str),b),(("makers":Str),V.ref d)]=_
 rw [List.lookup_cons,h1,List.lookup_cons,h2];rfl
inductive Z3Z (P:Program) (w:World) (C:Addr) (vs:List V) (H:Hp) (Q:VK) (E_:XK):Prop
 | mk (p dx:Addr) (b:V) (h0:vs=[.ref p,b]) (h1:H p=some (.ins C dx [])) (h2:∀ d H',H d=none→SameBut p H H'→H' p=some (.ins C dx (lf b d))→H' d=some (DDi P w d [])→Q .non H')
theorem Z3n {Z6 Z5 Z1 Z2 Z4 Z3 Z0:Addr} {c_law P_law:Addr} (R:g.RawI "Lister" Z5 "Lister.__init__" Z0Y ["self","book"]) (Zr:Cls g.K Z5) (Zu:Yb g.K Z5 "book") (Zp:Yb g.K Z5 "makers"):g.Ma (1) "Lister" Z5 ["self","book"] (Z3Z g.P g.w Z5):=by
 refine R.ma Z3k (fun vs H Q E h=>by obtain ⟨p,dx,b,rfl,hp,q⟩:=h;rfl) fun f_ cdv A outer s H vs Q E hr h=>?_
 obtain ⟨p,dx,b,rfl,hp,q⟩:=h
 refine ⟨_,(@Ye _ _ _ _ _ (@Xh _ _ _ _ _ _ _ _ (pv 0) (pv 1) rfl) (@Yh _ _ _ (@Xh _ _ _ _ _ _ _ _ (pv 0) Yef rfl))),?_⟩
 walk_at "rd"
 refine ⟨Z5,dx,[],hp,Zr,Zu,by decide,fun d hd=>?_⟩
 have hne:p≠d:=Yj Yg hd
 rw [Yd (Ne.symm hne)] at hd
 refine ⟨Z5,dx,_,by rw [Yd hne];exact Yg,Zr,Zp,by simp [YS],q d _ hd (fun x o hx h=>?_) ?_ ?_⟩
 ·rw [Yd hx,Yd (Yj h hd),Yd hx];exact h
 ·rw [Yg,Ygg]
 ·rw [Yd (Ne.symm hne),Yg]
  rfl
theorem Xs {H:Hp} {a b:Addr} {o:HO} (h:upd H a o b=none):H b=none:=by
 by_cases e:b=a
 ·subst e;rw [Yg] at h;cases h
 ·rw [Yd e] at h;exact h
theorem XZ {H H':Hp} {x dx:Addr} {o u:HO} (hx:H x=none) (hdx:H dx=none) (sb:SameBut x (upd (upd H dx o) x u) H'):Yk H H':=fun y z h=>by
 have n1:y≠x:=Yj h hx
 have n2:y≠dx:=Yj h hdx
 exact sb _ _ n1 (by rw [Yd n1,Yd n2];exact h)
def XW (K:PySem.W.Frag) (H:Hp) (B:Addr) (prs:Prs):Prop:=∃ vs:List V,H B=some (.lst vs)∧vs.length=prs.length∧∀ (i:Nat) v q,vs[i]?=some v→prs[i]?=some q→∃ T a,v = .ref T∧SqT K H T [.str (S q.1),.ref a]∧DK K H a (kd q.2)
inductive Z3K (K:PySem.W.Frag) (vs:List V) (H:Hp) (Q:VK) (E_:XK):Prop
 | mk (prs:Prs) (B:Addr) (x:List Nat) (q:List Nat×Sh) (h0:vs=[.ref B,.str (S x)]) (h1:XW K H B prs) (h2:prs.find? (fun q=>decide (q.1=x))=some q) (h3:∀ a,DK K H a (kd q.2)→Q (.ref a) H)
theorem Ya2 {Z6 Z5 Z1 Z2 Z4 Z3 Z0:Addr} {c_law P_law:Addr} (R:g.Raw "shape_of" "shape_of" Z2z ["book","name"]):g.Fn (1) "shape_of" ["book","name"] (Z3K g.K):=by
 refine R.fn Z3I (fun vs H Q E h=>by obtain ⟨prs,B,x,q,rfl,⟨vs,hB,hl,hv⟩,hf,q'⟩:=h;rfl) fun f_ cdv A outer s H vs Q E hr h=>?_
 obtain ⟨prs,B,x,q,rfl,⟨vs,hB,hl,hv⟩,hf,q'⟩:=h
 refine ⟨_,(@Ye _ _ _ _ _ (@XO _ _ _ _ _ _ _ _ PassesOwn.never rfl (@XC _ _ _ _ (pv 0)) (@Yx _ _ (2) _ Z3I.nd rfl (.inl rfl) (by first | exact .inl rfl | exact .inr rfl | assumption)) (@Yh _ _ _ (@YV _ _ _ _ _ _ _ _ (@Yt _ _ _ _ _ _ _ _ Xa (@Yn _ _ _ _ _ _ _ YL (pv 2) Yf (fun _ _=>rfl)) (pv 1) (Yv _)) (@Yh _ _ _ (@Ym _ _ _ _ (@Yn _ _ _ _ _ _ _ YL (pv 2) Yf (fun _ _=>rfl)))) YJ)) (by intro _;rfl)) (@Yh _ _ _ Xp)),?_⟩
 walk_at "rd"
 refine Ycg (K:=g.K) (xs:=vs) (fun c i σ H'=>c=B∧H=H'∧(∃ o,σ=[some (.ref B),some (.str (S x)),o])∧∀ (j:Nat) p,j<i→prs[j]?=some p→p.1≠x) (fun R r=>by walk_at "rd";exact r B _ ⟨rfl,rfl,⟨_,rfl⟩,fun j p hj=>by omega⟩) (fun c i σ H' _ ⟨e,e2,_⟩=>by subst e e2;exact SqL.of hB) ?_ ?_
 ·rintro c i v σ H' hx ⟨rfl,rfl,⟨o,rfl⟩,hall⟩
  have hi:=(List.getElem?_eq_some_iff.mp hx).1
  have hp:prs[i]?=some (prs[i]'(by omega)):=List.getElem?_eq_getElem _
  generalize prs[i]'(by omega)=p at hp
  obtain ⟨T,a,rfl,hT,hk⟩:=hv i v p hx hp
  walk_at "rd"
  refine ⟨_,hT,_,Yu (j:=0) rfl,Xc _ _,?_⟩
  by_cases e:p.1=x
  ·refine X3 (by rw [e]) ⟨_,hT,_,Yu (j:=1) rfl,q' a ?_⟩
   have:q=p:=by
    obtain ⟨j,hj,e1,e2⟩:=List.find?_eq_some_iff_getElem.mp hf |>.2
    have e1':prs[j]?=some q:=by rw [List.getElem?_eq_getElem hj,e1]
    have hqx:q.1=x:=of_decide_eq_true (List.find?_eq_some_iff_getElem.mp hf).1
    rcases Nat.lt_trichotomy j i with c | c | c
    ·exact absurd hqx (hall j q c e1')
    ·subst c;rw [e1'] at hp;exact Option.some.inj hp
    ·have:=e2 i c
     rw [List.getElem?_eq_getElem (by omega)] at hp
     have hp:=Option.some.inj hp
     rw [hp] at this
     simp [e] at this
   rw [this]
   exact hk
  ·refine YZ (fun z=>e (Vn (V.str.inj z))) fun j p' hj hp'=>?_
   rcases Nat.lt_succ_iff_lt_or_eq.mp hj with c | rfl
   ·exact hall j p' c hp'
   ·rw [hp] at hp'
    have:=Option.some.inj hp'
    subst this
    exact e
 ·rintro c σ H' ⟨rfl,rfl,⟨o,rfl⟩,hall⟩
  exfalso
  obtain ⟨j,hj,e1,e2⟩:=List.find?_eq_some_iff_getElem.mp hf |>.2
  have hqx:q.1=x:=of_decide_eq_true (List.find?_eq_some_iff_getElem.mp hf).1
  exact hall j q (by omega) (by rw [List.getElem?_eq_getElem hj,e1]) hqx
def FrB (d:Addr) (H H':Hp):Prop:=∀ b o,b≠d→H b=some o→H' b=some o
theorem FrB.trans {d:Addr} {H H1 H2:Hp} (a:FrB d H H1) (b:FrB d H1 H2):FrB d H H2:=fun c o n e=>b c o n (a c o n e)
theorem VR {d:Addr} {H H':Hp} (s:Yk H H'):FrB d H H':=fun c o _ e=>s _ _ e
theorem XW.tupk {K:PySem.W.Frag} {H H':Hp} {B:Addr} {prs:Prs} (h:XW K H B prs) (t:XU H H') (hB:∀ o,H B=some o→H' B=some o):XW K H' B prs:=by
 obtain ⟨vs,h1,h2,h3⟩:=h
 refine ⟨vs,hB _ h1,h2,fun i v q e1 e2=>?_⟩
 obtain ⟨T,a,k1,k2,k3⟩:=h3 i v q e1 e2
 exact ⟨T,a,k1,t.sq k2,k3.tupk t⟩
structure LS (P0:Program) (w0:World) (K:PySem.W.Frag) (C:Cs) (CL:Addr) (prs:Prs) (w:Wo) (U O:Addr→Prop) (H:Hp) (ls dx d B:Addr) (xs:Dx):Prop where
 hl:H ls=some (.ins CL dx (lf (.ref B) d))
 hb:XW K H B prs
 hd:DictD P0 w0 K H d xs
 bi:BI C w U O H
 nd:¬ U d
 nl:¬ U ls
 keys:∀ e∈xs,∃ sh,e.1=kd sh∧okS prs sh∧w.reg e.2.2=some sh
 bk:w.bk=bkO prs
 ob:okB prs
 M2:w.M=2
section
variable {P0:Program} {w0:World} {K:PySem.W.Frag} {C:Cs} {CL:Addr} {prs:Prs} {w:Wo} {U O:Addr→Prop} {H H':Hp} {ls dx d B:Addr} {xs:Dx}
theorem LS.loc (L:LS P0 w0 K C CL prs w U O H ls dx d B xs) {D:Addr} (hD:∀ o,H D=some o→∃ zs,o = .lst zs) (nB:D≠B) (nU:¬ U D) (hk:∀ b o,b≠D→H b=some o→H' b=some o):LS P0 w0 K C CL prs w U O H' ls dx d B xs:=by
 have ne:∀ {b:Addr} {o:HO},H b=some o→(∀ zs,o ≠ .lst zs)→b≠D:=fun e n z=>by
  rw [z] at e
  obtain ⟨zs,h⟩:=hD _ e
  exact n zs h
 have tk:XU H H':=fun b ys h=>by
  rcases h with h | ⟨o,h⟩
  ·exact .inl (hk _ _ (ne h (by intro zs z;cases z)) h)
  ·exact .inr ⟨o,hk _ _ (ne h (by intro zs z;cases z)) h⟩
 refine ⟨hk _ _ (ne L.hl (by intro zs z;cases z)) L.hl,L.hb.tupk tk fun o e=>hk _ _ (Ne.symm nB) e,L.hd.keep tk (hk _ _ (ne L.hd.at_ (by intro zs z;cases z)) L.hd.at_),L.bi.keep fun b o hb e=>hk b o (fun z=>nU (by rw [← z];exact hb)) e,L.nd,L.nl,L.keys,L.bk,L.ob,L.M2⟩
theorem LS.same (L:LS P0 w0 K C CL prs w U O H ls dx d B xs) (s:Yk H H'):LS P0 w0 K C CL prs w U O H' ls dx d B xs :=
 ⟨s _ _ L.hl,L.hb.tupk (Wf s) fun o e=>s _ _ e,L.hd.keep (Wf s) (s _ _ L.hd.at_),L.bi.keep fun b o _ e=>s _ _ e,L.nd,L.nl,L.keys,L.bk,L.ob,L.M2⟩
theorem Vf {a:Addr} {k:PyData} {φ:Heap→Prop} (h:DK K H a k) (fr:FrB d H H') (hd:H d=some (.ext φ)):DK K H' a k:=h.tupk (Wg fr hd (by intro xs z;cases z) (by intro o v z;cases z))
theorem LS.made (L:LS P0 w0 K C CL prs w U O H ls dx d B xs) (s:Yk H H') {p:Addr} {os ss:List Addr} {sh:Sh} (N:New H H' U p os ss) (hd:d∉os∧d∉ss) (hl:ls∉os∧ls∉ss) (hm:X7 C (w.add p sh os) (t0 (Ua U os ss)) H' p sh):LS P0 w0 K C CL prs (w.add p sh os) (Ua U os ss) O H' ls dx d B xs:=by
 have nOp:¬ O p:=fun z=>by
  obtain ⟨_,_,_,_,h,_⟩:=L.bi.op p z
  exact N.nu _ (.inr N.inn) h.2
 refine ⟨s _ _ L.hl,L.hb.tupk (Wf s) fun o e=>s _ _ e,L.hd.keep (Wf s) (s _ _ L.hd.at_),N.bi L.bi (fun _ _=>Iff.rfl) (fun _=>hm) (fun z=>absurd z nOp),fun z=>?_,fun z=>?_,fun e he=>?_,L.bk,L.ob,L.M2⟩
 ·rcases z with z | z | z
  ·exact L.nd z
  ·exact hd.1 z
  ·exact hd.2 z
 ·rcases z with z | z | z
  ·exact L.nl z
  ·exact hl.1 z
  ·exact hl.2 z
 ·obtain ⟨s',h1,h2,h3⟩:=L.keys e he
  exact ⟨s',h1,h2,(N.wg (H0:=fun _=>none) L.bi sh fun _ _=>rfl).reg _ _ h3⟩
theorem LS.reg (L:LS P0 w0 K C CL prs w U O H ls dx d B xs) {p:Addr} {sh:Sh} (hok:okS prs sh) (h:lookD xs (kd sh)=some p):w.reg p=some sh:=by
 obtain ⟨e,he,hp⟩:=Option.map_eq_some_iff.mp h
 have hm:=List.mem_of_find?_eq_some he
 have hk:e.1=kd sh:=of_decide_eq_true (List.find?_some (p:=fun (x:PyData×Addr×Addr)=>decide (x.1=kd sh)) he)
 obtain ⟨s',h1,h2,h3⟩:=L.keys e hm
 rw [hk] at h1
 rw [Yau hok h2 h1,← hp]
 exact h3
end
noncomputable def nn (prs:Prs) (xs:Dx):Nat:=(prs.filter fun q=>(lookD xs (kd (.use q.1))).isNone).length
def Mo (xs xs':Dx):Prop:=∀ e,lookD xs e≠none→lookD xs' e≠none
theorem Mo.refl (xs:Dx):Mo xs xs:=fun _ h=>h
theorem Mo.trans {xs xs1 xs2:Dx} (a:Mo xs xs1) (b:Mo xs1 xs2):Mo xs xs2:=fun e h=>b e (a e h)
theorem Mo.at {xs xs':Dx} (h:Mo xs xs') (e:PyData):(lookD xs' e).isNone=true→(lookD xs e).isNone=true:=fun z=>by
 cases c:lookD xs e with
 | none=>rfl
 | some p =>
  have:=h e (by rw [c];intro y;cases y)
  rw [Option.isNone_iff_eq_none] at z
  exact absurd z this
theorem Qa {prs:Prs} {xs xs':Dx} (h:Mo xs xs'):nn prs xs'≤nn prs xs:=by
 unfold nn
 induction prs with
 | nil=>exact Nat.le_refl _
 | cons q prs ih =>
  rw [List.filter_cons,List.filter_cons]
  have:=h.at (kd (.use q.1))
  split
  ·rename_i c
   rw [if_pos (this c)]
   simp only [List.length_cons];omega
  ·split
   ·simp only [List.length_cons];omega
   ·exact ih
theorem Yfz {prs:Prs} {xs xs':Dx} {x:List Nat} (h:Mo xs xs') (hx:∃ q,(prs.find? fun q=>decide (q.1=x))=some q) (h1:lookD xs (kd (.use x))=none) (h2:lookD xs' (kd (.use x))≠none):nn prs xs'+1≤nn prs xs:=by
 obtain ⟨q,hq⟩:=hx
 have hm:=List.mem_of_find?_eq_some hq
 have he:q.1=x:=of_decide_eq_true (List.find?_some (p:=fun (z:List Nat×Sh)=>decide (z.1=x)) hq)
 clear hq
 subst he
 unfold nn
 induction prs with
 | nil=>cases hm
 | cons r prs ih =>
  rw [List.filter_cons,List.filter_cons]
  have ha:=h.at (kd (.use r.1))
  have hmo:=Qa (prs:=prs) h
  unfold nn at hmo
  rcases List.mem_cons.mp hm with rfl | hm
  ·have e1:(lookD xs (kd (.use q.1))).isNone=true:=by rw [h1];rfl
   have e2:¬ (lookD xs' (kd (.use q.1))).isNone=true:=fun z=>h2 (Option.isNone_iff_eq_none.mp z)
   rw [if_neg e2,if_pos e1]
   simp only [List.length_cons];omega
  ·have:=ih hm
   split
   ·rename_i c
    rw [if_pos (ha c)]
    simp only [List.length_cons];omega
   ·split
    ·simp only [List.length_cons];omega
    ·exact this
theorem nn_le {prs:Prs} {xs:Dx}:nn prs xs≤prs.length:=List.length_filter_le _ _
inductive sp_new (P0:Program) (w0:World) (K:PySem.W.Frag) (C:Cs) (CL:Addr) (l:Nat) (vs:List V) (H:Hp) (Q:VK) (E_:XK):Prop
 | mk (prs:Prs) (w:Wo) (U O:Addr→Prop) (ls dx d B a:Addr) (sh:Sh) (xs:Dx) (h0:vs=[.ref ls,.ref a]) (h1:LS P0 w0 K C CL prs w U O H ls dx d B xs) (h2:DK K H a (kd sh)) (h3:okS prs sh) (h4:kind sh≤4) (h5:dep sh≤w.M) (h6:wt sh≤1000) (h7:xs.length+50*nn prs xs+2*wt sh≤900) (h8:8*nn prs xs+2*dep sh+1≤l) (h9:∀ p H' w' U' xs',LS P0 w0 K C CL prs w' U' O H' ls dx d B xs'→WG w w' U U' H→FrB d H H'→w'.reg p=some sh→xs'.length+50*nn prs xs'+1≤xs.length+50*nn prs xs+2*wt sh→Mo xs xs'→Q (.ref p) H')
inductive Z08 (P0:Program) (w0:World) (K:PySem.W.Frag) (C:Cs) (CL:Addr) (l:Nat) (vs:List V) (H:Hp) (Q:VK) (E_:XK):Prop
 | mk (prs:Prs) (w:Wo) (U O:Addr→Prop) (ls dx d B a:Addr) (sh:Sh) (xs:Dx) (h0:vs=[.ref ls,.ref a]) (h1:LS P0 w0 K C CL prs w U O H ls dx d B xs) (h2:DK K H a (kd sh)) (h3:okS prs sh) (h4:dep sh≤w.M) (h5:wt sh≤1000) (h6:xs.length+50*nn prs xs+2*wt sh≤900) (h7:8*nn prs xs+2*dep sh+2≤l) (h8:∀ p H' w' U' xs',LS P0 w0 K C CL prs w' U' O H' ls dx d B xs'→WG w w' U U' H→FrB d H H'→w'.reg p=some sh→xs'.length+50*nn prs xs'≤xs.length+50*nn prs xs+2*wt sh→Mo xs xs'→Q (.ref p) H')
inductive Z1Z (P0:Program) (w0:World) (K:PySem.W.Frag) (C:Cs) (CL:Addr) (l:Nat) (vs:List V) (H:Hp) (Q:VK) (E_:XK):Prop
 | mk (prs:Prs) (w:Wo) (U O:Addr→Prop) (ls dx d B a:Addr) (x:List Nat) (xs:Dx) (h0:vs=[.ref ls,.ref a]) (h1:LS P0 w0 K C CL prs w U O H ls dx d B xs) (h2:DK K H a (kd (.use x))) (h3:okS prs (.use x)) (h4:lookD xs (kd (.use x))=none) (h5:xs.length+50*nn prs xs≤900) (h6:1≤l) (h7:8*nn prs xs≤l+1) (h8:∀ H' w' U' xs',LS P0 w0 K C CL prs w' U' O H' ls dx d B xs'→WG w w' U U' H→FrB d H H'→lookD xs' (kd (.use x))≠none→xs'.length+50*nn prs xs'≤xs.length+50*nn prs xs→Mo xs xs'→Q .non H')
theorem Ygh {P0:Program} {w0:World} {K:PySem.W.Frag} {C:Cs} {CL:Addr} {vs:List V} {H:Hp} {Q:VK} {E:XK} (h:sp_new P0 w0 K C CL 0 vs H Q E):False:=by
 obtain ⟨prs,w,U,O,ls,dx,d,B,a,sh,xs,_,_,_,_,_,_,_,_,h,_⟩:=h
 omega
theorem Z3L {P0:Program} {w0:World} {K:PySem.W.Frag} {C:Cs} {CL:Addr} {vs:List V} {H:Hp} {Q:VK} {E:XK} (h:Z08 P0 w0 K C CL 0 vs H Q E):False:=by
 obtain ⟨prs,w,U,O,ls,dx,d,B,a,sh,xs,_,_,_,_,_,_,_,h,_⟩:=h
 omega
theorem YcD {P0:Program} {w0:World} {K:PySem.W.Frag} {C:Cs} {CL:Addr} {vs:List V} {H:Hp} {Q:VK} {E:XK} (h:Z1Z P0 w0 K C CL 0 vs H Q E):False:=by
 obtain ⟨prs,w,U,O,ls,dx,d,B,a,x,xs,_,_,_,_,_,_,h,_⟩:=h
 omega
theorem QS {prs:Prs} {sh:Sh} (ob:okB prs) (h:okS prs sh) (hw:wt sh≤1000) {s:Nat} (hs:s≤45):sm (cnt (bkO prs) sh s):=by
 obtain ⟨h1,h2⟩:=WR prs ob sh s hs h hw
 refine ⟨300*s+(12*wt sh - 6)+1,by omega,?_⟩
 have h3:(2:Int)^(300*s+(12*wt sh - 6))<2^(300*s+(12*wt sh - 6)+1):=by
  have:(2:Nat)^(300*s+(12*wt sh - 6))<2^(300*s+(12*wt sh - 6)+1):=Nat.pow_lt_pow_right (by decide) (by omega)
  exact_mod_cast this
 have h4:((cnt (bkO prs) sh s).natAbs:Int)<((2^(300*s+(12*wt sh - 6)+1):Nat):Int):=by
  rw [Int.natAbs_of_nonneg h1]
  have:=Int.lt_of_le_of_lt h2 h3
  exact_mod_cast this
 exact_mod_cast h4
theorem Ygi {prs:Prs} {ps:List Sh} (ob:okB prs) (h:Xx prs ps) (hw:wts ps≤1000) {s:Nat} (hs:s≤45):sm (YB (bkO prs) ps s):=by
 obtain ⟨h1,h2⟩:=Ub prs ob ps s hs h hw
 refine ⟨300*s+12*wts ps+1,by omega,?_⟩
 have h3:(2:Int)^(300*s+12*wts ps)<2^(300*s+12*wts ps+1):=by
  have:(2:Nat)^(300*s+12*wts ps)<2^(300*s+12*wts ps+1):=Nat.pow_lt_pow_right (by decide) (by omega)
  exact_mod_cast this
 have h4:((YB (bkO prs) ps s).natAbs:Int)<((2^(300*s+12*wts ps+1):Nat):Int):=by
  rw [Int.natAbs_of_nonneg h1]
  have:=Int.lt_of_le_of_lt h2 h3
  exact_mod_cast this
 exact_mod_cast h4
section
variable {P0:Program} {w0:World} {K:PySem.W.Frag} {C:Cs} {CL:Addr} {prs:Prs} {w w1:Wo} {U U1 O:Addr→Prop} {H H1 H3:Hp} {ls dx d B:Addr} {xs xs1:Dx}
theorem LS.fin (L:LS P0 w0 K C CL prs w U O H ls dx d B xs) (L1:LS P0 w0 K C CL prs w1 U1 O H1 ls dx d B xs1) (G1:WG w w1 U U1 H) (fr1:FrB d H H1) (s:Yk H1 H3) {p:Addr} {os ss:List Addr} {sh:Sh} (N:New H1 H3 U1 p os ss) (h0:∀ b,b∈os∨b∈ss→H b=none) (hm:X7 C (w1.add p sh os) (t0 (Ua U1 os ss)) H3 p sh) :
  LS P0 w0 K C CL prs (w1.add p sh os) (Ua U1 os ss) O H3 ls dx d B xs1∧WG w (w1.add p sh os) U (Ua U1 os ss) H∧FrB d H H3∧(w1.add p sh os).reg p=some sh:=by
 have nd:∀ {l:List Addr},(∀ b∈l,H b=none)→d∉l:=fun h z=>by have:=h d z;rw [L.hd.at_] at this;cases this
 have nl:∀ {l:List Addr},(∀ b∈l,H b=none)→ls∉l:=fun h z=>by have:=h ls z;rw [L.hl] at this;cases this
 exact ⟨L1.made s N ⟨nd fun b hb=>h0 b (.inl hb),nd fun b hb=>h0 b (.inr hb)⟩ ⟨nl fun b hb=>h0 b (.inl hb),nl fun b hb=>h0 b (.inr hb)⟩ hm,G1.trans (N.wg L1.bi sh h0) (fun _ h=>h),fr1.trans (VR s),if_pos rfl⟩
theorem LS.back (L1:LS P0 w0 K C CL prs w1 U1 O H1 ls dx d B xs1) (fr1:FrB d H H1) {b:Addr} (h:H1 b=none):H b=none:=by
 cases e:H b with
 | none=>rfl
 | some o =>
  exfalso
  by_cases c:b=d
  ·subst c;rw [L1.hd.at_] at h;cases h
  ·rw [fr1 b o c e] at h;cases h
end
theorem YfA {prs:Prs} {sh q:Sh} (h:okS prs sh) (hq:q∈XH sh):okS prs q:=by
 cases sh with
 | row ps=>rw [okS] at h;exact WJ h.2 hq
 | pick mk ps=>rw [okS] at h;exact WJ h.2.2.1 hq
 | _=>cases hq
theorem Yeq {sh q:Sh} (hq:q∈XH sh):dep q+1≤dep sh:=by
 cases sh with
 | row ps=>rw [show dep (.row ps)=YO ps+1 by rw [dep]];have:=Wi (ps:=ps) hq;omega
 | pick mk ps=>rw [show dep (.pick mk ps)=YO ps+1 by rw [dep]];have:=Wi (ps:=ps) hq;omega
 | _=>cases hq
theorem YbB {sh:Sh} (h:kind sh=2∨kind sh=3):wts (XH sh)+1=wt sh:=by
 cases sh with
 | row ps=>rw [show wt (.row ps)=wts ps+1 by rw [wt]];rfl
 | pick mk ps=>rw [show wt (.pick mk ps)=wts ps+1 by rw [wt]];rfl
 | _=>simp [kind] at h
theorem Qb:∀ a b:List Sh,wts (a++b)=wts a+wts b
 | [],b=>by simp [wts]
 | p::a,b=>by
  have:=Qb a b
  rw [List.cons_append,wts,wts]
  omega
theorem Yer {l:List Sh} {i:Nat} {q:Sh} (h:l[i]?=some q):wts (l.take (i+1))=wts (l.take i)+wt q:=by
 rw [Xo h,Qb]
 simp [wts]
theorem Ya3 (l:List Sh) (i:Nat):wts (l.take i)≤wts l:=by
 have e:wts l=wts (l.take i)+wts (l.drop i):=by rw [← Qb,List.take_append_drop]
 omega
theorem YbC:∀ l:List Sh,l.length≤wts l
 | []=>Nat.zero_le _
 | p::l=>by
  have:=YbC l
  have:=Vd p
  rw [wts,List.length_cons]
  omega
variable {m:Nat}
theorem Z1F {k:Nat} {Z6 Z5 Z1 Z2 Z4 Z3 Z0:Addr} {c_law P_law:Addr} (R:g.RawM Z5 "new_maker" "Lister.new_maker" Z0S ["self","shape"]) (F_parts_of:g.Fn k "parts_of" ["shape"] (Z2h g.K)) (Z05:g.Me k Z5 "maker_of" ["self","shape"] (Z08 g.P g.w g.K (Cs.mk Z0 Z2 Z4 Z1 Z3) Z5 m)) {j_WholeMaker___init__:Nat} (Z2s:g.Ma j_WholeMaker___init__ "WholeMaker" Z0 ["self","low","high"] (Z3V (Cs.mk Z0 Z2 Z4 Z1 Z3))) (h_WholeMaker___init__:j_WholeMaker___init__+1≤k) {j_RowMaker___init__:Nat} (Z39:g.Ma j_RowMaker___init__ "RowMaker" Z2 ["self","parts"] (Z3Y (Cs.mk Z0 Z2 Z4 Z1 Z3))) (h_RowMaker___init__:j_RowMaker___init__+1≤k) {j_PickMaker___init__:Nat} (Z2R:g.Ma j_PickMaker___init__ "PickMaker" Z1 ["self","marks","parts"] (Z3W (Cs.mk Z0 Z2 Z4 Z1 Z3))) (h_PickMaker___init__:j_PickMaker___init__+1≤k) (Zr:Cls g.K Z5) (Zu:Yb g.K Z5 "book") (Zp:Yb g.K Z5 "makers"):g.Me (k+1) Z5 "new_maker" ["self","shape"] (sp_new g.P g.w g.K (Cs.mk Z0 Z2 Z4 Z1 Z3) Z5 (m+1)):=by
 refine R.me Z0A (fun vs H Q E h=>by obtain ⟨prs,w,U,O,ls,dx,d,B,a,sh,xs,rfl,L,hk,hok,hki,hdp,hwt,hxl,hnm,q⟩:=h;rfl) fun f_ cdv A outer s H vs Q E hr h=>?_
 obtain ⟨prs,w,U,O,ls,dx,d,B,a,sh,xs,rfl,L,hk,hok,hki,hdp,hwt,hxl,hnm,q⟩:=h
 refine ⟨_,(@Ye _ _ _ _ _ (@Yq _ _ (2) _ _ _ _ Z0A.nd rfl (.inl rfl) (@Yn _ _ _ _ _ _ _ YL (pv 1) Yf (fun _ _=>rfl)) (by rfl) (by first | exact .inl rfl | exact .inr rfl | assumption)) (@Ye _ _ _ _ _ (@YV _ _ _ _ _ _ _ _ (@Yt _ _ _ _ _ _ _ _ Xa (pv 2) Y7 (Yv _)) (@Yh _ _ _ (@Ym _ _ _ _ (@V2 _ _ _ _ _ _ _ _ _ _ _ _ _ Z2s hr (@Ya _ _ _ _ _ (@Yn _ _ _ _ _ _ _ YL (pv 1) Yf (fun _ _=>rfl)) (@Ya _ _ _ _ _ (@Yn _ _ _ _ _ _ _ YL (pv 1) Yf (fun _ _=>rfl)) Yc (by rfl)) (by rfl)) (by omega) (by rfl) (by rfl) (by decide) (by rfl) (by rfl)))) YJ) (@Ye _ _ _ _ _ (@YV _ _ _ _ _ _ _ _ (@Yt _ _ _ _ _ _ _ _ Xa (pv 2) Y7 (Yv _)) (@Yh _ _ _ Xp) YJ) (@Ye _ _ _ _ _ (@UY _ (3) _ _ _ _ _ _ _ _ _ ([none,some 0]) ((["part","self"]:List Str)) _ (Yy 0) _ _ Z0A.nd rfl (.inl rfl) (.own (.cap (i:=0) rfl rfl (by first | exact .inl rfl | exact .inr rfl) .nil)) rfl (@XC _ _ _ _ (@YH _ _ _ _ _ _ _ _ _ _ _ _ F_parts_of hr (@Ya _ _ _ _ _ (pv 1) Yc (by rfl)) (by omega) (by rfl) (by rfl) (by decide) (by rfl) (by rfl))) (fun cl C s₀ H₀ fp pn=>(@Yx _ _ (0) _ (show List.Nodup (["part","self"]:List Str) by decide +kernel) rfl (.inl rfl) (.inr rfl))) (fun cl C s₀ H₀ fp pn=>Xb) (fun cl C s₀ H₀ fp pn=>(@Xu _ _ _ _ _ _ _ _ _ _ _ _ _ _ _ _ Z05 Zr hr (pv 1) (@Ya _ _ _ _ _ (pv 0) Yc (by rfl)) (by omega) (by rfl) (by rfl) (by rfl) (by rfl))) (by intro x hx;simp at hx;first | (subst hx;exact .inl rfl) | (rcases hx with rfl | rfl<;>exact .inl rfl) | (rcases hx with rfl | rfl | rfl<;>exact .inl rfl) | (rcases hx with rfl | rfl | rfl | rfl<;>exact .inl rfl) | (rcases hx with rfl | rfl | rfl | rfl | rfl<;>exact .inl rfl)) (by rfl) (by decide) (by decide +kernel) (by intro _;rfl) (by rfl) (by first | exact .inl rfl | exact .inr rfl | assumption)) (@Ye _ _ _ _ _ (@YV _ _ _ _ _ _ _ _ (@Yt _ _ _ _ _ _ _ _ Xa (pv 2) Y7 (Yv _)) (@Yh _ _ _ (@Ym _ _ _ _ (@V2 _ _ _ _ _ _ _ _ _ _ _ _ _ Z39 hr (@Ya _ _ _ _ _ (pv 3) Yc (by rfl)) (by omega) (by rfl) (by rfl) (by decide) (by rfl) (by rfl)))) YJ) (@Ye _ _ _ _ _ (@YV _ _ _ _ _ _ _ _ (@Yt _ _ _ _ _ _ _ _ Xa (pv 2) Y7 (Yv _)) (@Yh _ _ _ (@Ym _ _ _ _ (@V2 _ _ _ _ _ _ _ _ _ _ _ _ _ Z2R hr (@Ya _ _ _ _ _ (@XF _ _ _ _ _ _ _ ([none,none]) ((["mark","part"]:List Str)) _ (W2 g.K 2 (Xt (Yy 0) (Xt (Yy 1) Vl))) _ _ (.own (.own .nil)) rfl (@Q3 _ _ _ _ (@Yn _ _ _ _ _ _ _ YL (pv 1) Yf (fun _ _=>rfl))) (fun cl C s₀ H₀ fp pn=>(@VD _ _ _ _ _ (2) rfl (@Xq _ _ _ _ _ (@Yx _ _ (0) _ (show List.Nodup (["mark","part"]:List Str) by decide +kernel) rfl (.inl rfl) (.inr rfl)) (@Xq _ _ _ _ _ (@Yx _ _ (1) _ (show List.Nodup (["mark","part"]:List Str) by decide +kernel) rfl (.inl rfl) (.inr rfl)) W6 (by rfl)) (by rfl)) (by rfl) (by rfl))) (fun cl C s₀ H₀ fp pn=>Xb) (fun cl C s₀ H₀ fp pn=>(pv 0)) (by intro x hx;simp at hx) (by rfl) (by decide) (by decide +kernel) (by intro _;rfl)) (@Ya _ _ _ _ _ (pv 3) Yc (by rfl)) (by rfl)) (by omega) (by rfl) (by rfl) (by decide) (by rfl) (by rfl)))) YJ) (@Ye _ _ _ _ _ Xp (@Ye _ _ _ _ _ Xp (@Yh _ _ _ Xp))))))))),?_⟩
 have hkd:=hk.den
 have nU:∀ {b:Addr},H b=none→¬ U b:=fun e z=>L.bi.al _ z e
 have parts:(kind sh=2∨kind sh=3)→∀ (mv:V) (Qc:VK),(∀ D (as:List Addr) H1 w1 U1 xs1,LS g.P g.w g.K (Cs.mk Z0 Z2 Z4 Z1 Z3) Z5 prs w1 U1 O H1 ls dx d B xs1→WG w w1 U U1 H→FrB d H H1→H D=none→¬ U1 D→H1 D=some (.lst (as.map V.ref))→Wv w1.reg as (XH sh)→xs1.length+50*nn prs xs1+2≤xs.length+50*nn prs xs+2*wt sh→Mo xs xs1→Qc (.ref D) H1) →
   tLC [none,some 0] (WA g.K (Vm (Z2h g.K) [] E0 (Wm (Vk 1) W3))) (Yy 0) XT (Uw Z5 "maker_of" (Z08 g.P g.w g.K (Cs.mk Z0 Z2 Z4 Z1 Z3) Z5 m) [] E0 (Vk 1) (Wm (Vk 0) W3)) [some (V.ref ls),some (V.ref a),some mv,none] H Qc:=by
  intro h3 mv Qc hq
  have hsw:=YbB h3
  refine YcB (K:=g.K) (fun b vs H1=>Yk H H1∧H b=none∧∃ bs:List Addr,vs=bs.map V.ref∧H1 b=some (.lst vs)∧bs.length=(XH sh).length∧∀ (i:Nat) b q,bs[i]?=some b→(XH sh)[i]?=some q→DK g.K H b (kd q)) (fun R r=>?_) ?_
  ·walk_at "rd"
   exact ⟨prs,a,sh,rfl,hk,hok,h3,fun D bs H1 s1 hD hd hl hb=>r D _ H1 ⟨s1,hD,bs,rfl,hd,hl,hb⟩⟩
  ·rintro b vs H1 ⟨s1,gb,bs,rfl,hb1,hbl,hbs⟩
   have hlw:=YbC (XH sh)
   refine ⟨SqL.of hb1,by rw [List.length_map];omega,fun D i zs H'=>∃ (as:List Addr) (w1:Wo) (U1:Addr→Prop) (xs1:Dx),zs=as.map V.ref∧as.length=i∧LS g.P g.w g.K (Cs.mk Z0 Z2 Z4 Z1 Z3) Z5 prs w1 U1 O H' ls dx d B xs1∧WG w w1 U U1 H∧FrB d H1 H'∧¬ U1 D∧H' D=some (.lst zs)∧(∀ (j:Nat) a q,as[j]?=some a→(XH sh)[j]?=some q→w1.reg a=some q)∧xs1.length+50*nn prs xs1≤xs.length+50*nn prs xs+2*wts ((XH sh).take i)∧Mo xs xs1,?_,?_,?_,?_⟩
   ·intro D hD
    have sD:=Yk.upd_new hD (.lst [])
    exact ⟨[],w,U,xs,rfl,rfl,(L.same s1).same sD,.refl _ _ _,VR sD,nU (s1.free hD),Yg,fun j a q h=>(by simp at h),by simp [wts],.refl _⟩
   ·rintro D i zs H' hD ⟨as,w1,U1,xs1,rfl,h1,L1,G1,fr1,hU1,h2,_⟩
    have nbd:b≠d:=YX hb1 (s1 _ _ L.hd.at_) (by intro z;cases z)
    exact ⟨by rw [List.length_map,h1],h2,SqL.of (fr1 _ _ nbd hb1)⟩
   ·rintro D i x zs H' hD hx ⟨as,w1,U1,xs1,rfl,hal,L1,G1,fr1,hU1,hD',hreg,hxl1,nk1⟩ R r
    rw [List.getElem?_map] at hx
    obtain ⟨bq,hbq,rfl⟩:=Option.map_eq_some_iff.mp hx
    have hi:=(List.getElem?_eq_some_iff.mp hbq).1
    have hsq:(XH sh)[i]?=some ((XH sh)[i]'(by omega)):=List.getElem?_eq_getElem _
    generalize (XH sh)[i]'(by omega)=sq at hsq
    have hmem:=List.mem_of_getElem? hsq
    have hdq:=Yeq hmem
    have hwq:=Yer hsq
    have hwl:=Ya3 (XH sh) (i+1)
    have hnn:=Qa (prs:=prs) nk1
    have frH:FrB d H H':=(VR s1).trans fr1
    have dkq:=Vf (hbs i bq sq hbq hsq) frH L.hd.at_
    walk_at "rd"
    refine ⟨_,_,L1.hl,UJ _ _ (by decide +kernel) (by decide +kernel),prs,w1,U1,O,ls,dx,d,B,bq,sq,xs1,rfl,L1,dkq,YfA hok hmem,by rw [G1.M];omega,by omega,by omega,by omega,fun p H2 w2 U2 xs2 L2 G2 fr2 hr2 hl2 nk2=>?_⟩
    have nDd:D≠d:=YX hD' L1.hd.at_ (by intro z;cases z)
    have hD2:=fr2 _ _ nDd hD'
    have hU2:¬ U2 D:=fun z=>by
     rcases G2.u2 D z with z | z
     ·exact hU1 z
     ·rw [hD'] at z;cases z
    have nDB:D≠B:=fun z=>by
     obtain ⟨vs,hB,_⟩:=L.hb
     rw [z,s1 _ _ hB] at hD;cases hD
    refine r _ _ hD2 ⟨as++[p],w2,U2,xs2,by rw [List.map_append];rfl,by rw [List.length_append,hal];rfl,L2.loc (fun o e=>by rw [hD2] at e;exact ⟨_,(Option.some.inj e).symm⟩) nDB hU2 (fun b o hb e=>by rw [Yd hb];exact e),G1.trans G2 fun z hz=>?_,fun z o hz e=>?_,hU2,Yg,fun j a' q' h1 h2=>?_,by omega,nk1.trans nk2⟩
    ·intro e
     exact hz (L1.back frH e)
    ·rw [Yd (Yj e hD)]
     exact fr2 _ _ hz (fr1 _ _ hz e)
    ·by_cases c:j<as.length
     ·rw [List.getElem?_append_left c] at h1
      exact G2.reg _ _ (hreg j a' q' h1 h2)
     ·have hj:j=as.length:=by
       have:=(List.getElem?_eq_some_iff.mp h1).1
       rw [List.length_append,List.length_singleton] at this
       omega
      subst hj
      rw [List.getElem?_append_right (Nat.le_refl _),Nat.sub_self] at h1
      have:p=a':=Option.some.inj h1
      subst this
      rw [hal,hsq] at h2
      have:=Option.some.inj h2
      subst this
      exact hr2
   ·rintro D zs H' hD ⟨as,w1,U1,xs1,rfl,hal,L1,G1,fr1,hU1,hD',hreg,hxl1,nk1⟩
    rw [List.length_map] at hal hxl1
    rw [List.take_of_length_le (by omega)] at hxl1
    exact hq D as H' w1 U1 xs1 L1 G1 ((VR s1).trans fr1) (s1.free hD) hU1 hD' ⟨by omega,hreg⟩ (by omega) nk1
 walk_at "rd"
 cases sh with
 | w lo span =>
  rw [kd] at hkd
  obtain ⟨b,vs,e,hT,hvs⟩:=Xy hkd
  have:=V.ref.inj e
  subst this
  obtain ⟨u1,r1,rfl,h5,h6⟩:=Y9 hvs
  obtain ⟨u2,r2,rfl,h7,h8⟩:=Y9 h6
  obtain ⟨u3,r3,rfl,h9,h10⟩:=Y9 h8
  have:=Wj h10
  subst this
  have:=Ve h5
  subst this
  have:=Ybz h7
  subst this
  have:=Ybz h9
  subst this
  refine ⟨_,hT,_,Yu (j:=0) rfl,Xc _ _,X3 rfl ⟨_,hT,_,Yu (j:=1) rfl,_,hT,_,Yu (j:=2) rfl,fun x dx' hx hdx hne=>⟨x,dx',lo,span,rfl,Yg,fun c H3 hc sb h3 h4=>⟨rfl,?_⟩⟩⟩⟩
  have s3:=XZ hx hdx sb
  have hcH:=Xs (Xs hc)
  have ncx:c≠x:=fun z=>by rw [z,Yg] at hc;cases hc
  have N:New H H3 U x [c] [x]:=⟨fun b hb=>by
   rcases hb with hb | hb
   ·rw [List.mem_singleton.mp hb];exact nU hcH
   ·rw [List.mem_singleton.mp hb];exact nU hx,.head _,by simp,fun b hb hb'=>ncx ((List.mem_singleton.mp hb).symm.trans (List.mem_singleton.mp hb')),fun b o _ e=>s3 _ _ e,fun b hb=>by
   rcases hb with hb | hb
   ·rw [List.mem_singleton.mp hb,h4];intro z;cases z
   ·rw [List.mem_singleton.mp hb,h3];intro z;cases z⟩
  have hm:X7 (Cs.mk Z0 Z2 Z4 Z1 Z3) (w.add x (.w lo span) [c]) (t0 (Ua U [c] [x])) H3 x (.w lo span):=⟨dx',c,fW lo span,N.un L.bi _ (.head _),hdp,fun s hs=>by show sm (cnt w.bk _ s);rw [L.bk];exact QS L.ob hok hwt hs,Nat.zero_le _,h3,N.dat _ (i:=0) rfl,h4,rfl⟩
  obtain ⟨r1,r2,r3,r4⟩:=L.fin L (.refl _ _ _) (fun _ _ _ e=>e) s3 N (fun b hb=>by
   rcases hb with hb | hb
   ·rw [List.mem_singleton.mp hb];exact hcH
   ·rw [List.mem_singleton.mp hb];exact hx) hm
  have:=Vd (.w lo span)
  exact q x H3 _ _ xs r1 r2 r3 r4 (by omega) (.refl _)
 | row ps =>
  rw [kd] at hkd
  obtain ⟨v,hT,hv⟩:=Uo hkd
  have hok':=hok
  rw [okS] at hok'
  have hw':wts ps+1=wt (.row ps):=YbB (sh := .row ps) (.inl rfl)
  refine ⟨_,hT,_,Yu (j:=0) rfl,Xc _ _,YZ (by decide +kernel) ⟨Xc _ _,YZ (by decide +kernel) (parts (.inl rfl) _ _ fun D as H1 w1 U1 xs1 L1 G1 fr1 gD hU1 hD1 hra hxl1 nk1=>?_)⟩⟩
  have nU1:∀ {b:Addr},H1 b=none→¬ U1 b:=fun e z=>L1.bi.al _ z e
  have hal:as.length=ps.length:=hra.1
  refine ⟨Xc _ _,X3 rfl fun x dx' hx hdx hne=>⟨x,dx',D,as,rfl,Yg,by rw [Yd (Yj hD1 hx),Yd (Yj hD1 hdx)];exact hD1,by omega,fun c T dt Lw ws H3 hc hT3 hL hws hnd hwl sb h3 h4 hTT hLL hww=>⟨rfl,?_⟩⟩⟩
  have s3:=XZ hx hdx sb
  have fr:∀ {b:Addr},upd (upd H1 dx' (.own x)) x (.ins Z2 dx' []) b=none→H1 b=none:=fun e=>Xs (Xs e)
  have fos:∀ b∈c::ws,H1 b=none:=fun b hb=>by
   rcases List.mem_cons.mp hb with rfl | hb
   ·exact fr hc
   ·exact fr (hws b hb)
  have los:∀ b∈c::ws,H3 b=some (.lst []):=fun b hb=>by
   rcases List.mem_cons.mp hb with rfl | hb
   ·exact h4
   ·exact hww b hb
  have N:New H1 H3 U1 x (c::ws) [x,D,T,Lw]:=by
   refine ⟨fun b hb=>?_,.head _,hnd,fun b hb hb'=>?_,fun b o _ e=>s3 _ _ e,fun b hb=>?_⟩
   ·rcases hb with hb | hb
    ·exact nU1 (fos b hb)
    ·simp only [List.mem_cons,List.not_mem_nil,or_false] at hb
     rcases hb with rfl | rfl | rfl | rfl
     ·exact nU1 hx
     ·exact hU1
     ·exact nU1 (fr hT3)
     ·exact nU1 (fr hL)
   ·have e1:=los b hb
    have e2:=fos b hb
    simp only [List.mem_cons,List.not_mem_nil,or_false] at hb'
    rcases hb' with rfl | rfl | rfl | rfl
    ·rw [h3] at e1;cases e1
    ·rw [hD1] at e2;cases e2
    ·rw [hTT] at e1;cases e1
    ·rw [hLL] at e1
     injection e1 with e1
     injection e1 with e1
     have:=congrArg List.length e1
     rw [List.length_map,hwl] at this
     simp at this
   ·rcases hb with hb | hb
    ·rw [los b hb];intro z;cases z
    ·simp only [List.mem_cons,List.not_mem_nil,or_false] at hb
     rcases hb with rfl | rfl | rfl | rfl
     ·rw [h3];intro z;cases z
     ·rw [s3 _ _ hD1];intro z;cases z
     ·rw [hTT];intro z;cases z
     ·rw [hLL];intro z;cases z
  have hm:X7 (Cs.mk Z0 Z2 Z4 Z1 Z3) (w1.add x (.row ps) (c::ws)) (t0 (Ua U1 (c::ws) [x,D,T,Lw])) H3 x (.row ps):=by
   refine ⟨dx',c,fR D T,N.un L1.bi _ (.head _),by show _≤w1.M;rw [G1.M];exact hdp,fun s hs=>by show sm (cnt w1.bk _ s);rw [L1.bk];exact QS L.ob hok hwt hs,Nat.zero_le _,h3,N.dat _ (i:=0) rfl,h4,D,T,dt,Lw,as,ws,rfl,N.un L1.bi _ (.tail _ (.head _)),N.un L1.bi _ (.tail _ (.tail _ (.head _))),N.un L1.bi _ (.tail _ (.tail _ (.tail _ (.head _)))),s3 _ _ hD1,(hra.grow (N.wg (H0:=fun _=>none) L1.bi _ fun _ _=>rfl)).toM,by omega,hTT,hLL,by omega,fun i y hy=>⟨N.dat _ (i:=i+1) (by simpa using hy),Nat.le_refl _,Nat.zero_le _,hww y (List.mem_of_getElem? hy)⟩,fun i s hs=>?_⟩
   show sm (YB w1.bk _ s)
   rw [L1.bk]
   have:=Vy ps i
   exact Ygi L.ob (Ul i hok'.2) (by omega) hs
  obtain ⟨r1,r2,r3,r4⟩:=L.fin L1 G1 fr1 s3 N (fun b hb=>by
   rcases hb with hb | hb
   ·exact L1.back fr1 (fos b hb)
   ·simp only [List.mem_cons,List.not_mem_nil,or_false] at hb
    rcases hb with rfl | rfl | rfl | rfl
    ·exact L1.back fr1 hx
    ·exact gD
    ·exact L1.back fr1 (fr hT3)
    ·exact L1.back fr1 (fr hL)) hm
  exact q x H3 _ _ xs1 r1 r2 r3 r4 (by omega) nk1
 | pick mk ps =>
  rw [kd] at hkd
  obtain ⟨v,hT,hv⟩:=Uo hkd
  have hok':=hok
  rw [okS] at hok'
  refine ⟨_,hT,_,Yu (j:=0) rfl,Xc _ _,YZ (by decide +kernel) ⟨Xc _ _,YZ (by decide +kernel) (parts (.inr rfl) _ _ fun D as H1 w1 U1 xs1 L1 G1 fr1 gD hU1 hD1 hra hxl1 nk1=>?_)⟩⟩
  have hal:as.length=ps.length:=hra.1
  refine ⟨Xc _ _,YZ (by decide +kernel) ⟨Xc _ _,X3 rfl ?_⟩⟩
  have hkd1:=(Vf hk fr1 L.hd.at_).den
  rw [kd] at hkd1
  obtain ⟨v1,hT1,hv1⟩:=Uo hkd1
  obtain ⟨b,vs,rfl,hb,hvs⟩:=Xy hv1
  obtain ⟨ts,bs,rfl,hl1,hl2,hts,hbs⟩:=Um hok'.1 hvs
  have hlz:((mk.zip bs).map fun p=>(V.str (S p.1),V.ref p.2)).length=bs.length:=by rw [List.length_map,List.length_zip];omega
  refine UI (K:=g.K) (b:=b) (xs:=ts.map V.ref) ((mk.zip bs).map fun p=>(V.str (S p.1),V.ref p.2)) (mk.map fun m=>V.str (S m)) (fun R r=>by walk_at "rd";exact ⟨_,hT1,_,Yu (j:=1) rfl,r⟩) hb ?_ (by rw [hlz,List.length_map];omega) (by rw [List.length_map,List.length_map];omega) (by rw [List.length_map];omega) ?_ ?_
  ·intro i x p hx hp
   rw [List.getElem?_map] at hx hp
   obtain ⟨T,hT',rfl⟩:=Option.map_eq_some_iff.mp hx
   obtain ⟨⟨m,b'⟩,hz,rfl⟩:=Option.map_eq_some_iff.mp hp
   rw [List.getElem?_zip_eq_some] at hz
   exact ⟨T,rfl,hts i T m b' hT' hz.1 hz.2⟩
  ·intro i p y H' hp hy sm R r
   rw [List.getElem?_map] at hp hy
   obtain ⟨⟨m,b'⟩,hz,rfl⟩:=Option.map_eq_some_iff.mp hp
   rw [List.getElem?_zip_eq_some] at hz
   rw [hz.1] at hy
   have:V.str (S m)=y:=Option.some.inj hy
   subst this
   walk_at "rd"
   exact r H' (.refl _)
  ·intro M H2 gM s2 hM x dx' hx hdx hne
   have L2:=L1.same s2
   have nU1:∀ {b:Addr},H2 b=none→¬ U1 b:=fun e z=>L2.bi.al _ z e
   have hUM:¬ U1 M:=fun z=>L1.bi.al _ z gM
   have hD2:=s2 _ _ hD1
   refine ⟨x,dx',M,D,rfl,Yg,fun c H3 hc sb h3 h4=>⟨rfl,?_⟩⟩
   have s3:=XZ hx hdx sb
   have hcH:=Xs (Xs hc)
   have N:New H2 H3 U1 x [c] [x,M,D]:=by
    refine ⟨fun b hb=>?_,.head _,by simp,fun b hb hb'=>?_,fun b o _ e=>s3 _ _ e,fun b hb=>?_⟩
    ·rcases hb with hb | hb
     ·rw [List.mem_singleton.mp hb];exact nU1 hcH
     ·simp only [List.mem_cons,List.not_mem_nil,or_false] at hb
      rcases hb with rfl | rfl | rfl
      ·exact nU1 hx
      ·exact hUM
      ·exact hU1
    ·have:=List.mem_singleton.mp hb
     subst this
     simp only [List.mem_cons,List.not_mem_nil,or_false] at hb'
     rcases hb' with rfl | rfl | rfl
     ·rw [h3] at h4;cases h4
     ·rw [hM] at hcH;cases hcH
     ·rw [hD2] at hcH;cases hcH
    ·rcases hb with hb | hb
     ·rw [List.mem_singleton.mp hb,h4];intro z;cases z
     ·simp only [List.mem_cons,List.not_mem_nil,or_false] at hb
      rcases hb with rfl | rfl | rfl
      ·rw [h3];intro z;cases z
      ·rw [s3 _ _ hM];intro z;cases z
      ·rw [s3 _ _ hD2];intro z;cases z
   have hm:X7 (Cs.mk Z0 Z2 Z4 Z1 Z3) (w1.add x (.pick mk ps) [c]) (t0 (Ua U1 [c] [x,M,D])) H3 x (.pick mk ps):=⟨dx',c,fP M D,N.un L2.bi _ (.head _),by show _≤w1.M;rw [G1.M];exact hdp,fun s hs=>by show sm (cnt w1.bk _ s);rw [L1.bk];exact QS L.ob hok hwt hs,Nat.zero_le _,h3,N.dat _ (i:=0) rfl,h4,M,D,as,rfl,N.un L2.bi _ (.tail _ (.head _)),N.un L2.bi _ (.tail _ (.tail _ (.head _))),s3 _ _ hM,s3 _ _ hD2,(hra.grow (N.wg (H0:=fun _=>none) L2.bi _ fun _ _=>rfl)).toC,by omega⟩
   have fr2:FrB d H H2:=fr1.trans (VR s2)
   obtain ⟨r1,r2,r3,r4⟩:=L.fin L2 G1 fr2 s3 N (fun b hb=>by
    rcases hb with hb | hb
    ·rw [List.mem_singleton.mp hb];exact L2.back fr2 hcH
    ·simp only [List.mem_cons,List.not_mem_nil,or_false] at hb
     rcases hb with rfl | rfl | rfl
     ·exact L2.back fr2 hx
     ·exact L1.back fr1 gM
     ·exact gD) hm
   exact q x H3 _ _ xs1 r1 r2 r3 r4 (by omega) nk1
 | _=>simp [kind] at hki
theorem X7.updp {C:Cs} {w:Wo} {t:Sw} {H:Hp} {p r cl dxp:Addr} {fp:List (Str×V)} {o:HO} {sh:Sh} {cp:Addr} (hp:H p=some (.ins cl dxp (mf cp fp))) (hD:w.D p=none) (n:r≠p) (h:X7 C w t H r sh):X7 C w t (upd H p o) r sh:=by
 obtain ⟨dx,c,fs,h1,h2,h3,h4,h5,h6,h7,h8⟩:=h
 have no:∀ {b:Addr} {x:Addr×Nat},w.D b=some x→b≠p:=fun e z=>by rw [z,hD] at e;cases e
 have nl:∀ {b:Addr} {vs:List V},H b=some (.lst vs)→b≠p:=fun e z=>by rw [z,hp] at e;cases e
 refine ⟨dx,c,fs,h1,h2,h3,h4,(Yd n).trans h5,h6,(Yd (no h6)).trans h7,?_⟩
 cases sh with
 | w lo span=>exact h8
 | row ps =>
  obtain ⟨P,T,dt,L,as,ws,k1,k2,k3,k4,k5,k6,k7,k8,k9,k10,k11,k12⟩:=h8
  have nT:T≠p:=fun z=>by
   rw [z,hp] at k8
   have e:=Option.some.inj k8
   injection e with _ _ e
   unfold mf X6 at e
   injection e with e _
   injection e with e _
   exact n1 (a:=("counts":Str)) (b:=("parts":Str)) (by decide +kernel) e
  refine ⟨P,T,dt,L,as,ws,k1,k2,k3,k4,(Yd (nl k5)).trans k5,k6,k7,(Yd nT).trans k8,(Yd (nl k9)).trans k9,k10,fun i x hx=>?_,k12⟩
  obtain ⟨j1,j2,j3,j4⟩:=k11 i x hx
  exact ⟨j1,j2,j3,(Yd (no j1)).trans j4⟩
 | pick mk ps =>
  obtain ⟨M,P,as,k1,k2,k3,k4,k5,k6,k7⟩:=h8
  exact ⟨M,P,as,k1,k2,k3,(Yd (nl k4)).trans k4,(Yd (nl k5)).trans k5,k6,k7⟩
 | use x=>exact h8
theorem BI.close {C:Cs} {w:Wo} {U O O':Addr→Prop} {H:Hp} (B:BI C w U O' H) {p q:Addr} {x:List Nat} (hO:∀ r,r≠p→(O' r↔O r)) (hp':O' p) (hr:w.reg p=some (.use x)) (hq:w.reg q=some (w.bk x)):∃ dx c,H p=some (.ins C.use dx (mf c (fU .non)))∧(¬ O p→BI C w U O (upd H p (.ins C.use dx (mf c (fU (.ref q)))))):=by
 obtain ⟨x',dx,c,e1,e2,e3,e4,e5,e6⟩:=B.op p hp'
 rw [hr] at e1
 have:=Sh.use.inj (Option.some.inj e1)
 subst this
 refine ⟨dx,c,e4,fun nO=>⟨fun r s hrs ho=>?_,fun r hor=>?_,fun b hb=>?_,B.ow,B.oo,B.inj⟩⟩
 ·by_cases cc:r=p
  ·subst cc
   rw [hr] at hrs
   have:=Option.some.inj hrs
   subst this
   have ncp:c≠r:=fun z=>by rw [z,e2.1] at e5;cases e5
   exact ⟨dx,c,_,e2,by simp [dep],e3,Nat.zero_le _,Yg,e5,(Yd ncp).trans e6,q,rfl,hq,Nat.zero_le _⟩
  ·exact (B.at_ r s hrs fun z=>ho ((hO r cc).mp z)).updp e4 e2.1 cc
 ·have cc:r≠p:=fun z=>nO (by rw [← z];exact hor)
  obtain ⟨y,dy,cy,f1,f2,f3,f4,f5,f6⟩:=B.op r ((hO r cc).mpr hor)
  have ncp:cy≠p:=fun z=>by rw [z,e2.1] at f5;cases f5
  exact ⟨y,dy,cy,f1,f2,f3,(Yd cc).trans f4,f5,(Yd ncp).trans f6⟩
 ·by_cases cc:b=p
  ·rw [cc,Yg];intro z;cases z
  ·rw [Yd cc];exact B.al b hb
section
variable {P0:Program} {w0:World} {K:PySem.W.Frag} {C:Cs} {CL:Addr} {prs:Prs} {w:Wo} {U O O':Addr→Prop} {H H':Hp} {ls dx d B:Addr} {xs:Dx}
theorem LS.close (L:LS P0 w0 K C CL prs w U O' H ls dx d B xs) {p q:Addr} {x:List Nat} (hO:∀ r,r≠p→(O' r↔O r)) (hp':O' p) (nO:¬ O p) (hr:w.reg p=some (.use x)) (hq:w.reg q=some (w.bk x)) (nls:ls≠p):∃ dxp c,H p=some (.ins C.use dxp (mf c (fU .non)))∧LS P0 w0 K C CL prs w U O (upd H p (.ins C.use dxp (mf c (fU (.ref q))))) ls dx d B xs:=by
 obtain ⟨dxp,c,h1,h2⟩:=L.bi.close hO hp' hr hq
 have hk:∀ b o,b≠p→H b=some o→upd H p (.ins C.use dxp (mf c (fU (.ref q)))) b=some o:=fun b o n e=>(Yd n).trans e
 have tk:XU H (upd H p (.ins C.use dxp (mf c (fU (.ref q))))):=Wg hk h1 (by intro xs z;cases z) (by intro o v z;cases z)
 obtain ⟨vs,hB,_⟩:=L.hb
 exact ⟨dxp,c,h1,hk _ _ nls L.hl,L.hb.tupk tk fun o e=>hk _ _ (YX hB h1 (by intro z;cases z)) e,L.hd.keep tk (hk _ _ (YX L.hd.at_ h1 (by intro z;cases z)) L.hd.at_),h2 nO,L.nd,L.nl,L.keys,L.bk,L.ob,L.M2⟩
theorem LS.put (L:LS P0 w0 K C CL prs w U O H ls dx d B xs) {a p:Addr} {sh:Sh} (hk:DK K H a (kd sh)) (hok:okS prs sh) (hn:lookD xs (kd sh)=none) (hl:xs.length<1000) (hr:w.reg p=some sh):LS P0 w0 K C CL prs w U O (upd H d (DDi P0 w0 d (xs++[(kd sh,a,p)]))) ls dx d B (xs++[(kd sh,a,p)]):=by
 have hkk:∀ b o,b≠d→H b=some o→upd H d (DDi P0 w0 d (xs++[(kd sh,a,p)])) b=some o:=fun b o n e=>(Yd n).trans e
 have tk:XU H (upd H d (DDi P0 w0 d (xs++[(kd sh,a,p)]))):=Wg hkk L.hd.at_ (by intro xs z;cases z) (by intro o v z;cases z)
 obtain ⟨vs,hB,_⟩:=L.hb
 refine ⟨hkk _ _ (YX L.hl L.hd.at_ (by intro z;cases z)) L.hl,L.hb.tupk tk fun o e=>hkk _ _ (YX hB L.hd.at_ (by intro z;cases z)) e,L.hd.put hk hn hl,L.bi.keep fun b o hb e=>hkk b o (fun z=>L.nd (by rw [← z];exact hb)) e,L.nd,L.nl,fun e he=>?_,L.bk,L.ob,L.M2⟩
 rcases List.mem_append.mp he with he | he
 ·exact L.keys e he
 ·have:=List.mem_singleton.mp he
  subst this
  exact ⟨sh,rfl,hok,hr⟩
theorem LS.putX (L:LS P0 w0 K C CL prs w U O H ls dx d B xs) {a p:Addr} {sh:Sh} (hk:DK K H a (kd sh)) (hok:okS prs sh) (hl:xs.length<1000) (hr:w.reg p=some sh):LS P0 w0 K C CL prs w U O (upd H d (DDi P0 w0 d (L2.putX xs (kd sh) a p))) ls dx d B (L2.putX xs (kd sh) a p):=by
 have hkk:∀ b o,b≠d→H b=some o→upd H d (DDi P0 w0 d (L2.putX xs (kd sh) a p)) b=some o:=fun b o n e=>(Yd n).trans e
 have tk:XU H (upd H d (DDi P0 w0 d (L2.putX xs (kd sh) a p))):=Wg hkk L.hd.at_ (by intro xs z;cases z) (by intro o v z;cases z)
 obtain ⟨vs,hB,_⟩:=L.hb
 refine ⟨hkk _ _ (YX L.hl L.hd.at_ (by intro z;cases z)) L.hl,L.hb.tupk tk fun o e=>hkk _ _ (YX hB L.hd.at_ (by intro z;cases z)) e,L.hd.putX hk hl,L.bi.keep fun b o hb e=>hkk b o (fun z=>L.nd (by rw [← z];exact hb)) e,L.nd,L.nl,fun e he=>?_,L.bk,L.ob,L.M2⟩
 rcases Yej he with he | ⟨h1,h2⟩
 ·exact L.keys e he
 ·exact ⟨sh,h1,hok,by rw [h2];exact hr⟩
theorem LS.opened (L:LS P0 w0 K C CL prs w U O H ls dx d B xs) (s:Yk H H') {p dxp c:Addr} {x:List Nat} (hx:H p=none) (hc:H c=none) (hok:okS prs (.use x)) (h3:H' p=some (.ins C.use dxp (mf c (fU .non)))) (h4:H' c=some (.lst [])) :
  LS P0 w0 K C CL prs (w.add p (.use x) [c]) (Ua U [c] [p]) (fun r=>O r∨r=p) H' ls dx d B xs∧WG w (w.add p (.use x) [c]) U (Ua U [c] [p]) H∧(w.add p (.use x) [c]).reg p=some (.use x):=by
 have nU:∀ {b:Addr},H b=none→¬ U b:=fun e z=>L.bi.al _ z e
 have N:New H H' U p [c] [p]:=by
  refine ⟨fun b hb=>?_,.head _,by simp,fun b hb hb'=>?_,fun b o _ e=>s _ _ e,fun b hb=>?_⟩
  ·rcases hb with hb | hb
   ·rw [List.mem_singleton.mp hb];exact nU hc
   ·rw [List.mem_singleton.mp hb];exact nU hx
  ·have e1:=List.mem_singleton.mp hb
   have e2:=List.mem_singleton.mp hb'
   rw [← e1,e2,h3] at h4
   cases h4
  ·rcases hb with hb | hb
   ·rw [List.mem_singleton.mp hb,h4];intro z;cases z
   ·rw [List.mem_singleton.mp hb,h3];intro z;cases z
 have h0:∀ b,b∈[c]∨b∈[p]→H b=none:=fun b hb=>by
  rcases hb with hb | hb
  ·rw [List.mem_singleton.mp hb];exact hc
  ·rw [List.mem_singleton.mp hb];exact hx
 have G:=N.wg L.bi (.use x) h0
 have nd:∀ {z:Addr} {o:HO},H z=some o→¬ (z=c∨z=p):=fun e h=>by
  rcases h with h | h
  ·rw [h,hc] at e;cases e
  ·rw [h,hx] at e;cases e
 have bi:BI C (w.add p (.use x) [c]) (Ua U [c] [p]) (fun r=>O r∨r=p) H':=N.bi L.bi (fun r hr=>⟨fun z=>z.resolve_right hr,.inl⟩) (fun z=>absurd (.inr rfl) z) (fun _=>⟨x,dxp,c,rfl,N.un L.bi _ (.head _),fun s' hs=>by rw [L.bk];exact QS L.ob hok (by simp [wt]) hs,h3,N.dat _ (i:=0) rfl,h4⟩)
 have out:∀ {z:Addr} {o:HO},H z=some o→¬ U z→¬ Ua U [c] [p] z:=fun e hU h=>by
  rcases h with h | h | h
  ·exact hU h
  ·exact nd e (.inl (List.mem_singleton.mp h))
  ·exact nd e (.inr (List.mem_singleton.mp h))
 refine ⟨⟨s _ _ L.hl,L.hb.tupk (Wf s) fun o e=>s _ _ e,L.hd.keep (Wf s) (s _ _ L.hd.at_),bi,out L.hd.at_ L.nd,out L.hl L.nl,fun e he=>?_,L.bk,L.ob,L.M2⟩,G,if_pos rfl⟩
 obtain ⟨s',h1,h2,h3⟩:=L.keys e he
 exact ⟨s',h1,h2,G.reg _ _ h3⟩
end
theorem Ygj {xs:Dx} {d:PyData} {a p:Addr} (hn:lookD xs d=none):Mo xs (xs++[(d,a,p)]):=fun e h=>by
 rw [WD _ _ _ _ _ hn]
 split
 ·intro z;cases z
 ·exact h
theorem YfB {xs:Dx} {d:PyData} {a p:Addr}:Mo xs (L2.putX xs d a p):=fun e h=>by
 rw [Qw]
 split
 ·intro z;cases z
 ·exact h
theorem YdE (c:Addr) (v v':V):YS "named" v' (mf c (fU v))=mf c (fU v'):=by
 show YS "named" v' [(("counts":Str),V.ref c),(("named":Str),v)]=_
 simp only [YS,if_neg (n1 (a:=("counts":Str)) (b:=("named":Str)) (by decide +kernel))];rfl
theorem Z1V {k:Nat} {Z6 Z5 Z1 Z2 Z4 Z3 Z0:Addr} {c_law P_law:Addr} (R:g.RawM Z5 "add_use" "Lister.add_use" Z1a ["self","shape"]) (F_shape_of:g.Fn k "shape_of" ["book","name"] (Z3K g.K)) (Z05:g.Me k Z5 "maker_of" ["self","shape"] (Z08 g.P g.w g.K (Cs.mk Z0 Z2 Z4 Z1 Z3) Z5 m)) {j_UseMaker___init__:Nat} (Z3a:g.Ma j_UseMaker___init__ "UseMaker" Z3 ["self"] (Z3X (Cs.mk Z0 Z2 Z4 Z1 Z3))) (h_UseMaker___init__:j_UseMaker___init__+1≤k) (Zr:Cls g.K Z5) (Zu:Yb g.K Z5 "book") (Zp:Yb g.K Z5 "makers") (Zk:Cls g.K Z3) (Zb:Yb g.K Z3 "counts") (Zh:Yb g.K Z3 "named"):g.Me (k+1) Z5 "add_use" ["self","shape"] (Z1Z g.P g.w g.K (Cs.mk Z0 Z2 Z4 Z1 Z3) Z5 (m+1)):=by
 refine R.me Z1U (fun vs H Q E h=>by obtain ⟨prs,w,U,O,ls,dx,d,B,a,x,xs,rfl,L,hk,hok,hno,hxl,hl1,hl8,q⟩:=h;rfl) fun f_ cdv A outer s H vs Q E hr h=>?_
 obtain ⟨prs,w,U,O,ls,dx,d,B,a,x,xs,rfl,L,hk,hok,hno,hxl,hl1,hl8,q⟩:=h
 refine ⟨_,(@Ye _ _ _ _ _ (@Yq _ _ (2) _ _ _ _ Z1U.nd rfl (.inl rfl) (@Yga _ _ _ _ _ _ _ _ _ _ Z3a hr (by omega) (by rfl) (by rfl) (by decide)) (by rfl) (by first | exact .inl rfl | exact .inr rfl | assumption)) (@Ye _ _ _ _ _ (@Yee _ _ _ _ _ _ _ _ _ _ hr (@Ys _ _ _ _ _ (pv 0) rfl) (pv 1) (pv 2) rfl) (@Yh _ _ _ (@Xh _ _ _ _ _ _ _ _ (pv 2) (@Xu _ _ _ _ _ _ _ _ _ _ _ _ _ _ _ _ Z05 Zr hr (pv 0) (@Ya _ _ _ _ _ (@YH _ _ _ _ _ _ _ _ _ _ _ _ F_shape_of hr (@Ya _ _ _ _ _ (@Ys _ _ _ _ _ (pv 0) rfl) (@Ya _ _ _ _ _ (@Yn _ _ _ _ _ _ _ YL (pv 1) Yf (fun _ _=>rfl)) Yc (by rfl)) (by rfl)) (by omega) (by rfl) (by rfl) (by decide) (by rfl) (by rfl)) Yc (by rfl)) (by omega) (by rfl) (by rfl) (by rfl) (by rfl)) rfl)))),?_⟩
 walk_at "rd"
 intro p dxp gp gdx hne
 refine ⟨p,dxp,rfl,Yg,fun c H1 hc sb h3 h4=>⟨rfl,?_⟩⟩
 have s1:=XZ gp gdx sb
 have hcH:=Xs (Xs hc)
 obtain ⟨L1,G1,hr1⟩:=L.opened (x:=x) s1 gp hcH hok h3 h4
 have dk1:=hk.keep s1
 have L2:=L1.put dk1 hok hno (by omega) hr1
 have fr2:FrB d H (upd H1 d (DDi g.P g.w d (xs++[(kd (.use x),a,p)]))):=fun b o hb e=>by rw [Yd hb];exact s1 _ _ e
 have dk2:=Vf hk fr2 L.hd.at_
 have hkd:=dk2.den
 rw [kd] at hkd
 obtain ⟨v,hT2,hv⟩:=Uo hkd
 have:=Ve hv
 subst this
 have hok':=hok
 rw [okS] at hok'
 obtain ⟨q0,hf0⟩:=hok'
 obtain ⟨eb,hm0⟩:=U9 hf0
 have mo1:Mo xs (xs++[(kd (.use x),a,p)]):=Ygj hno
 have less:=Yfz mo1 ⟨q0,hf0⟩ hno (by rw [WD _ _ _ _ _ hno,if_pos rfl];intro z;cases z)
 unfold Ydo
 walk_at "rd"
 refine ⟨_,_,_,L1.hl,Zr,Zp,_,XY _ _,d,rfl,xs,L1.hd,kd (.use x),dk1,hno,by omega,?_⟩
 refine ⟨_,_,L2.hl,UJ _ _ (by decide +kernel) (by decide +kernel),_,_,_,L2.hl,Zr,Zu,_,Yfy _ _,_,hT2,_,Yu (j:=1) rfl,prs,B,x,q0,rfl,L2.hb,hf0,fun b dkb=>?_⟩
 have hw0:=L.ob.wt q0 hm0
 have hd0:=L.ob.dp q0 hm0
 have hM:=L2.M2
 refine ⟨prs,_,_,_,ls,dx,d,B,b,q0.2,_,rfl,L2,dkb,L.ob.ok q0 hm0,by rw [hM];exact hd0,by omega,by rw [List.length_append,List.length_singleton];omega,by omega,fun q' H3 w3 U3 xs3 L3 G3 fr3 hr3 hl3' nk3=>?_⟩
 have np:p≠d:=fun z=>by rw [z,L.hd.at_] at gp;cases gp
 have nOp:¬ O p:=fun z=>by
  obtain ⟨_,_,_,_,h,_⟩:=L.bi.op p z
  exact L.bi.al _ h.2 gp
 have hg3:=G3.reg _ _ hr1
 obtain ⟨dxp',c',hp3,L4⟩:=L3.close (p:=p) (q:=q') (x:=x) (O:=O) (fun r hr'=>⟨fun z=>z.resolve_right hr',.inl⟩) (.inr rfl) nOp hg3 (by rw [L3.bk,eb];exact hr3) (Yj L.hl gp)
 refine ⟨_,_,_,hp3,Zk,Zh,XI (show 2≤3 by decide),?_⟩
 rw [YdE]
 refine q _ w3 U3 xs3 L4 (G1.trans G3 fun z hz=>?_) (fun z o hz e=>?_) (nk3 _ (by rw [WD _ _ _ _ _ hno,if_pos rfl];intro z;cases z)) ?_ (mo1.trans nk3)
 ·intro e
  exact hz (L2.back fr2 e)
 ·rw [Yd (Yj e gp)]
  exact fr3 _ _ hz (fr2 _ _ hz e)
 ·rw [List.length_append,List.length_singleton] at hl3'
  omega
theorem YfC {K:PySem.W.Frag} {H:Hp} {a:Addr} {sh:Sh} (h:Den K H (.ref a) (kd sh)):∃ r,SqT K H a (.str (kdm (kd sh))::r):=by
 obtain ⟨ds,hd⟩:=Yaw sh
 have hm:∃ r,ds = .str (kdm (kd sh))::r:=by
  cases sh<;>(rw [kd] at hd ⊢;injection hd with hd;exact ⟨_,hd.symm⟩)
 obtain ⟨r,rfl⟩:=hm
 rw [hd] at h
 obtain ⟨b,vs,e,h1,h2⟩:=Xy h
 have:=V.ref.inj e
 subst this
 obtain ⟨u,r',rfl,h3,_⟩:=Y9 h2
 have:=Ve h3
 subst this
 exact ⟨r',h1⟩
theorem Z1L {k:Nat} {Z6 Z5 Z1 Z2 Z4 Z3 Z0:Addr} {c_law P_law:Addr} (R:g.RawM Z5 "maker_of" "Lister.maker_of" Z0Z ["self","shape"]) (Z3P:g.Me k Z5 "add_use" ["self","shape"] (Z1Z g.P g.w g.K (Cs.mk Z0 Z2 Z4 Z1 Z3) Z5 m)) (Z3o:g.Me k Z5 "new_maker" ["self","shape"] (sp_new g.P g.w g.K (Cs.mk Z0 Z2 Z4 Z1 Z3) Z5 m)) (Zr:Cls g.K Z5) (Zu:Yb g.K Z5 "book") (Zp:Yb g.K Z5 "makers"):g.Me (k+1) Z5 "maker_of" ["self","shape"] (Z08 g.P g.w g.K (Cs.mk Z0 Z2 Z4 Z1 Z3) Z5 (m+1)):=by
 refine R.me Z3l (fun vs H Q E h=>by obtain ⟨prs,w,U,O,ls,dx,d,B,a,sh,xs,rfl,L,hk,hok,hdp,hwt,hxl,hnm,q⟩:=h;rfl) fun f_ cdv A outer s H vs Q E hr h=>?_
 obtain ⟨prs,w,U,O,ls,dx,d,B,a,sh,xs,rfl,L,hk,hok,hdp,hwt,hxl,hnm,q⟩:=h
 refine ⟨_,(@Ye _ _ _ _ _ (@YV _ _ _ _ _ _ _ _ (@Yt _ _ _ _ _ _ _ _ (Yco hr) (pv 1) (@Ys _ _ _ _ _ (pv 0) rfl) rfl) (@Yh _ _ _ (@YV _ _ _ _ _ _ _ _ (@Yt _ _ _ _ _ _ _ _ Xa (@Yn _ _ _ _ _ _ _ YL (pv 1) Yf (fun _ _=>rfl)) Y7 (Yv _)) (@Yh _ _ _ (@Y2 _ _ _ _ (@Xu _ _ _ _ _ _ _ _ _ _ _ _ _ _ _ _ Z3P Zr hr (pv 0) (@Ya _ _ _ _ _ (pv 1) Yc (by rfl)) (by omega) (by rfl) (by rfl) (by rfl) (by rfl)) (by rfl))) (@Yh _ _ _ (@Yek _ _ _ _ _ _ _ _ _ _ hr (@Ys _ _ _ _ _ (pv 0) rfl) (pv 1) (@Xu _ _ _ _ _ _ _ _ _ _ _ _ _ _ _ _ Z3o Zr hr (pv 0) (@Ya _ _ _ _ _ (pv 1) Yc (by rfl)) (by omega) (by rfl) (by rfl) (by rfl) (by rfl)) rfl)))) YJ) (@Yh _ _ _ (@Ym _ _ _ _ (@Yed _ _ _ _ _ _ _ hr (@Ys _ _ _ _ _ (pv 0) rfl) (pv 1) (fun _ _=>rfl))))),?_⟩
 walk_at "rd"
 refine ⟨_,_,_,L.hl,Zr,Zp,_,XY _ _,d,rfl,xs,L.hd,kd sh,hk,?_⟩
 have wp:=Vd sh
 cases hlk:lookD xs (kd sh) with
 | some p =>
  refine YZ (by simp) ?_
  unfold UG
  walk_at "rd"
  exact ⟨_,_,_,L.hl,Zr,Zp,_,XY _ _,d,rfl,xs,L.hd,kd sh,hk,p,hlk,q p H w U xs L (.refl _ _ _) (fun _ _ _ e=>e) (L.reg hok hlk) (by omega) (.refl _)⟩
 | none =>
  refine X3 rfl ?_
  obtain ⟨r,hT⟩:=YfC hk.den
  refine ⟨_,hT,_,Yu (j:=0) rfl,Xc _ _,?_⟩
  by_cases c:∃ x,sh = .use x
  ·obtain ⟨x,rfl⟩:=c
   have e6:wt (.use x)=1:=by simp [wt]
   have e7:dep (.use x)=0:=by simp [dep]
   refine X3 (by rw [kd];rfl) ⟨_,_,L.hl,UJ _ _ (by decide +kernel) (by decide +kernel),prs,w,U,O,ls,dx,d,B,a,x,xs,rfl,L,hk,hok,hlk,by omega,by omega,by omega,fun H' w' U' xs' L' G' fr' hl' hlen nk=>?_⟩
   unfold UG
   walk_at "rd"
   obtain ⟨p,hp⟩:=Option.ne_none_iff_exists'.mp hl'
   exact ⟨_,_,_,L'.hl,Zr,Zp,_,XY _ _,d,rfl,xs',L'.hd,kd (.use x),Vf hk fr' L.hd.at_,p,hp,q p H' w' U' xs' L' G' fr' (L'.reg hok hp) (by omega) nk⟩
  ·have hki:kind sh≤4:=by
    cases sh with
    | use x=>exact absurd ⟨x,rfl⟩ c
    | _=>simp [kind]
   refine YZ (fun z=>c ?_) ?_
   ·have z:=V.str.inj z
    cases sh with
    | use x=>exact ⟨x,rfl⟩
    | _=>exact absurd z (by simp only [kd,kdm];decide +kernel)
   ·unfold Ydt
    walk_at "rd"
    refine ⟨_,_,L.hl,UJ _ _ (by decide +kernel) (by decide +kernel),prs,w,U,O,ls,dx,d,B,a,sh,xs,rfl,L,hk,hok,hki,hdp,hwt,hxl,by omega,fun p H1 w1 U1 xs1 L1 G1 fr1 hr1 hl1 nk1=>?_⟩
    have dk1:=Vf hk fr1 L.hd.at_
    have LL:=L1.putX dk1 hok (by omega) hr1
    have fr2:FrB d H (upd H1 d (DDi g.P g.w d (_root_.L2.putX xs1 (kd sh) a p))):=fun b o hb e=>by rw [Yd hb];exact fr1 _ _ hb e
    have mo2:Mo xs1 (_root_.L2.putX xs1 (kd sh) a p):=YfB
    have hnn:=Qa (prs:=prs) mo2
    have hpl:=Yei xs1 (kd sh) a p
    refine ⟨_,_,_,L1.hl,Zr,Zp,_,XY _ _,d,a,xs1,kd sh,p,rfl,rfl,rfl,L1.hd,dk1,by omega,?_⟩
    unfold UG
    walk_at "rd"
    refine ⟨_,_,_,LL.hl,Zr,Zp,_,XY _ _,d,rfl,_,LL.hd,kd sh,Vf hk fr2 L.hd.at_,p,by rw [Qw,if_pos rfl],q p _ w1 U1 _ LL G1 fr2 hr1 (by omega) (nk1.trans mo2)⟩
def MW (C:Cs) (prs:Prs) (M:Nat) (H H':Hp) (p:Addr) (sh:Sh):Prop:=∃ (w:Wo) (U:Addr→Prop),WI C w (t0 U) H'∧w.reg p=some sh∧w.bk=bkO prs∧w.M=M∧Yk H H'∧∀ b,U b→H b=none
inductive Z3p (K:PySem.W.Frag) (C:Cs) (vs:List V) (H:Hp) (Q:VK) (E_:XK):Prop
 | mk (prs:Prs) (B a:Addr) (sh:Sh) (h0:vs=[.ref B,.ref a]) (h1:XW K H B prs) (h2:DK K H a (kd sh)) (h3:okS prs sh) (h4:okB prs) (h5:wt sh≤24) (h6:dep sh≤2) (h7:∀ p H',MW C prs 2 H H' p sh→Q (.ref p) H')
theorem Yay {k:Nat} {Z6 Z5 Z1 Z2 Z4 Z3 Z0:Addr} {c_law P_law:Addr} (R:g.Raw "maker_for" "maker_for" Z29 ["book","shape"]) {j_Lister___init__:Nat} (Z3A:g.Ma j_Lister___init__ "Lister" Z5 ["self","book"] (Z3Z g.P g.w Z5)) (h_Lister___init__:j_Lister___init__+1≤k) (Z05:g.Me k Z5 "maker_of" ["self","shape"] (Z08 g.P g.w g.K (Cs.mk Z0 Z2 Z4 Z1 Z3) Z5 60)) (Zr:Cls g.K Z5) (Zu:Yb g.K Z5 "book") (Zp:Yb g.K Z5 "makers"):g.Fn (k+1) "maker_for" ["book","shape"] (Z3p g.K (Cs.mk Z0 Z2 Z4 Z1 Z3)):=by
 refine R.fn Yao (fun vs H Q E h=>by obtain ⟨prs,B,a,sh,rfl,hB,hk,hok,ob,hwt,hdp,q⟩:=h;rfl) fun f_ cdv A outer s H vs Q E hr h=>?_
 obtain ⟨prs,B,a,sh,rfl,hB,hk,hok,ob,hwt,hdp,q⟩:=h
 refine ⟨_,(@Yh _ _ _ (@Ym _ _ _ _ (@Xu _ _ _ _ _ _ _ _ _ _ _ _ _ _ _ _ Z05 Zr hr (@V2 _ _ _ _ _ _ _ _ _ _ _ _ _ Z3A hr (@Ya _ _ _ _ _ (pv 0) Yc (by rfl)) (by omega) (by rfl) (by rfl) (by decide) (by rfl) (by rfl)) (@Ya _ _ _ _ _ (pv 1) Yc (by rfl)) (by omega) (by rfl) (by rfl) (by rfl) (by rfl)))),?_⟩
 walk_at "rd"
 intro ls dxl gl gdl hne
 refine ⟨ls,dxl,.ref B,rfl,Yg,fun d H1 gd sb h1 h2=>⟨rfl,_,_,h1,UJ _ _ (by decide +kernel) (by decide +kernel),?_⟩⟩
 have s1:=XZ gl gdl sb
 have gd':=Xs (Xs gd)
 have hnn:=nn_le (prs:=prs) (xs:=[])
 have hpl:=ob.len
 have bi:BI (Cs.mk Z0 Z2 Z4 Z1 Z3) ⟨bkO prs,fun _=>none,fun _=>none,2⟩ (fun _=>False) (fun _=>False) H1:=⟨fun p s' h=>(by cases h),fun p h=>h.elim,fun b h=>h.elim,fun b x h=>(by cases h),fun b q i h=>(by cases h),fun b b' x h=>(by cases h)⟩
 have L1:LS g.P g.w g.K (Cs.mk Z0 Z2 Z4 Z1 Z3) Z5 prs ⟨bkO prs,fun _=>none,fun _=>none,2⟩ (fun _=>False) (fun _=>False) H1 ls dxl d B []:=⟨h1,hB.tupk (Wf s1) fun o e=>s1 _ _ e,Ydp h2,bi,fun z=>z,fun z=>z,fun e he=>(by cases he),rfl,ob,rfl⟩
 refine ⟨prs,_,_,_,ls,dxl,d,B,a,sh,[],rfl,L1,hk.keep s1,hok,hdp,by omega,by rw [List.length_nil];omega,by omega,fun p H2 w2 U2 xs2 L2 G2 fr2 hr2 _ _=>q p H2 ⟨w2,U2,L2.bi.wi fun _ h=>h,hr2,L2.bk,G2.M,fun b o e=>fr2 _ _ (Yj e gd') (s1 _ _ e),fun b hb=>?_⟩⟩
 rcases G2.u2 b hb with z | z
 ·exact z.elim
 ·exact s1.free z
def fnd:List (Int×Int)→Int→Nat×Int×Int
 | [],n=>(0,n,0)
 | p::ps,n=>if p.1*p.2≤n then ((fnd ps (n - p.1*p.2)).1+1,(fnd ps (n - p.1*p.2)).2) else (0,n / p.2,n%p.2)
def ffs (pl:Nat) (c r:Int):List (Str×V):=[("place",.int pl),("choice",.int c),("rest",.int r)]
inductive Z40 (C:Addr) (vs:List V) (H:Hp) (Q:VK) (E_:XK):Prop
 | mk (p dx:Addr) (pl:Nat) (c r:Int) (h0:vs=[.ref p,.int pl,.int c,.int r]) (h1:H p=some (.ins C dx [])) (h2:∀ H',SameBut p H H'→H' p=some (.ins C dx (ffs pl c r))→Q .non H')
theorem npl1:¬ (("place":Str)="choice"):=by decide +kernel
theorem npl2:¬ (("place":Str)="rest"):=by decide +kernel
theorem npl3:¬ (("choice":Str)="rest"):=by decide +kernel
theorem YfD (pl:Nat) (c r:Int):YS "rest" (.int r) (YS "choice" (.int c) (YS "place" (.int pl) []))=ffs pl c r:=by
 simp only [YS,if_neg npl1,if_neg npl2,if_neg npl3];rfl
theorem Z3B {Z6 Z5 Z1 Z2 Z4 Z3 Z0:Addr} {c_law P_law:Addr} (R:g.RawI "Found" Z6 "Found.__init__" Z1b ["self","place","choice","rest"]) (ZC:Cls g.K Z6) (Zw:Yb g.K Z6 "place") (Zz:Yb g.K Z6 "choice") (ZJ:Yb g.K Z6 "rest"):g.Ma (1) "Found" Z6 ["self","place","choice","rest"] (Z40 Z6):=by
 refine R.ma Z3w (fun vs H Q E h=>by obtain ⟨p,dx,pl,c,r,rfl,hp,q⟩:=h;rfl) fun f_ cdv A outer s H vs Q E hr h=>?_
 obtain ⟨p,dx,pl,c,r,rfl,hp,q⟩:=h
 refine ⟨_,(@Ye _ _ _ _ _ (@Xh _ _ _ _ _ _ _ _ (pv 0) (pv 1) rfl) (@Ye _ _ _ _ _ (@Xh _ _ _ _ _ _ _ _ (pv 0) (pv 2) rfl) (@Yh _ _ _ (@Xh _ _ _ _ _ _ _ _ (pv 0) (pv 3) rfl)))),?_⟩
 walk_at "rd"
 refine ⟨_,dx,_,hp,ZC,Zw,by decide,_,dx,_,Yg,ZC,Zz,XI (Nat.le_trans (Xr _ _ _) (show 1≤3 by decide)),_,dx,_,Yg,ZC,ZJ,XI (Nat.le_trans (Xr _ _ _) (Nat.succ_le_succ (Nat.le_trans (Xr _ _ _) (show 1≤2 by decide)))),?_⟩
 refine q _ (fun x o hx h=>by rw [Yd hx,Yd hx,Yd hx];exact h) ?_
 rw [Yg]
 exact congrArg some (congrArg (HO.ins _ _) (YfD pl c r))
structure big (a b:Int):Prop where
 ex:∃ N:Nat,N≤8999∧a.natAbs<2^N∧b.natAbs<2^N
def Xf (ps:List (Int×Int)):Int:=(ps.map fun p=>p.1*p.2).sum
theorem Wx (p:Int×Int) (ps:List (Int×Int)):Xf (p::ps)=p.1*p.2+Xf ps:=by simp [Xf]
theorem Qd {α:Type} {ps:List α} {i:Nat} {p:α} (h:ps[i]?=some p):ps.drop i=p::ps.drop (i+1):=by
 obtain ⟨hi,e⟩:=List.getElem?_eq_some_iff.mp h
 rw [List.drop_eq_getElem_cons hi,e]
inductive Z2j (K:PySem.W.Frag) (C:Addr) (vs:List V) (H:Hp) (Q:VK) (E_:XK):Prop
 | mk (D:Addr) (ps:List (Int×Int)) (n:Int) (h0:vs=[.ref D,.int n]) (h1:Blk H D ps) (h2:ps.length≤1000) (h3:(∀ p∈ps,big p.1 p.2)) (h4:(∀ p∈ps,0≤p.1∧0≤p.2)) (h5:0≤n) (h6:n<Xf ps) (h7:∀ f dx H',Yk H H'→H f=none→H' f=some (.ins C dx (ffs (fnd ps n).1 (fnd ps n).2.1 (fnd ps n).2.2))→Q (.ref f) H')
theorem Ya4 {k:Nat} {Z6 Z5 Z1 Z2 Z4 Z3 Z0:Addr} {c_law P_law:Addr} (R:g.Raw "found_in" "found_in" Z2A ["blocks","number"]) {j_Found___init__:Nat} (Z3Q:g.Ma j_Found___init__ "Found" Z6 ["self","place","choice","rest"] (Z40 Z6)) (h_Found___init__:j_Found___init__+1≤k):g.Fn (k+1) "found_in" ["blocks","number"] (Z2j g.K Z6):=by
 refine R.fn Z0y (fun vs H Q E h=>by obtain ⟨D,ps,n,rfl,⟨xs,hD,hxl,hxp⟩,hl,hb,hp,h0,hn,q⟩:=h;rfl) fun f_ cdv A outer s H vs Q E hr h=>?_
 obtain ⟨D,ps,n,rfl,⟨xs,hD,hxl,hxp⟩,hl,hb,hp,h0,hn,q⟩:=h
 refine ⟨_,(@Ye _ _ _ _ _ (@Yq _ _ (2) _ _ _ _ Z0y.nd rfl (.inl rfl) Yf (by rfl) (by first | exact .inl rfl | exact .inr rfl | assumption)) (@Ye _ _ _ _ _ (@Yq _ _ (3) _ _ _ _ Z0y.nd rfl (.inl rfl) (pv 1) (by rfl) (by first | exact .inl rfl | exact .inr rfl | assumption)) (@Ye _ _ _ _ _ (@XS _ _ _ _ _ _ PassesOwn.never (@Yt _ _ _ _ _ _ _ _ op_ge (pv 3) (@Yl _ _ _ _ _ _ _ _ Xw (@Yn _ _ _ _ _ _ _ YL (@Yn _ _ _ _ _ _ _ Yw (pv 0) (pv 2) (fun _ _=>rfl)) Yf (fun _ _=>rfl)) (@Yn _ _ _ _ _ _ _ YL (@Yn _ _ _ _ _ _ _ Yw (pv 0) (pv 2) (fun _ _=>rfl)) Yf (fun _ _=>rfl))) (Yv _)) (@Ye _ _ _ _ _ (@Q2 _ _ (3) _ _ _ _ _ _ Z0y.nd rfl (.inl rfl) (@Yl _ _ _ _ _ _ _ _ Xw (@Yn _ _ _ _ _ _ _ YL (@Yn _ _ _ _ _ _ _ Yw (pv 0) (pv 2) (fun _ _=>rfl)) Yf (fun _ _=>rfl)) (@Yn _ _ _ _ _ _ _ YL (@Yn _ _ _ _ _ _ _ Yw (pv 0) (pv 2) (fun _ _=>rfl)) Yf (fun _ _=>rfl))) YcT (by first | exact .inl rfl | exact .inr rfl | assumption)) (@Yh _ _ _ (@Q2 _ _ (2) _ _ _ _ _ _ Z0y.nd rfl (.inl rfl) Yf YfX (by first | exact .inl rfl | exact .inr rfl | assumption))))) (@Ye _ _ _ _ _ (@Yq _ _ (4) _ _ _ _ Z0y.nd rfl (.inl rfl) (@Yn _ _ _ _ _ _ _ YL (@Yn _ _ _ _ _ _ _ Yw (pv 0) (pv 2) (fun _ _=>rfl)) Yf (fun _ _=>rfl)) (by rfl) (by first | exact .inl rfl | exact .inr rfl | assumption)) (@Yh _ _ _ (@Ym _ _ _ _ (@V2 _ _ _ _ _ _ _ _ _ _ _ _ _ Z3Q hr (@Ya _ _ _ _ _ (pv 2) (@Ya _ _ _ _ _ (@Yl _ _ _ _ _ _ _ _ Wb (pv 3) (pv 4)) (@Ya _ _ _ _ _ (@Yl _ _ _ _ _ _ _ _ Xg (pv 3) (pv 4)) Yc (by rfl)) (by rfl)) (by rfl)) (by omega) (by rfl) (by rfl) (by decide) (by rfl) (by rfl)))))))),?_⟩
 walk_at "rd"
 refine Xd (α:=Nat×Int) (fun x σ H'=>σ=[some (.ref D),some (.int n),some (.int (x.1:Nat)),some (.int x.2),none]∧H=H'∧0≤x.2∧x.2<Xf (ps.drop x.1)∧fnd ps n=(x.1+(fnd (ps.drop x.1) x.2).1,(fnd (ps.drop x.1) x.2).2)∧x.1≤ps.length) (fun x=>decide ((ps.getD x.1 (0,0)).1*(ps.getD x.1 (0,0)).2≤x.2)) (fun x=>ps.length - x.1) (0,n) ⟨rfl,rfl,h0,hn,by simp,Nat.zero_le _⟩ ?_ ?_ ?_
 ·rintro ⟨i,l⟩ σ H' ⟨rfl,rfl,g0,g1,g2,g3⟩ R r
  dsimp only at g0 g1 g2 g3
  have hi:i<ps.length:=by
   rcases Nat.lt_or_ge i ps.length with c | c
   ·exact c
   ·rw [List.drop_eq_nil_of_le c] at g1;simp [Xf] at g1;omega
  have hpi:ps[i]?=some ps[i]:=List.getElem?_eq_getElem hi
  have hxi:xs[i]?=some (xs[i]'(by omega)):=List.getElem?_eq_getElem _
  obtain ⟨T,eT,hT⟩:=hxp i _ _ hxi hpi
  obtain ⟨N,b0,b1,b2⟩:=(hb _ (List.mem_of_getElem? hpi)).ex
  have rr:=r H ⟨rfl,rfl,g0,g1,g2,g3⟩
  have eg:ps.getD i (0,0)=ps[i]:=by rw [List.getD_eq_getElem?_getD,hpi];rfl
  dsimp only at rr
  rw [eg] at rr
  walk_at "rd"
  exact ⟨_,SqL.of hD,_,Yu hxi,T,eT,_,SqT.of hT,_,rfl,_,SqL.of hD,_,Yu hxi,T,eT,_,SqT.of hT,_,rfl,_,rfl,_,rfl,.inl (cm b1 b2 (by omega)),rr⟩
 ·rintro ⟨i,l⟩ σ H' ⟨rfl,rfl,g0,g1,g2,g3⟩ hcond
  dsimp only at g0 g1 g2 g3
  have hi:i<ps.length:=by
   rcases Nat.lt_or_ge i ps.length with c | c
   ·exact c
   ·rw [List.drop_eq_nil_of_le c] at g1;simp [Xf] at g1;omega
  have hpi:ps[i]?=some ps[i]:=List.getElem?_eq_getElem hi
  have hxi:xs[i]?=some (xs[i]'(by omega)):=List.getElem?_eq_getElem _
  obtain ⟨T,eT,hT⟩:=hxp i _ _ hxi hpi
  obtain ⟨N,b0,b1,b2⟩:=(hb _ (List.mem_of_getElem? hpi)).ex
  have eg:ps.getD i (0,0)=ps[i]:=by rw [List.getD_eq_getElem?_getD,hpi];rfl
  have edr:=Qd hpi
  dsimp only at hcond
  rw [eg,decide_eq_true_iff] at hcond
  rw [edr,Wx] at g1
  rw [edr,fnd,if_pos hcond] at g2
  walk_at "rd"
  refine ⟨_,SqL.of hD,_,Yu hxi,T,eT,_,SqT.of hT,_,rfl,_,SqL.of hD,_,Yu hxi,T,eT,_,SqT.of hT,_,rfl,_,rfl,_,rfl,.inl (cm b1 b2 (by omega)),(i+1,l - ps[i].1*ps[i].2),by simp,rfl,by dsimp only;omega,by dsimp only;omega,?_,hi,by dsimp only;omega⟩
  rw [g2]
  dsimp only
  rw [show i+((fnd (ps.drop (i+1)) (l - ps[i].1*ps[i].2)).1+1)=i+1+(fnd (ps.drop (i+1)) (l - ps[i].1*ps[i].2)).1 by omega]
 ·rintro ⟨i,l⟩ σ H' ⟨rfl,rfl,g0,g1,g2,g3⟩ hcond
  dsimp only at g0 g1 g2 g3
  have hi:i<ps.length:=by
   rcases Nat.lt_or_ge i ps.length with c | c
   ·exact c
   ·rw [List.drop_eq_nil_of_le c] at g1;simp [Xf] at g1;omega
  have hpi:ps[i]?=some ps[i]:=List.getElem?_eq_getElem hi
  have hxi:xs[i]?=some (xs[i]'(by omega)):=List.getElem?_eq_getElem _
  obtain ⟨T,eT,hT⟩:=hxp i _ _ hxi hpi
  obtain ⟨N,b0,b1,b2⟩:=(hb _ (List.mem_of_getElem? hpi)).ex
  have eg:ps.getD i (0,0)=ps[i]:=by rw [List.getD_eq_getElem?_getD,hpi];rfl
  have edr:=Qd hpi
  dsimp only at hcond
  rw [eg,decide_eq_false_iff_not] at hcond
  rw [edr,fnd,if_neg hcond] at g2
  have hp2:0<ps[i].2:=by
   rcases Int.lt_or_eq_of_le (hp _ (List.mem_of_getElem? hpi)).2 with c | c
   ·exact c
   ·rw [← c,Int.mul_zero] at hcond;omega
  walk_at "rd"
  refine ⟨_,SqL.of hD,_,Yu hxi,T,eT,_,SqT.of hT,_,rfl,_,rfl,⟨hp2,Nat.lt_of_lt_of_le b2 (Nat.pow_le_pow_right (by decide) (Nat.le_trans b0 (by decide)))⟩,_,rfl,hp2,fun f dx hf hdx hne=>⟨f,dx,i,_,_,rfl,Yg,fun H' sb h=>⟨rfl,q f dx H' (XZ hf hdx sb) hf ?_⟩⟩⟩
  rw [g2]
  exact h
theorem YdF:∀ (ps:List (Int×Int)) (n:Int),0≤n→n<Xf ps→(∀ p∈ps,0≤p.1∧0≤p.2)→∃ p,ps[(fnd ps n).1]?=some p∧0≤(fnd ps n).2.2∧(fnd ps n).2.2<p.2
 | [],n,h0,h1,_=>by simp [Xf] at h1;omega
 | p::ps,n,h0,h1,hp=>by
  rw [Wx] at h1
  by_cases c:p.1*p.2≤n
  ·obtain ⟨q,g1,g2,g3⟩:=YdF ps (n - p.1*p.2) (by omega) (by omega) fun q hq=>hp q (.tail _ hq)
   rw [fnd,if_pos c]
   exact ⟨q,by simpa using g1,g2,g3⟩
  ·rw [fnd,if_neg c]
   have h2:0<p.2:=by
    rcases Int.lt_or_eq_of_le (hp p (.head _)).2 with z | z
    ·exact z
    ·rw [← z,Int.mul_zero] at c;omega
   exact ⟨p,rfl,Int.emod_nonneg _ (by omega),Int.emod_lt_of_pos _ h2⟩
theorem Yaz:∀ (ps:List (Int×Int)) (n:Int),0≤n→n<Xf ps→(∀ p∈ps,0≤p.1∧0≤p.2)→∃ p,ps[(fnd ps n).1]?=some p∧0≤(fnd ps n).2.1∧(fnd ps n).2.1<p.1
 | [],n,h0,h1,_=>by simp [Xf] at h1;omega
 | p::ps,n,h0,h1,hp=>by
  rw [Wx] at h1
  by_cases c:p.1*p.2≤n
  ·obtain ⟨q,g1,g2,g3⟩:=Yaz ps (n - p.1*p.2) (by omega) (by omega) fun q hq=>hp q (.tail _ hq)
   rw [fnd,if_pos c]
   exact ⟨q,by simpa using g1,g2,g3⟩
  ·rw [fnd,if_neg c]
   have h2:0<p.2:=by
    rcases Int.lt_or_eq_of_le (hp p (.head _)).2 with z | z
    ·exact z
    ·rw [← z,Int.mul_zero] at c;omega
   exact ⟨p,rfl,Int.ediv_nonneg h0 (by omega),Int.ediv_lt_of_lt_mul h2 (by omega)⟩
mutual
inductive VO (U:Addr→Prop) (H:Hp):V→PyData→Prop
 | int (i:Int):VO U H (.int i) (.int i)
 | str (x:Str) (h:PyData.strOk x=true):VO U H (.str x) (.str x)
 | tup {a:Addr} {vs:List V} {ds:List PyData}:¬ U a→H a=some (.tup vs)→VOs U H vs ds→VO U H (.ref a) (.tuple ds)
inductive VOs (U:Addr→Prop) (H:Hp):List V→List PyData→Prop
 | nil:VOs U H [] []
 | cons {v:V} {d:PyData} {vs:List V} {ds:List PyData}:VO U H v d→VOs U H vs ds→VOs U H (v::vs) (d::ds)
end
mutual
theorem VO.mono {U U':Addr→Prop} {H H':Hp} (h1:∀ a us,¬ U a→H a=some (.tup us)→¬ U' a∧H' a=some (.tup us)):∀ {v:V} {d:PyData},VO U H v d→VO U' H' v d
 | _,_,.int i => .int i
 | _,_,.str x h => .str x h
 | _,_,.tup k1 k2 k3 => .tup (h1 _ _ k1 k2).1 (h1 _ _ k1 k2).2 (VOs.mono h1 k3)
theorem VOs.mono {U U':Addr→Prop} {H H':Hp} (h1:∀ a us,¬ U a→H a=some (.tup us)→¬ U' a∧H' a=some (.tup us)):∀ {vs:List V} {ds:List PyData},VOs U H vs ds→VOs U' H' vs ds
 | _,_,.nil => .nil
 | _,_,.cons a b => .cons (VO.mono h1 a) (VOs.mono h1 b)
end
mutual
theorem VO.den {K:PySem.W.Frag} {U:Addr→Prop} {H:Hp}:∀ {v:V} {d:PyData},VO U H v d→Den K H v d
 | _,_,.int i => .int i
 | _,_,.str x h => .str x h
 | _,_,.tup _ k2 k3 => .tup (SqT.of k2) (VOs.den k3)
theorem VOs.den {K:PySem.W.Frag} {U:Addr→Prop} {H:Hp}:∀ {vs:List V} {ds:List PyData},VOs U H vs ds→Dens K H vs ds
 | _,_,.nil => .nil
 | _,_,.cons a b => .cons (VO.den a) (VOs.den b)
end
mutual
inductive Va (bk:List Nat→Sh):Sh→Nat→Int→PyData→Prop
 | w (lo:Int) (span s:Nat) (r:Int):Va bk (.w lo span) s r (.int (lo+1*2^s / 2^1+r))
 | use {x:List Nat} {s:Nat} {r:Int} {d:PyData}:Va bk (bk x) s r d→Va bk (.use x) (s+1) r d
 | pick {mk:List (List Nat)} {ps:List Sh} {s:Nat} {r:Int} {p:Sh} {m:List Nat} {d:PyData}:ps[(fnd (ps.map fun p=>(cnt bk p s,1)) r).1]?=some p→mk[(fnd (ps.map fun p=>(cnt bk p s,1)) r).1]?=some m→Va bk p s (fnd (ps.map fun p=>(cnt bk p s,1)) r).2.1 d→Va bk (.pick mk ps) s r (.tuple [.str (S m),d])
 | row {ps:List Sh} {s:Nat} {r:Int} {ds:List PyData}:Vr bk ps s r ds→Va bk (.row ps) s r (.tuple ds)
inductive Vr (bk:List Nat→Sh):List Sh→Nat→Int→List PyData→Prop
 | nil (s:Nat) (r:Int):Vr bk [] s r []
 | cons {p:Sh} {ps:List Sh} {s:Nat} {r:Int} {d:PyData} {ds:List PyData}:Va bk p (fnd ((List.range (s+1)).map fun f=>(cnt bk p f,YB bk ps (s - f))) r).1 (fnd ((List.range (s+1)).map fun f=>(cnt bk p f,YB bk ps (s - f))) r).2.1 d→Vr bk ps (s - (fnd ((List.range (s+1)).map fun f=>(cnt bk p f,YB bk ps (s - f))) r).1) (fnd ((List.range (s+1)).map fun f=>(cnt bk p f,YB bk ps (s - f))) r).2.2 ds→Vr bk (p::ps) s r (d::ds)
end
structure VQ (C:Cs) (w:Wo) (t:Sw) (H:Hp) (prs:Prs) (p:Addr) (sh:Sh) (s:Nat) (r:Int):Prop where
 W:WI C w t H
 rg:w.reg p=some sh
 ob:okB prs
 bk:w.bk=bkO prs
 ok:okS prs sh
 wt:wt sh≤24
 M:w.M=2
 cn:s<t.ns p
 s10:s≤11
 r0:0≤r
 r1:r<cnt w.bk sh s
 rd:∀ p sh,w.reg p=some sh→Uni t p
inductive sp_val (C:Cs) (k l:Nat) (vs:List V) (H:Hp) (Q:VK) (E_:XK):Prop
 | mk (w:Wo) (t:Sw) (prs:Prs) (p:Addr) (sh:Sh) (s:Nat) (r:Int) (h0:vs=[.ref p,.int (s:Nat),.int r]) (h1:kind sh=k) (h2:VQ C w t H prs p sh s r) (h3:3*s+dep sh+1≤l) (h4:∀ v d t' H',Tr C w t H t' H' 12 0→VO t'.U H' v d→Va w.bk sh s r d→Q v H')
theorem XB {C:Cs} {k:Nat} {vs:List V} {H:Hp} {Q:VK} {E:XK} (h:sp_val C k 0 vs H Q E):False:=by
 obtain ⟨w,t,prs,p,sh,s,r,_,_,_,h,_⟩:=h
 omega
variable {m:Nat}
theorem Z16 {k:Nat} {Z6 Z5 Z1 Z2 Z4 Z3 Z0:Addr} {c_law P_law:Addr} (R:g.RawM Z0 "value_at" "WholeMaker.value_at" Z0d ["self","size","number"]) (Z1d:g.Fn k "least_distance" ["size"] (sp_ld)) (Z8:Cls g.K Z0) (Z7:Yb g.K Z0 "counts") (Zf:Yb g.K Z0 "low") (Zd:Yb g.K Z0 "span"):g.Me (k+1) Z0 "value_at" ["self","size","number"] (sp_val (Cs.mk Z0 Z2 Z4 Z1 Z3) 0 (m+1)):=by
 refine R.me Z2d (fun vs H Q E h=>by obtain ⟨w,t,prs,p,sh,sz,r,rfl,hk,vq,hl,q⟩:=h;rfl) fun f_ cdv A outer s H vs Q E hr h=>?_
 obtain ⟨w,t,prs,p,sh,sz,r,rfl,hk,vq,hl,q⟩:=h
 refine ⟨_,(@Yh _ _ _ (@Ym _ _ _ _ (@Yl _ _ _ _ _ _ _ _ YQ (@Yl _ _ _ _ _ _ _ _ YQ (@Ys _ _ _ _ _ (pv 0) rfl) (@YH _ _ _ _ _ _ _ _ _ _ _ _ Z1d hr (@Ya _ _ _ _ _ (pv 1) Yc (by rfl)) (by omega) (by rfl) (by rfl) (by decide) (by rfl) (by rfl))) (pv 2)))),?_⟩
 cases sh with
 | w lo span =>
  obtain ⟨dx,c,fs,hU,hd,hsm,hns,hp,hDc,hc,hsub⟩:=vq.W.at_ p _ vq.rg
  have hsub:fs=fW lo span:=hsub
  subst hsub
  have s10:=vq.s10
  walk_at "rd"
  exact ⟨_,_,_,hp,Z8,Zf,_,rfl,_,rfl,by omega,_,rfl,_,rfl,q _ _ t H (.refl vq.W _ _) (.int _) (.w lo span sz r)⟩
 | _=>simp [kind] at hk
abbrev valL (C:Cs) (l:Nat):List (Addr×Sp):=[(C.w,sp_val C 0 l),(C.row,sp_val C 2 l),(C.pick,sp_val C 3 l),(C.use,sp_val C 5 l)]
theorem Uc {C:Cs} {w:Wo} {t:Sw} {H:Hp} {prs:Prs} {a:Addr} {sh:Sh} {l sz:Nat} {r:Int} {Q:VK} (V:VQ C w t H prs a sh sz r) (hf:3*sz+dep sh+1≤l) (q:∀ v d t' H',Tr C w t H t' H' 12 0→VO t'.U H' v d→Va w.bk sh sz r d→Q v H'):MeAQ (valL C l) H a "value_at" fun sp=>sp [.ref a,.int (sz:Nat),.int r] H Q E0:=by
 obtain ⟨dx,c,fs,hU,hd,hsm,hns,hp,hDc,hc,hsub⟩:=V.W.at_ a sh V.rg
 have mem:(Vv C sh,sp_val C (kind sh) l)∈valL C l:=by
  cases sh with
  | w lo span=>exact .head _
  | row ps=>exact .tail _ (.head _)
  | pick mk ps=>exact .tail _ (.tail _ (.head _))
  | use x=>exact .tail _ (.tail _ (.tail _ (.head _)))
 exact ⟨_,_,mem,dx,_,hp,Ww (by decide +kernel) hsub,w,t,prs,a,sh,sz,r,rfl,rfl,V,hf,q⟩
theorem Z1z {k:Nat} {Z6 Z5 Z1 Z2 Z4 Z3 Z0:Addr} {c_law P_law:Addr} (R:g.RawM Z3 "value_at" "UseMaker.value_at" Z0I ["self","size","number"]) (ZD:g.Me k Z0 "value_at" ["self","size","number"] (sp_val (Cs.mk Z0 Z2 Z4 Z1 Z3) 0 m)) (ZK:g.Me k Z2 "value_at" ["self","size","number"] (sp_val (Cs.mk Z0 Z2 Z4 Z1 Z3) 2 m)) (ZG:g.Me k Z1 "value_at" ["self","size","number"] (sp_val (Cs.mk Z0 Z2 Z4 Z1 Z3) 3 m)) (ZL:g.Me k Z3 "value_at" ["self","size","number"] (sp_val (Cs.mk Z0 Z2 Z4 Z1 Z3) 5 m)) (Zc:Cls g.K Z1) (Z9:Yb g.K Z1 "counts") (Zg:Yb g.K Z1 "marks") (Ze:Yb g.K Z1 "parts") (Zi:Cls g.K Z2) (Za:Yb g.K Z2 "counts") (Zl:Yb g.K Z2 "parts") (Zj:Yb g.K Z2 "table") (Zk:Cls g.K Z3) (Zb:Yb g.K Z3 "counts") (Zh:Yb g.K Z3 "named") (Z8:Cls g.K Z0) (Z7:Yb g.K Z0 "counts") (Zf:Yb g.K Z0 "low") (Zd:Yb g.K Z0 "span"):g.Me (k+1) Z3 "value_at" ["self","size","number"] (sp_val (Cs.mk Z0 Z2 Z4 Z1 Z3) 5 (m+1)):=by
 refine R.me Z2I (fun vs H Q E h=>by obtain ⟨w,t,prs,p,sh,sz,r,rfl,hk,vq,hl,q⟩:=h;rfl) fun f_ cdv A outer s H vs Q E hr h=>?_
 obtain ⟨w,t,prs,p,sh,sz,r,rfl,hk,vq,hl,q⟩:=h
 refine ⟨_,(@Yh _ _ _ (@Ym _ _ _ _ (@X5 _ _ _ _ _ _ _ _ _ _ _ _ _ _ _ (Yo ZD Z8 (Yo ZK Zi (Yo ZG Zc (Yo ZL Zk XN)))) hr (@Ys _ _ _ _ _ (pv 0) rfl) (@Ya _ _ _ _ _ (@Yl _ _ _ _ _ _ _ _ Xm (pv 1) Yf) (@Ya _ _ _ _ _ (pv 2) Yc (by rfl)) (by rfl)) (by omega) (by rfl) (by rfl) (by rfl) (by rfl)))),?_⟩
 cases sh with
 | use x =>
  obtain ⟨dx,c,fs,hU,hd,hsm,hns,hp,hDc,hc,hsub⟩:=vq.W.at_ p _ vq.rg
  obtain ⟨a,rfl,hga,hcn⟩:=hsub
  have hok:=vq.ok
  rw [okS] at hok
  obtain ⟨q0,hf0⟩:=hok
  obtain ⟨eb,hm0⟩:=U9 hf0
  have e0:w.bk x=q0.2:=by rw [vq.bk];exact eb
  have h1:=vq.r1
  have h0:=vq.r0
  have hc1:=vq.cn
  have s10:=vq.s10
  obtain ⟨j,rfl⟩:∃ j,sz=j+1:=⟨sz - 1,by
   cases sz with
   | zero=>rw [WQ] at h1;omega
   | succ j=>rfl⟩
  rw [V7] at h1
  have hdp:=vq.ob.dp q0 hm0
  have VA:VQ (Cs.mk Z0 Z2 Z4 Z1 Z3) w t H prs a (w.bk x) j r:=⟨vq.W,hga,vq.ob,vq.bk,by rw [e0];exact vq.ob.ok q0 hm0,by rw [e0];exact vq.ob.wt q0 hm0,vq.M,by omega,by omega,h0,h1,vq.rd⟩
  have hd2:dep (w.bk x)≤2:=by rw [e0];exact hdp
  walk_at "rd"
  rw [show ((j+1:Nat):Int) - 1=(j:Int) by omega]
  refine ⟨_,_,_,hp,Zk,Zh,_,Yas _ _,a,rfl,?_⟩
  exact Uc VA (by omega) fun v d t' H' T1 hv hva=>q v d t' H' T1 hv (.use hva)
 | _=>simp [kind] at hk
theorem Yes (c M P:Addr):(mf c (fP M P)).lookup ("marks":Str)=some (.ref M):=by
 unfold mf fP
 rw [List.lookup_cons,show (("marks":Str)==("counts":Str))=false by decide +kernel,List.lookup_cons,show (("marks":Str)==("marks":Str))=true by decide +kernel]
theorem Ye2 {i:Int} {n:Nat} (h0:0≤i) (h:i≤2^n):i.natAbs<2^(n+1):=by
 have e:(2:Int)^n=((2^n:Nat):Int):=by norm_cast
 rw [e] at h
 rw [Nat.pow_succ]
 have:0<2^n:=Nat.pow_pos (by decide)
 omega
theorem YdG {i j:Int} {n m:Nat} (h0:0≤i) (h:i≤2^n) (g0:0≤j) (g:j≤2^m) (hn:n≤8990) (hm:m≤8990):big i j :=
 ⟨8991,by decide,Nat.lt_of_lt_of_le (Ye2 h0 h) (Nat.pow_le_pow_right (by decide) (by omega)),Nat.lt_of_lt_of_le (Ye2 g0 g) (Nat.pow_le_pow_right (by decide) (by omega))⟩
theorem QA (f:Sh→Int) (ps:List Sh):Xf (ps.map fun p=>(f p,1))=(ps.map f).sum:=by
 unfold Xf
 rw [List.map_map]
 congr 1
 exact List.map_congr_left fun p _=>Int.mul_one _
theorem VO.same {U:Addr→Prop} {H H':Hp} (s:Yk H H') {v:V} {d:PyData} (h:VO U H v d):VO U H' v d:=h.mono fun _ _ n e=>⟨n,s _ _ e⟩
theorem Z1n {k:Nat} {Z6 Z5 Z1 Z2 Z4 Z3 Z0:Addr} {c_law P_law:Addr} (R:g.RawM Z1 "value_at" "PickMaker.value_at" Z0n ["self","size","number"]) (Z2S:g.Fn k "found_in" ["blocks","number"] (Z2j g.K Z6)) (ZD:g.Me k Z0 "value_at" ["self","size","number"] (sp_val (Cs.mk Z0 Z2 Z4 Z1 Z3) 0 m)) (ZK:g.Me k Z2 "value_at" ["self","size","number"] (sp_val (Cs.mk Z0 Z2 Z4 Z1 Z3) 2 m)) (Z0g:g.Me k Z1 "blocks_at" ["self","size"] (Z1x (Cs.mk Z0 Z2 Z4 Z1 Z3) 181)) (ZG:g.Me k Z1 "value_at" ["self","size","number"] (sp_val (Cs.mk Z0 Z2 Z4 Z1 Z3) 3 m)) (ZL:g.Me k Z3 "value_at" ["self","size","number"] (sp_val (Cs.mk Z0 Z2 Z4 Z1 Z3) 5 m)) (ZC:Cls g.K Z6) (Zw:Yb g.K Z6 "place") (Zz:Yb g.K Z6 "choice") (ZJ:Yb g.K Z6 "rest") (Zc:Cls g.K Z1) (Z9:Yb g.K Z1 "counts") (Zg:Yb g.K Z1 "marks") (Ze:Yb g.K Z1 "parts") (Zi:Cls g.K Z2) (Za:Yb g.K Z2 "counts") (Zl:Yb g.K Z2 "parts") (Zj:Yb g.K Z2 "table") (Zk:Cls g.K Z3) (Zb:Yb g.K Z3 "counts") (Zh:Yb g.K Z3 "named") (Z8:Cls g.K Z0) (Z7:Yb g.K Z0 "counts") (Zf:Yb g.K Z0 "low") (Zd:Yb g.K Z0 "span"):g.Me (k+1) Z1 "value_at" ["self","size","number"] (sp_val (Cs.mk Z0 Z2 Z4 Z1 Z3) 3 (m+1)):=by
 refine R.me Z1j (fun vs H Q E h=>by obtain ⟨w,t,prs,p,sh,sz,r,rfl,hk,vq,hl,q⟩:=h;rfl) fun f_ cdv A outer s H vs Q E hr h=>?_
 obtain ⟨w,t,prs,p,sh,sz,r,rfl,hk,vq,hl,q⟩:=h
 refine ⟨_,(@Ye _ _ _ _ _ (@Yq _ _ (3) _ _ _ _ Z1j.nd rfl (.inl rfl) (@YH _ _ _ _ _ _ _ _ _ _ _ _ Z2S hr (@Ya _ _ _ _ _ (@Xu _ _ _ _ _ _ _ _ _ _ _ _ _ _ _ _ Z0g Zc hr (pv 0) (@Ya _ _ _ _ _ (pv 1) Yc (by rfl)) (by omega) (by rfl) (by rfl) (by rfl) (by rfl)) (@Ya _ _ _ _ _ (pv 2) Yc (by rfl)) (by rfl)) (by omega) (by rfl) (by rfl) (by decide) (by rfl) (by rfl)) (by rfl) (by first | exact .inl rfl | exact .inr rfl | assumption)) (@Yh _ _ _ (@Ym _ _ _ _ (@Xi _ _ _ _ _ (@Ya _ _ _ _ _ (@Yn _ _ _ _ _ _ _ Yw (@Ys _ _ _ _ _ (pv 0) rfl) (@Ys _ _ _ _ _ (pv 3) rfl) (fun _ _=>rfl)) (@Ya _ _ _ _ _ (@X5 _ _ _ _ _ _ _ _ _ _ _ _ _ _ _ (Yo ZD Z8 (Yo ZK Zi (Yo ZG Zc (Yo ZL Zk XN)))) hr (@Yn _ _ _ _ _ _ _ Yw (@Ys _ _ _ _ _ (pv 0) rfl) (@Ys _ _ _ _ _ (pv 3) rfl) (fun _ _=>rfl)) (@Ya _ _ _ _ _ (pv 1) (@Ya _ _ _ _ _ (@Ys _ _ _ _ _ (pv 3) rfl) Yc (by rfl)) (by rfl)) (by omega) (by rfl) (by rfl) (by rfl) (by rfl)) Yc (by rfl)) (by rfl)))))),?_⟩
 cases sh with
 | pick mk ps =>
  obtain ⟨dx,c,fs,hU,hd,hsm,hns,hp,hDc,hc,hsub⟩:=vq.W.at_ p _ vq.rg
  have hno:=fun {m:Str} (h:isF m=false)=>Ww (c:=c) h hsub
  obtain ⟨M,P,as,rfl,h2,h3,h4,h5,h6,h7⟩:=hsub
  have hdr:dep (.pick mk ps)=YO ps+1:=by rw [dep]
  have hok:=vq.ok
  rw [okS] at hok
  obtain ⟨hml,hpl,hoks,hstr⟩:=hok
  have s10:=vq.s10
  have hcn:=vq.cn
  have hM:=vq.M
  have hwt:=vq.wt
  rw [wt] at hwt
  have cb:∀ p∈ps,0≤cnt w.bk p sz∧cnt w.bk p sz≤2^(300*sz+(12*wt p - 6))∧wt p≤24:=fun p' hp'=>by
   have h1:=Yat hp'
   rw [vq.bk]
   have:=WR prs vq.ob p' sz (by omega) (WJ hoks hp') (by omega)
   exact ⟨this.1,this.2,by omega⟩
  have nn:∀ x∈ps.map (fun p=>(cnt w.bk p sz,(1:Int))),0≤x.1∧0≤x.2:=fun x hx=>by
   obtain ⟨p',hp',rfl⟩:=List.mem_map.mp hx
   exact ⟨(cb p' hp').1,(by decide:(0:Int)≤1)⟩
  have hr1:=vq.r1
  rw [Vu,← QA (fun p=>cnt w.bk p sz)] at hr1
  obtain ⟨x,e1,e2,e3⟩:=Yaz _ r vq.r0 hr1 nn
  generalize hfn:fnd (ps.map fun p=>(cnt w.bk p sz,(1:Int))) r=fd at e1 e2 e3
  rw [List.getElem?_map] at e1
  obtain ⟨p',hp',rfl⟩:=Option.map_eq_some_iff.mp e1
  have hi:=(List.getElem?_eq_some_iff.mp hp').1
  have hmk:mk[fd.1]?=some (mk[fd.1]'(by omega)):=List.getElem?_eq_getElem _
  generalize mk[fd.1]'(by omega)=mkk at hmk
  have hal:=h6.1
  have hai:as[fd.1]?=some (as[fd.1]'(by omega)):=List.getElem?_eq_getElem _
  generalize as[fd.1]'(by omega)=a at hai
  have hga:=h6.2 fd.1 a p' hai hp'
  have hdp:dep p'≤YO ps:=Wi (List.mem_of_getElem? hp')
  refine Yr fun R rr=>?_
  walk_at "rd"
  refine ⟨_,_,hp,hno (by decide +kernel),w,t,p,mk,ps,sz,rfl,vq.W,vq.rg,by omega,by omega,by unfold fu;rw [hM];omega,fun p' sh' hr' _=>vq.rd p' sh' hr',fun D t1 H1 T1 gD hUD hB hpc=>?_⟩
  refine ⟨D,_,r,rfl,hB,by rw [List.length_map];omega,fun x hx=>?_,nn,vq.r0,hr1,fun f dxf H2 s2 gf hf=>rr _ _ ?_⟩
  ·obtain ⟨p2,hp2,rfl⟩:=List.mem_map.mp hx
   obtain ⟨c1,c2,c3⟩:=cb p2 hp2
   exact YdG (m:=0) c1 c2 (by decide:(0:Int)≤1) (by decide:(1:Int)≤2^0) (by omega) (by decide)
  ·rw [hfn] at hf
   have T2:=T1.same s2
   have hp2:=T2.fr _ _ hU.1 hp
   have VA:VQ (Cs.mk Z0 Z2 Z4 Z1 Z3) w t1 H2 prs a p' sz fd.2.1:=⟨T2.wi,hga,vq.ob,vq.bk,WJ hoks (List.mem_of_getElem? hp'),(cb p' (List.mem_of_getElem? hp')).2.2,vq.M,hpc a ⟨dx,c,M,P,as,hp,h5,List.mem_of_getElem? hai⟩,s10,e2,e3,fun p' sh' hr'=>(T2.gr p' sh' hr').un (vq.rd p' sh' hr')⟩
   walk_at "rd"
   refine ⟨_,_,_,hp2,Zc,Zg,_,Yes _ _ _,_,_,_,hf,ZC,Zw,_,rfl,M,rfl,_,rfl,_,SqL.of (T2.fr _ _ h2.1 h4),_,Yu (by rw [List.getElem?_map,hmk];rfl),?_⟩
   refine ⟨_,_,_,hp2,Zc,Ze,_,Qx _ _ _,_,_,_,hf,ZC,Zw,_,rfl,P,rfl,_,rfl,_,SqL.of (T2.fr _ _ h3.1 h5),_,Yu (by rw [List.getElem?_map,hai];rfl),a,rfl,?_⟩
   refine (Uc (l:=m) VA (by omega) fun v d t3 H3 T3 hv hva=>?_).map fun sp h=>⟨_,_,_,hf,ZC,Zz,_,rfl,h⟩
   refine ⟨few (by decide),fun X gX=>?_⟩
   have sX:=Yk.upd_new gX (.tup [.str (S mkk),v])
   refine q _ (.tuple [.str (S mkk),d]) t3 _ (((T2.mono (by omega)).trans T3).same sX) (.tup (T3.wi.new gX).2 Yg (.cons (.str _ (hstr _ (List.mem_of_getElem? hmk))) (.cons (hv.same sX) .nil))) ?_
   exact .pick (by rw [hfn];exact hp') (by rw [hfn];exact hmk) (by rw [hfn];exact hva)
 | _=>simp [kind] at hk
theorem VOs.same {U:Addr→Prop} {H H':Hp} (s:Yk H H') {vs:List V} {ds:List PyData} (h:VOs U H vs ds):VOs U H' vs ds:=h.mono fun _ _ n e=>⟨n,s _ _ e⟩
theorem VOs.append {U:Addr→Prop} {H:Hp} {vs':List V} {ds':List PyData}:∀ {vs:List V} {ds:List PyData},VOs U H vs ds→VOs U H vs' ds'→VOs U H (vs++vs') (ds++ds')
 | _,_,.nil,h=>h
 | _,_,.cons a b,h => .cons a (b.append h)
theorem VOs.tr {C:Cs} {w:Wo} {t t1:Sw} {H H1:Hp} {s d:Nat} (W:WI C w t H) (T:Tr C w t H t1 H1 s d) {v:List V} {x:List PyData} (h:VOs t.U H v x):VOs t1.U H1 v x:=h.mono fun a o n e=>⟨T.ours n e,T.fr _ _ (by
 cases z:w.D a with
 | none=>rfl
 | some y=>exact absurd (W.ow a y z) n) e⟩
theorem QB (pl:Nat) (c r:Int):(ffs pl c r).lookup ("place":Str)=some (.int pl):=rfl
theorem YcE (pl:Nat) (c r:Int):(ffs pl c r).lookup ("choice":Str)=some (.int c):=by
 unfold ffs
 rw [List.lookup_cons,show (("choice":Str)==("place":Str))=false by decide +kernel,List.lookup_cons,show (("choice":Str)==("choice":Str))=true by decide +kernel]
theorem Yet (pl:Nat) (c r:Int):(ffs pl c r).lookup ("rest":Str)=some (.int r):=by
 unfold ffs
 rw [List.lookup_cons,show (("rest":Str)==("place":Str))=false by decide +kernel,List.lookup_cons,show (("rest":Str)==("choice":Str))=false by decide +kernel,List.lookup_cons,show (("rest":Str)==("rest":Str))=true by decide +kernel]
theorem YdH (c P T:Addr):(mf c (fR P T)).lookup ("parts":Str)=some (.ref P):=by
 unfold mf fR
 rw [List.lookup_cons,show (("parts":Str)==("counts":Str))=false by decide +kernel,List.lookup_cons,show (("parts":Str)==("parts":Str))=true by decide +kernel]
def rbl (bk:List Nat→Sh) (p:Sh) (ps:List Sh) (s:Nat):List (Int×Int):=(List.range (s+1)).map fun f=>(cnt bk p f,YB bk ps (s - f))
theorem Qe (bk:List Nat→Sh) (p:Sh) (ps:List Sh) (s:Nat):Xf (rbl bk p ps s)=YB bk (p::ps) s:=by
 rw [Wu,Xf,rbl,List.map_map];rfl
theorem X8 {bk:List Nat→Sh} {p:Sh} {ps:List Sh} {s i:Nat} {x:Int×Int} (h:(rbl bk p ps s)[i]?=some x):i≤s∧x=(cnt bk p i,YB bk ps (s - i)):=by
 unfold rbl at h
 rw [List.getElem?_map] at h
 obtain ⟨f,hf,rfl⟩:=Option.map_eq_some_iff.mp h
 have hi:=(List.getElem?_eq_some_iff.mp hf).1
 rw [List.length_range] at hi
 rw [List.getElem?_range hi] at hf
 cases hf
 exact ⟨by omega,rfl⟩
inductive RV (C:Cs) (w:Wo) (t:Sw) (H:Hp) (p D:Addr) (ps:List Sh) (sz:Nat) (r:Int) (i:Nat) (σ:St) (H':Hp):Prop
 | mk (o6 o7 o8:Option V) (left:Nat) (YU:Int) (vs:List V) (ds:List PyData) (t':Sw) (e:σ=[some (.ref p),some (.int (sz:Nat)),some (.int r),some (.ref D),some (.int (left:Nat)),some (.int YU),o6,o7,o8]) (l:vs.length=i) (hd:H' D=some (.lst vs)) (hU:¬ t'.U D) (hl:left≤sz) (r0:0≤YU) (r1:YU<YB w.bk (ps.drop i) left) (T:Tr C w t H t' H' 12 0) (v:VOs t'.U H' vs ds) (a:∀ es,Vr w.bk (ps.drop i) left YU es→Vr w.bk ps sz r (ds++es))
theorem Yeu (P L:Addr):(X6 P L).lookup ("blocks_at":Str)=none:=by
 unfold X6
 rw [List.lookup_cons,show (("blocks_at":Str)==("parts":Str))=false by decide +kernel,List.lookup_cons,show (("blocks_at":Str)==("ways":Str))=false by decide +kernel]
 rfl
theorem Z1A {k:Nat} {Z6 Z5 Z1 Z2 Z4 Z3 Z0:Addr} {c_law P_law:Addr} (R:g.RawM Z2 "value_at" "RowMaker.value_at" Z0F ["self","size","number"]) (Z2S:g.Fn k "found_in" ["blocks","number"] (Z2j g.K Z6)) (ZD:g.Me k Z0 "value_at" ["self","size","number"] (sp_val (Cs.mk Z0 Z2 Z4 Z1 Z3) 0 m)) (Z0p:g.Me k Z4 "blocks_at" ["self","place","left"] (Z1u (Cs.mk Z0 Z2 Z4 Z1 Z3) 181)) (ZK:g.Me k Z2 "value_at" ["self","size","number"] (sp_val (Cs.mk Z0 Z2 Z4 Z1 Z3) 2 m)) (ZG:g.Me k Z1 "value_at" ["self","size","number"] (sp_val (Cs.mk Z0 Z2 Z4 Z1 Z3) 3 m)) (ZL:g.Me k Z3 "value_at" ["self","size","number"] (sp_val (Cs.mk Z0 Z2 Z4 Z1 Z3) 5 m)) (Z0z:g.mg "enumerate"=none) (ZX:g.mg "tuple"=none) (ZC:Cls g.K Z6) (Zw:Yb g.K Z6 "place") (Zz:Yb g.K Z6 "choice") (ZJ:Yb g.K Z6 "rest") (Zc:Cls g.K Z1) (Z9:Yb g.K Z1 "counts") (Zg:Yb g.K Z1 "marks") (Ze:Yb g.K Z1 "parts") (Zi:Cls g.K Z2) (Za:Yb g.K Z2 "counts") (Zl:Yb g.K Z2 "parts") (Zj:Yb g.K Z2 "table") (Zn:Cls g.K Z4) (Zo:Yb g.K Z4 "parts") (Zm:Yb g.K Z4 "ways") (Zk:Cls g.K Z3) (Zb:Yb g.K Z3 "counts") (Zh:Yb g.K Z3 "named") (Z8:Cls g.K Z0) (Z7:Yb g.K Z0 "counts") (Zf:Yb g.K Z0 "low") (Zd:Yb g.K Z0 "span"):g.Me (k+1) Z2 "value_at" ["self","size","number"] (sp_val (Cs.mk Z0 Z2 Z4 Z1 Z3) 2 (m+1)):=by
 refine R.me Zx (fun vs H Q E h=>by obtain ⟨w,t,prs,p,sh,sz,r,rfl,hk,vq,hl,q⟩:=h;rfl) fun f_ cdv A outer s H vs Q E hr h=>?_
 obtain ⟨w,t,prs,p,sh,sz,r,rfl,hk,vq,hl,q⟩:=h
 refine ⟨_,(@Ye _ _ _ _ _ (@Yq _ _ (3) _ _ _ _ Zx.nd rfl (.inl rfl) (@W7 _ _ _ _ Yc) (by rfl) (by first | exact .inl rfl | exact .inr rfl | assumption)) (@Ye _ _ _ _ _ (@Yq _ _ (4) _ _ _ _ Zx.nd rfl (.inl rfl) (pv 1) (by rfl) (by first | exact .inl rfl | exact .inr rfl | assumption)) (@Ye _ _ _ _ _ (@Yq _ _ (5) _ _ _ _ Zx.nd rfl (.inl rfl) (pv 2) (by rfl) (by first | exact .inl rfl | exact .inr rfl | assumption)) (@Ye _ _ _ _ _ (@XO _ _ _ _ _ _ _ _ PassesOwn.never rfl (@Yd3 _ _ _ _ _ _ _ _ rfl Z0z (@Ya _ _ _ _ _ (@Ys _ _ _ _ _ (pv 0) rfl) Yc (by rfl)) (by rfl)) (@VD _ _ _ _ _ (2) rfl (@Xq _ _ _ _ _ (@Yx _ _ (6) _ Zx.nd rfl (.inl rfl) (by first | exact .inl rfl | exact .inr rfl | assumption)) (@Xq _ _ _ _ _ (@Yx _ _ (7) _ Zx.nd rfl (.inl rfl) (by first | exact .inl rfl | exact .inr rfl | assumption)) W6 (by rfl)) (by rfl)) (by rfl) (by rfl)) (@Ye _ _ _ _ _ (@Yq _ _ (8) _ _ _ _ Zx.nd rfl (.inl rfl) (@YH _ _ _ _ _ _ _ _ _ _ _ _ Z2S hr (@Ya _ _ _ _ _ (@Xu _ _ _ _ _ _ _ _ _ _ _ _ _ _ _ _ Z0p Zn hr (@Ys _ _ _ _ _ (pv 0) rfl) (@Ya _ _ _ _ _ (pv 6) (@Ya _ _ _ _ _ (pv 4) Yc (by rfl)) (by rfl)) (by omega) (by rfl) (by rfl) (by rfl) (by rfl)) (@Ya _ _ _ _ _ (pv 5) Yc (by rfl)) (by rfl)) (by omega) (by rfl) (by rfl) (by decide) (by rfl) (by rfl)) (by rfl) (by first | exact .inl rfl | exact .inr rfl | assumption)) (@Ye _ _ _ _ _ (@Y2 _ _ _ _ (@WX _ _ _ _ _ _ _ _ _ _ _ _ PySem.F.plainAttrs_list PySem.F.slot_list_append PySem.F.type_list_append Xn (pv 3) (@Ya _ _ _ _ _ (@X5 _ _ _ _ _ _ _ _ _ _ _ _ _ _ _ (Yo ZD Z8 (Yo ZK Zi (Yo ZG Zc (Yo ZL Zk XN)))) hr (pv 7) (@Ya _ _ _ _ _ (@Ys _ _ _ _ _ (pv 8) rfl) (@Ya _ _ _ _ _ (@Ys _ _ _ _ _ (pv 8) rfl) Yc (by rfl)) (by rfl)) (by omega) (by rfl) (by rfl) (by rfl) (by rfl)) Yc (by rfl)) (by rfl) (by rfl) (by rfl) (by rfl) (by rfl)) (by rfl)) (@Ye _ _ _ _ _ (@Q2 _ _ (4) _ _ _ _ _ _ Zx.nd rfl (.inl rfl) (@Ys _ _ _ _ _ (pv 8) rfl) YcT (by first | exact .inl rfl | exact .inr rfl | assumption)) (@Yh _ _ _ (@Yq _ _ (5) _ _ _ _ Zx.nd rfl (.inl rfl) (@Ys _ _ _ _ _ (pv 8) rfl) (by rfl) (by first | exact .inl rfl | exact .inr rfl | assumption)))))) (by intro _;rfl)) (@Yh _ _ _ (@Ym _ _ _ _ (@QM _ _ _ _ _ _ _ _ _ _ ZX VC (@Ya _ _ _ _ _ (pv 3) Yc (by rfl)) (by decide +kernel) (by rfl) (by rfl) (by decide) (by decide) (by rfl) (by rfl)))))))),?_⟩
 cases sh with
 | row ps =>
  obtain ⟨dx,c,fs,hU,hd,hsm,hns,hp,hDc,hc,hsub⟩:=vq.W.at_ p _ vq.rg
  obtain ⟨P,T,dt,L,as,ws,rfl,h2,h3,h4,h5,h6,h7,h8,h9,h10,h11,h12⟩:=hsub
  have hT:Tb (Cs.mk Z0 Z2 Z4 Z1 Z3) H p T:=⟨dx,c,P,hp⟩
  have hdr:dep (.row ps)=YO ps+1:=by rw [dep]
  have hok:=vq.ok
  rw [okS] at hok
  obtain ⟨hpl,hoks⟩:=hok
  have s10:=vq.s10
  have hcn:=vq.cn
  have hM:=vq.M
  have hwt:=vq.wt
  rw [wt] at hwt
  have hr1:=vq.r1
  rw [Vb] at hr1
  have hal:=h6.1
  have hbd:=fun (i s:Nat) (hs:s≤sz)=>Ub prs vq.ob (ps.drop i) s (by omega) (Ul i hoks) (by have:=Vy ps i;omega)
  refine Yr fun R rr=>?_
  walk_at "rd"
  refine ⟨few (by decide),fun D hD=>rr _ _ ?_⟩
  have sD:=Yk.upd_new hD (.lst [])
  obtain ⟨dD,uD⟩:=vq.W.new hD
  refine Yr fun R rr=>?_
  walk_at "rd"
  refine rr _ _ (Yr fun R rr=>?_)
  walk_at "rd"
  refine rr _ _ (Yr fun R rr=>?_)
  refine Yci (K:=g.K) (a:=P) (xs:=as.map V.ref) (RV (Cs.mk Z0 Z2 Z4 Z1 Z3) w t H p D ps sz r) (fun R r'=>by walk_at "rd";exact ⟨_,_,_,sD _ _ hp,Zi,Zl,_,YdH _ _ _,r'⟩) ⟨none,none,none,sz,r,[],[],t,rfl,rfl,Yg,uD,Nat.le_refl _,vq.r0,hr1,(Tr.refl vq.W _ _).put hD uD _,.nil,fun es h=>h⟩ (fun i σ H' _ ⟨_,_,_,_,_,_,_,_,_,_,_,_,_,_,_,T1,_,_⟩=>SqL.of (T1.fr _ _ h2.1 h5)) ?_ ?_
  ·rintro i x σ H' X hx ⟨o6,o7,o8,left,YU,vs,ds,t',rfl,hvl,hd',hUD,hlf,hr0,hr1',T1,hv,hva⟩ hX
   rw [List.getElem?_map] at hx
   obtain ⟨a,ha,rfl⟩:=Option.map_eq_some_iff.mp hx
   have hi:=(List.getElem?_eq_some_iff.mp ha).1
   have hsh:ps[i]?=some (ps[i]'(by omega)):=List.getElem?_eq_getElem _
   generalize ps[i]'(by omega)=sh at hsh
   have hga:=h6.2 i a sh ha hsh
   have hdp:dep sh≤YO ps:=Wi (List.mem_of_getElem? hsh)
   have hws:=Yat (List.mem_of_getElem? hsh)
   have hoka:=WJ hoks (List.mem_of_getElem? hsh)
   have edr:=Qd hsh
   rw [edr,← Qe] at hr1'
   have cbd:=fun (s:Nat) (hs:s≤sz)=>WR prs vq.ob sh s (by omega) hoka (by omega)
   have nn:∀ x∈rbl w.bk sh (ps.drop (i+1)) left,0≤x.1∧0≤x.2:=fun x hx=>by
    obtain ⟨j,hj⟩:=List.getElem?_of_mem hx
    obtain ⟨j1,rfl⟩:=X8 hj
    rw [vq.bk]
    exact ⟨(cbd j (by omega)).1,(hbd _ _ (by omega)).1⟩
   obtain ⟨x1,e1,e2,e3⟩:=Yaz _ YU hr0 hr1' nn
   obtain ⟨x2,f1,f2,f3⟩:=YdF _ YU hr0 hr1' nn
   generalize hfn:fnd (rbl w.bk sh (ps.drop (i+1)) left) YU=fd at e1 e2 e3 f1 f2 f3
   obtain ⟨e4,rfl⟩:=X8 e1
   obtain ⟨_,rfl⟩:=X8 f1
   have sX:=Yk.upd_new hX (.tup [.int (i:Int),.ref a])
   have T2:=T1.same sX
   have un2:∀ p' sh',w.reg p'=some sh'→Uni t' p':=fun p' sh' hr'=>(T2.gr p' sh' hr').un (vq.rd p' sh' hr')
   obtain ⟨dx2,c2,fs2,hU2,_,_,_,hp2,_,_,hsub2⟩:=T2.wi.at_ p _ vq.rg
   have hp3:=T2.fr _ _ hU.1 hp
   have up:=(T2.gr p _ vq.rg).up
   have hms:∀ j,left<t'.ms p j:=fun j=>by
    have hu:=un2 p _ vq.rg
    obtain ⟨P',T',dt',L',as',ws',_,_,_,_,_,_,_,_,_,g10,g11,_⟩:=hsub2
    have hw0:ws'[0]?=some (ws'[0]'(by omega)):=List.getElem?_eq_getElem _
    have:=(g11 0 _ hw0).2.1
    rw [hu j]
    omega
   refine ⟨X,_,rfl,SqT.of Yg,rfl,_,_,rfl,_,_,rfl,rfl,Yr fun R rr=>?_⟩
   walk_at "rd"
   refine ⟨_,_,_,hp3,Zi,Zj,_,Yar _ _ _,T,rfl,_,_,T2.fr _ _ h3.1 h8,Yeu _ _,w,t',p,T,ps,i,left,sh,rfl,T2.wi,vq.rg,⟨dx,c,P,hp3⟩,hsh,by omega,by omega,fun j _=>hms j,by unfold fu;rw [hM];omega,fun p' sh' hr' _=>un2 p' sh' hr',fun B t3 H3 T3 gB hUB hB hpc=>?_⟩
   refine ⟨B,rbl w.bk sh (ps.drop (i+1)) left,YU,rfl,hB,by rw [rbl,List.length_map,List.length_range];omega,fun x hx=>?_,nn,hr0,hr1',fun f dxf H4 s4 gf hf=>rr _ _ (Yr fun R rr=>?_)⟩
   ·obtain ⟨j,hj⟩:=List.getElem?_of_mem hx
    obtain ⟨j1,rfl⟩:=X8 hj
    rw [vq.bk]
    have c1:=cbd j (by omega)
    have c2:=hbd (i+1) (left - j) (by omega)
    have:=Vy ps (i+1)
    exact YdG c1.1 c1.2 c2.1 c2.2 (by omega) (by omega)
   ·rw [hfn] at hf
    have T4:=T3.same s4
    have T14:=T2.trans (T4.mono (by omega))
    have hd4:=T4.fr _ _ dD (sX _ _ hd')
    have hUD4:=T4.ours hUD (sX _ _ hd')
    have hlt:=hpc a ⟨dx,c,P,T,as,hp3,T2.fr _ _ h2.1 h5,ha⟩
    have VA:VQ (Cs.mk Z0 Z2 Z4 Z1 Z3) w t3 H4 prs a sh fd.1 fd.2.1:=⟨T4.wi,hga,vq.ob,vq.bk,hoka,by omega,vq.M,by omega,by omega,e2,e3,fun p' sh' hr'=>(T4.gr p' sh' hr').un (un2 p' sh' hr')⟩
    walk_at "rd"
    refine ⟨.inl ⟨rfl,_,SqL.of hd4⟩,?_⟩
    refine (Uc (l:=m) VA (by omega) fun v d t5 H5 T5 hv5 hva5=>?_).map fun sp h=>⟨_,_,_,hf,ZC,Zw,_,QB _ _ _,_,_,_,hf,ZC,Zz,_,YcE _ _ _,h⟩
    have hd5:=T5.fr _ _ dD hd4
    have hUD5:=T5.ours hUD4 hd4
    refine ⟨_,hd5,few (by omega),rr _ _ (Yr fun R rr=>?_)⟩
    have uf:¬ t3.U f:=T3.wi.new gf |>.2
    have hf5:=T5.fr _ _ (T3.wi.new gf).1 hf
    have nfD:f≠D:=YX hf5 hd5 (by simp)
    have hf6:=(Yd (H:=H5) (o := .lst (vs++[v])) nfD).trans hf5
    walk_at "rd"
    refine ⟨_,_,_,hf6,ZC,Zw,_,QB _ _ _,_,rfl,rr _ _ ?_⟩
    walk_at "rd"
    refine ⟨_,_,_,hf6,ZC,ZJ,_,Yet _ _ _,?_⟩
    have kp:∀ a us,¬ t5.U a→H5 a=some (.tup us)→¬ t5.U a∧upd H5 D (.lst (vs++[v])) a=some (.tup us):=fun a us n e=>⟨n,by rw [Yd (YX e hd5 (by simp))];exact e⟩
    refine ⟨_,_,_,left - fd.1,fd.2.2,vs++[v],ds++[d],t5,by rw [show (left:Int) - (fd.1:Nat)=((left - fd.1:Nat):Int) by omega],by rw [List.length_append,hvl];rfl,Yg,hUD5,by omega,f2,f3,(T14.trans T5).put hD hUD5 _,?_,fun es he=>?_⟩
    ·exact (((((hv.same sX).tr T2.wi T4).tr T4.wi T5)).append (.cons hv5 .nil)).mono kp
    ·rw [List.append_assoc]
     refine hva _ ?_
     rw [edr]
     refine .cons ?_ ?_<;>(show _;rw [← rbl,hfn])
     ·exact hva5
     ·exact he
  ·rintro σ H' ⟨o6,o7,o8,left,YU,vs,ds,t',rfl,hvl,hd',hUD,hlf,hr0,hr1',T1,hv,hva⟩
   refine rr _ _ ?_
   walk_at "rd"
   refine ⟨_,.inl ⟨SqL.of hd',fun X gX=>?_⟩⟩
   have sX:=Yk.upd_new gX (.tup vs)
   refine q _ (.tuple ds) t' _ (T1.same sX) (.tup (T1.wi.new gX).2 Yg (hv.same sX)) (.row ?_)
   rw [List.length_map] at hva
   have:=hva [] (by rw [hal,List.drop_length];exact .nil _ _)
   rwa [List.append_nil] at this
 | _=>simp [kind] at hk
section
variable {src:List (Option Nat)} {te:TE} {σ:St} {H:Hp} {Q:VK}
theorem YcF {ta:TA} {n:Nat} (Z:Hp→Prop) (ha:∀ R:List V→Hp→Prop,(∀ H1,Z H1→R [.int n] H1)→ta σ H R) (hlen:n≤100000)
  (hz:∀ H1,Z H1→∃ I:Addr→Nat→List V→Hp→Prop,(∀ D,H1 D=none→I D 0 [] (upd H1 D (.lst [])))∧(∀ D i zs H',I D i zs H'→zs.length=i∧H' D=some (.lst zs)) ∧
   (∀ D i zs H',H1 D=none→i<n→I D i zs H'→∀ R:VK,(∀ y H'',H'' D=some (.lst zs)→I D (i+1) (zs++[y]) (upd H'' D (.lst (zs++[y])))→R y H'')→te (some (.int i)::YD src σ) H' R) ∧
   ∀ D zs H',H1 D=none→I D n zs H'→Q (.ref D) H'):tLC (none::src) (Ut ta) (Yy 0) XT te σ H Q:=by
 refine ha _ fun H1 hZ=>⟨n,rfl,by omega,by omega,fun D hD=>?_⟩
 obtain ⟨I,i0,dl,step,fin⟩:=hz H1 hZ
 have h6:100000<sizeLine:=by decide
 refine W0 (W4 (lo:=0) (n:=n) (P:=fun _=>True)) (fun i zs σ' H'=>(∃ o,σ'=o::YD src σ)∧i≤n∧I D i zs H') ⟨⟨none,rfl⟩,Nat.zero_le _,i0 D hD⟩ (fun i zs σ' H' q=>⟨trivial,(dl _ _ _ _ q.2.2).2⟩) (XM 0) ?_ ?_
 ·rintro i zs σ' H' x hx ⟨⟨o,rfl⟩,_,hI⟩
  have hi:i<n:=by have:=(List.getElem?_eq_some_iff.mp hx).1;simpa using this
  rw [List.getElem?_map,List.getElem?_range hi] at hx
  have e:V.int (0+(i:Int))=x:=Option.some.inj hx
  rw [Int.zero_add] at e
  subst e
  have hl:=(dl _ _ _ _ hI).1
  show te (some (.int i)::YD src σ) H' _
  exact step D i zs H' hD hi hI _ fun y H'' hd hI'=>⟨hd,by omega,⟨_,rfl⟩,hi,hI'⟩
 ·rintro zs σ' H' ⟨_,_,hI⟩
  exact fin D zs H' hD (by simpa using hI)
end
structure AQ (C:Cs) (w:Wo) (t:Sw) (H:Hp) (prs:Prs) (p:Addr) (sh:Sh) (s:Nat):Prop where
 W:WI C w t H
 rg:w.reg p=some sh
 ob:okB prs
 bk:w.bk=bkO prs
 ok:okS prs sh
 wt:wt sh≤24
 M:w.M=2
 s10:s≤11
 rd:∀ p sh,w.reg p=some sh→Uni t p
 dp:dep sh≤2
theorem AQ.c0 {C:Cs} {w:Wo} {t:Sw} {H:Hp} {prs:Prs} {p:Addr} {sh:Sh} {s:Nat} (h:AQ C w t H prs p sh s):0≤cnt w.bk sh s:=by
 rw [h.bk]
 have:=h.s10
 have:=h.wt
 exact (WR prs h.ob sh s (by omega) h.ok (by omega)).1
theorem AQ.call {C:Cs} {w:Wo} {t:Sw} {H:Hp} {prs:Prs} {p:Addr} {sh:Sh} {s:Nat} {Q:VK} (h:AQ C w t H prs p sh s) (q:∀ t' H',Tr C w t H t' H' 12 0→s<t'.ns p→Q (.int (cnt w.bk sh s)) H'):MeAQ (cntL C 181) H p "count_at" fun sp=>sp [.ref p,.int s] H Q E0:=by
 have h1:=h.s10
 have h2:=h.dp
 exact Vx h.W h.rg (by omega) (by unfold fu;rw [h.M];omega) (fun p' sh' hr' _=>h.rd p' sh' hr') fun t' H' T n=>q t' H' (T.mono (by omega)) n
theorem AQ.on {C:Cs} {w:Wo} {t t':Sw} {H H':Hp} {prs:Prs} {p:Addr} {sh:Sh} {s a b:Nat} (h:AQ C w t H prs p sh s) (T:Tr C w t H t' H' a b):AQ C w t' H' prs p sh s:=⟨T.wi,h.rg,h.ob,h.bk,h.ok,h.wt,h.M,h.s10,fun p' sh' hr'=>(T.gr p' sh' hr').un (h.rd p' sh' hr'),h.dp⟩
theorem AQ.vq {C:Cs} {w:Wo} {t:Sw} {H:Hp} {prs:Prs} {p:Addr} {sh:Sh} {s:Nat} {r:Int} (h:AQ C w t H prs p sh s) (n:s<t.ns p) (h0:0≤r) (h1:r<cnt w.bk sh s):VQ C w t H prs p sh s r:=⟨h.W,h.rg,h.ob,h.bk,h.ok,h.wt,h.M,n,h.s10,h0,h1,h.rd⟩
structure Alls (bk:List Nat→Sh) (sh:Sh) (s:Nat) (ds:List PyData):Prop where
 len:(ds.length:Int)=cnt bk sh s
 va:∀ (r:Nat) d,ds[r]?=some d→Va bk sh s r d
inductive Z3M (C:Cs) (vs:List V) (H:Hp) (Q:VK) (E_:XK):Prop
 | mk (w:Wo) (t:Sw) (prs:Prs) (p:Addr) (sh:Sh) (s:Nat) (h0:vs=[.ref p,.int (s:Nat)]) (h1:AQ C w t H prs p sh s) (h2:cnt w.bk sh s≤2000) (h3:∀ D us ds t' H',H D=none→H' D=some (.lst us)→Tr C w t H t' H' 12 0→VOs t'.U H' us ds→Alls w.bk sh s ds→Q (.ref D) H')
inductive MV (C:Cs) (w:Wo) (t:Sw) (H:Hp) (p:Addr) (sh:Sh) (s:Nat) (D:Addr) (i:Nat) (zs:List V) (H':Hp):Prop
 | mk (ds:List PyData) (t':Sw) (l:zs.length=i) (l':ds.length=i) (hd:H' D=some (.lst zs)) (hU:¬ t'.U D) (hD:H D=none) (hn:s<t'.ns p) (T:Tr C w t H t' H' 12 0) (v:VOs t'.U H' zs ds) (a:∀ (r:Nat) d,ds[r]?=some d→Va w.bk sh s r d)
theorem Ya5 {k:Nat} {Z6 Z5 Z1 Z2 Z4 Z3 Z0:Addr} {c_law P_law:Addr} (R:g.Raw "all_made" "all_made" Z2B ["maker","size"]) (ZD:g.Me k Z0 "value_at" ["self","size","number"] (sp_val (Cs.mk Z0 Z2 Z4 Z1 Z3) 0 36)) (ZK:g.Me k Z2 "value_at" ["self","size","number"] (sp_val (Cs.mk Z0 Z2 Z4 Z1 Z3) 2 36)) (ZG:g.Me k Z1 "value_at" ["self","size","number"] (sp_val (Cs.mk Z0 Z2 Z4 Z1 Z3) 3 36)) (ZL:g.Me k Z3 "value_at" ["self","size","number"] (sp_val (Cs.mk Z0 Z2 Z4 Z1 Z3) 5 36)) (Zv:g.Me k Z0 "count_at" ["self","size"] (Zq (Cs.mk Z0 Z2 Z4 Z1 Z3) 0 181)) (ZA:g.Me k Z2 "count_at" ["self","size"] (Zq (Cs.mk Z0 Z2 Z4 Z1 Z3) 2 181)) (Zy:g.Me k Z1 "count_at" ["self","size"] (Zq (Cs.mk Z0 Z2 Z4 Z1 Z3) 3 181)) (ZB:g.Me k Z3 "count_at" ["self","size"] (Zq (Cs.mk Z0 Z2 Z4 Z1 Z3) 5 181)) (Zt:g.mg "range"=none) (Zc:Cls g.K Z1) (Z9:Yb g.K Z1 "counts") (Zg:Yb g.K Z1 "marks") (Ze:Yb g.K Z1 "parts") (Zi:Cls g.K Z2) (Za:Yb g.K Z2 "counts") (Zl:Yb g.K Z2 "parts") (Zj:Yb g.K Z2 "table") (Zk:Cls g.K Z3) (Zb:Yb g.K Z3 "counts") (Zh:Yb g.K Z3 "named") (Z8:Cls g.K Z0) (Z7:Yb g.K Z0 "counts") (Zf:Yb g.K Z0 "low") (Zd:Yb g.K Z0 "span"):g.Fn (k+1) "all_made" ["maker","size"] (Z3M (Cs.mk Z0 Z2 Z4 Z1 Z3)):=by
 refine R.fn YaY (fun vs H Q E h=>by obtain ⟨w,t,prs,p,sh,s,rfl,aq,hc,q⟩:=h;rfl) fun f_ cdv A outer s H vs Q E hr h=>?_
 obtain ⟨w,t,prs,p,sh,s,rfl,aq,hc,q⟩:=h
 refine ⟨_,(@Yh _ _ _ (@Ym _ _ _ _ (@XF _ _ _ _ _ _ _ ([none,some 1,some 0]) ((["number","size","maker"]:List Str)) _ (Yy 0) _ _ (.own (.cap (i:=1) rfl rfl (by first | exact .inl rfl | exact .inr rfl) (.cap (i:=0) rfl rfl (by first | exact .inl rfl | exact .inr rfl) .nil))) rfl (@Xk _ _ _ _ _ _ rfl Zt (@Ya _ _ _ _ _ (@X5 _ _ _ _ _ _ _ _ _ _ _ _ _ _ _ (Yo Zv Z8 (Yo ZA Zi (Yo Zy Zc (Yo ZB Zk XN)))) hr (pv 0) (@Ya _ _ _ _ _ (pv 1) Yc (by rfl)) (by omega) (by rfl) (by rfl) (by rfl) (by rfl)) Yc (by rfl)) (by rfl)) (fun cl C s₀ H₀ fp pn=>(@Yx _ _ (0) _ (show List.Nodup (["number","size","maker"]:List Str) by decide +kernel) rfl (.inl rfl) (.inr rfl))) (fun cl C s₀ H₀ fp pn=>Xb) (fun cl C s₀ H₀ fp pn=>(@X5 _ _ _ _ _ _ _ _ _ _ _ _ _ _ _ (Yo ZD Z8 (Yo ZK Zi (Yo ZG Zc (Yo ZL Zk XN)))) hr (pv 2) (@Ya _ _ _ _ _ (pv 1) (@Ya _ _ _ _ _ (pv 0) Yc (by rfl)) (by rfl)) (by omega) (by rfl) (by rfl) (by rfl) (by rfl))) (by intro x hx;simp at hx;first | (subst hx;exact .inl rfl) | (rcases hx with rfl | rfl<;>exact .inl rfl) | (rcases hx with rfl | rfl | rfl<;>exact .inl rfl) | (rcases hx with rfl | rfl | rfl | rfl<;>exact .inl rfl) | (rcases hx with rfl | rfl | rfl | rfl | rfl<;>exact .inl rfl)) (by rfl) (by decide) (by decide +kernel) (by intro _;rfl)))),?_⟩
 have c0:=aq.c0
 have s10:=aq.s10
 have dp:=aq.dp
 refine YcF (n:=(cnt w.bk sh s).toNat) (fun H1=>∃ t1,Tr (Cs.mk Z0 Z2 Z4 Z1 Z3) w t H t1 H1 12 0∧s<t1.ns p) (fun R r=>?_) (by omega) ?_
 ·walk_at "rd"
  refine aq.call fun t1 H1 T1 n1=>?_
  have:=r H1 ⟨t1,T1,n1⟩
  rw [Int.toNat_of_nonneg c0] at this
  exact this
 ·rintro H1 ⟨t1,T1,n1⟩
  refine ⟨MV (Cs.mk Z0 Z2 Z4 Z1 Z3) w t H p sh s,fun D hD=>?_,fun D i zs H' ⟨_,_,l,_,hd,_,_,_,_,_,_⟩=>⟨l,hd⟩,?_,?_⟩
  ·have n:=T1.wi.new hD
   refine ⟨[],t1,rfl,rfl,Yg,n.2,?_,n1,T1.put ?_ n.2 _,.nil,fun r d h=>by cases h⟩ <;>
   ·cases e:H D with
    | none=>rfl
    | some o=>exact absurd hD (T1.alloc e)
  ·rintro D i zs H' hD1 hi ⟨ds,t',hl,hl',hd,hU,hD,hn,T,v,a⟩ R r
   have aq':=aq.on T
   have dD:w.D D=none:=(aq.W.new hD).1
   walk_at "rd"
   refine Uc (l:=36) (aq'.vq hn (by omega) (by omega)) (by omega) fun u d t2 H2 T2 hv hva=>?_
   have hd2:=T2.fr _ _ dD hd
   have hU2:=T2.ours hU hd
   refine r u H2 hd2 ⟨ds++[d],t2,by rw [List.length_append,hl];rfl,by rw [List.length_append,hl'];rfl,Yg,hU2,hD,Nat.lt_of_lt_of_le hn (T2.gr p _ aq.rg).up,(T.trans T2).put hD hU2 _,((v.tr T.wi T2).append (.cons hv .nil)).mono fun b us n e=>⟨n,by rw [Yd (YX e hd2 (by simp))];exact e⟩,fun j d' hj=>?_⟩
   by_cases c:j<ds.length
   ·rw [List.getElem?_append_left c] at hj
    exact a j d' hj
   ·have e:j=ds.length:=by
     have:=(List.getElem?_eq_some_iff.mp hj).1
     rw [List.length_append,List.length_singleton] at this
     omega
    subst e
    rw [List.getElem?_append_right (Nat.le_refl _),Nat.sub_self] at hj
    cases Option.some.inj hj
    rw [hl']
    exact hva
  ·rintro D zs H' hD1 ⟨ds,t',hl,hl',hd,hU,hD,hn,T,v,a⟩
   exact q D zs ds t' H' hD hd T v ⟨by rw [hl'];omega,a⟩
abbrev Vt (H:Hp):V→PyData→Prop:=VO (fun _=>False) H
abbrev Vts (H:Hp):List V→List PyData→Prop:=VOs (fun _=>False) H
theorem VOs.pl {U:Addr→Prop} {H:Hp} {v:List V} {d:List PyData} (h:VOs U H v d):Vts H v d:=h.mono fun _ _ _ e=>⟨fun z=>z,e⟩
theorem Ygk {K:PySem.W.Frag} {C:Cs} {prs:Prs} {H H1:Hp} {p:Addr} {sh:Sh} {s:Nat} (h:MW C prs 2 H H1 p sh) (ob:okB prs) (ok:okS prs sh) (hw:wt sh≤24) (hd:dep sh≤2) (hs:s≤11):∃ w U,AQ C w (t0 U) H1 prs p sh s∧∀ t' H',Tr C w (t0 U) H1 t' H' 12 0→Yk H H':=by
 obtain ⟨w,U,W,hg,hbk,hM,s1,hU⟩:=h
 refine ⟨w,U,⟨W,hg,ob,hbk,ok,hw,hM,hs,fun p' sh' _ i=>rfl,hd⟩,fun t' H' T b o e=>T.fr b o ?_ (s1 _ _ e)⟩
 cases z:w.D b with
 | none=>rfl
 | some x =>
  have:=hU b (W.ow b x z)
  rw [e] at this
  cases this
inductive sp_rtm (vs:List V) (H:Hp) (Q:VK) (E_:XK):Prop
 | mk (i j:Int) (h0:vs=[.int i,.int j]) (h1:i≤j) (h2:Q .non H)
theorem Z3q {Z6 Z5 Z1 Z2 Z4 Z3 Z0:Addr} {c_law P_law:Addr} (R:g.Raw "refuse_too_many" "refuse_too_many" Z0X ["count","most"]):g.Fn (1) "refuse_too_many" ["count","most"] (sp_rtm):=by
 refine R.fn Z3i (fun vs H Q E h=>by obtain ⟨i,j,rfl,hij,q⟩:=h;rfl) fun f_ cdv A outer s H vs Q E hr h=>?_
 obtain ⟨i,j,rfl,hij,q⟩:=h
 refine ⟨_,(@Yh _ _ _ (@YV _ _ _ _ _ _ _ _ (@Yt _ _ _ _ _ _ _ _ op_gt (pv 0) (pv 1) (Yv _)) (@Yh _ _ _ Xp) YJ)),?_⟩
 walk_at "rd"
 rw [if_neg (by omega)]
 exact q
inductive Z1R (K:PySem.W.Frag) (C:Cs) (vs:List V) (H:Hp) (Q:VK) (E_:XK):Prop
 | mk (prs:Prs) (B a:Addr) (sh:Sh) (n:Nat) (most:Int) (h0:vs=[.ref B,.ref a,.int n,.int most]) (h1:XW K H B prs) (h2:DK K H a (kd sh)) (h3:okS prs sh) (h4:okB prs) (h5:wt sh≤24) (h6:dep sh≤2) (h7:n≤11) (h8:cnt (bkO prs) sh n≤most) (h9:cnt (bkO prs) sh n≤2000) (h10:∀ D us ds H',Yk H H'→H D=none→H' D=some (.lst us)→Vts H' us ds→Alls (bkO prs) sh n ds→Q (.ref D) H')
theorem QH {k:Nat} {Z6 Z5 Z1 Z2 Z4 Z3 Z0:Addr} {c_law P_law:Addr} (R:g.RawDX "all_values" "all_values" Z21 ["book","shape","size","most"] [.int 400]) (F_maker_for:g.Fn k "maker_for" ["book","shape"] (Z3p g.K (Cs.mk Z0 Z2 Z4 Z1 Z3))) (Z3C:g.Fn k "refuse_too_many" ["count","most"] (sp_rtm)) (F_all_made:g.Fn k "all_made" ["maker","size"] (Z3M (Cs.mk Z0 Z2 Z4 Z1 Z3))) (Zv:g.Me k Z0 "count_at" ["self","size"] (Zq (Cs.mk Z0 Z2 Z4 Z1 Z3) 0 181)) (ZA:g.Me k Z2 "count_at" ["self","size"] (Zq (Cs.mk Z0 Z2 Z4 Z1 Z3) 2 181)) (Zy:g.Me k Z1 "count_at" ["self","size"] (Zq (Cs.mk Z0 Z2 Z4 Z1 Z3) 3 181)) (ZB:g.Me k Z3 "count_at" ["self","size"] (Zq (Cs.mk Z0 Z2 Z4 Z1 Z3) 5 181)) (Zc:Cls g.K Z1) (Z9:Yb g.K Z1 "counts") (Zg:Yb g.K Z1 "marks") (Ze:Yb g.K Z1 "parts") (Zi:Cls g.K Z2) (Za:Yb g.K Z2 "counts") (Zl:Yb g.K Z2 "parts") (Zj:Yb g.K Z2 "table") (Zk:Cls g.K Z3) (Zb:Yb g.K Z3 "counts") (Zh:Yb g.K Z3 "named") (Z8:Cls g.K Z0) (Z7:Yb g.K Z0 "counts") (Zf:Yb g.K Z0 "low") (Zd:Yb g.K Z0 "span"):g.FnE (k+1) "all_values" ["book","shape","size","most"] [.int 400] (Z1R g.K (Cs.mk Z0 Z2 Z4 Z1 Z3)):=by
 refine R.fnE Z32 (fun vs H Q E h=>by obtain ⟨prs,B,a,sh,n,most,rfl,hB,hk,hok,ob,hwt,hdp,hn,hm,hc,q⟩:=h;rfl) fun f_ cdv A outer s H vs Q E hr h=>?_
 obtain ⟨prs,B,a,sh,n,most,rfl,hB,hk,hok,ob,hwt,hdp,hn,hm,hc,q⟩:=h
 refine ⟨_,(@Ye _ _ _ _ _ (@Yq _ _ (4) _ _ _ _ Z32.nd rfl (.inl rfl) (@YH _ _ _ _ _ _ _ _ _ _ _ _ F_maker_for hr (@Ya _ _ _ _ _ (pv 0) (@Ya _ _ _ _ _ (pv 1) Yc (by rfl)) (by rfl)) (by omega) (by rfl) (by rfl) (by decide) (by rfl) (by rfl)) (by rfl) (by first | exact .inl rfl | exact .inr rfl | assumption)) (@Ye _ _ _ _ _ (@Y2 _ _ _ _ (@YH _ _ _ _ _ _ _ _ _ _ _ _ Z3C hr (@Ya _ _ _ _ _ (@X5 _ _ _ _ _ _ _ _ _ _ _ _ _ _ _ (Yo Zv Z8 (Yo ZA Zi (Yo Zy Zc (Yo ZB Zk XN)))) hr (pv 4) (@Ya _ _ _ _ _ (pv 2) Yc (by rfl)) (by omega) (by rfl) (by rfl) (by rfl) (by rfl)) (@Ya _ _ _ _ _ (pv 3) Yc (by rfl)) (by rfl)) (by omega) (by rfl) (by rfl) (by decide) (by rfl) (by rfl)) (by rfl)) (@Yh _ _ _ (@Ym _ _ _ _ (@YH _ _ _ _ _ _ _ _ _ _ _ _ F_all_made hr (@Ya _ _ _ _ _ (pv 4) (@Ya _ _ _ _ _ (pv 2) Yc (by rfl)) (by rfl)) (by omega) (by rfl) (by rfl) (by decide) (by rfl) (by rfl)))))),?_⟩
 refine Yr fun R rr=>?_
 walk_at "rd"
 refine ⟨prs,B,a,sh,rfl,hB,hk,hok,ob,hwt,hdp,fun p H1 mw=>rr _ _ (Yr fun R rr=>?_)⟩
 have s1:Yk H H1:=by obtain ⟨_,_,_,_,_,_,s1,_⟩:=mw;exact s1
 obtain ⟨w,U,aq,same⟩:=Ygk (K:=g.K) mw ob hok hwt hdp hn
 have hbk:=aq.bk
 walk_at "rd"
 refine aq.call fun t1 H2 T1 n1=>?_
 rw [hbk]
 refine ⟨_,_,rfl,hm,rr _ _ ?_⟩
 walk_at "rd"
 refine ⟨w,t1,prs,p,sh,n,rfl,aq.on T1,by rw [hbk];exact hc,fun D us ds t' H' gD hd T2 hv al=>?_⟩
 have T:=T1.trans T2
 refine q D us ds H' (same t' H' T) ?_ hd hv.pl (by rw [← hbk];exact al)
 cases e:H D with
 | none=>rfl
 | some o=>exact absurd gD (T1.alloc (s1 _ _ e))
theorem Qf:∀ (Bs:List (Int×Int)) (r:Int),0≤r→r<Xf Bs→(∀ p∈Bs,0≤p.1∧0≤p.2)→∃ b,Bs[(fnd Bs r).1]?=some b∧r=Xf (Bs.take (fnd Bs r).1)+((fnd Bs r).2.1*b.2+(fnd Bs r).2.2)∧0≤(fnd Bs r).2.1∧(fnd Bs r).2.1<b.1∧0≤(fnd Bs r).2.2∧(fnd Bs r).2.2<b.2
 | [],r,h0,h1,_=>by simp [Xf] at h1;omega
 | p::Bs,r,h0,h1,hp=>by
  rw [Wx] at h1
  by_cases c:p.1*p.2≤r
  ·obtain ⟨b,g1,g2,g3⟩:=Qf Bs (r - p.1*p.2) (by omega) (by omega) fun q hq=>hp q (.tail _ hq)
   rw [fnd,if_pos c]
   refine ⟨b,by simpa using g1,?_,g3⟩
   rw [List.take_succ_cons,Wx]
   dsimp only
   omega
  ·rw [fnd,if_neg c]
   have h2:0<p.2:=by
    rcases Int.lt_or_eq_of_le (hp p (.head _)).2 with z | z
    ·exact z
    ·rw [← z,Int.mul_zero] at c;omega
   refine ⟨p,rfl,?_,Int.ediv_nonneg h0 (by omega),Int.ediv_lt_of_lt_mul h2 (by omega),Int.emod_nonneg _ (by omega),Int.emod_lt_of_pos _ h2⟩
   show r=0+(r / p.2*p.2+r%p.2)
   rw [Int.zero_add,Int.ediv_mul_add_emod]
theorem YbD {α:Type}:∀ (Ls:List (List α)) (i k:Nat) (L:List α),Ls[i]?=some L→k<L.length→Ls.flatten[((Ls.take i).map List.length).sum+k]?=L[k]?
 | [],i,k,L,h,_=>by simp at h
 | M::Ls,0,k,L,h,hk=>by
  cases Option.some.inj h
  rw [List.flatten_cons]
  simp only [List.take_zero,List.map_nil,List.sum_nil,Nat.zero_add]
  exact List.getElem?_append_left hk
 | M::Ls,i+1,k,L,h,hk=>by
  have ih:=YbD Ls i k L (by simpa using h) hk
  rw [List.take_succ_cons,List.map_cons,List.sum_cons,List.flatten_cons,Nat.add_assoc,List.getElem?_append_right (Nat.le_add_right _ _),Nat.add_sub_cancel_left]
  exact ih
theorem YaA {α:Type} {Bs:List (Int×Int)} {Ls:List (List α)} (hl:Ls.length=Bs.length) (hb:∀ (i:Nat) b L,Bs[i]?=some b→Ls[i]?=some L→(L.length:Int)=b.1*b.2) {r:Int} (h0:0≤r) (h1:r<Xf Bs) (hp:∀ p∈Bs,0≤p.1∧0≤p.2):∃ b L,Bs[(fnd Bs r).1]?=some b∧Ls[(fnd Bs r).1]?=some L∧Ls.flatten[r.toNat]?=L[((fnd Bs r).2.1*b.2+(fnd Bs r).2.2).toNat]?∧0≤(fnd Bs r).2.1∧(fnd Bs r).2.1<b.1∧0≤(fnd Bs r).2.2∧(fnd Bs r).2.2<b.2:=by
 obtain ⟨b,g1,g2,g3,g4,g5,g6⟩:=Qf Bs r h0 h1 hp
 have hi:=(List.getElem?_eq_some_iff.mp g1).1
 have gL:Ls[(fnd Bs r).1]?=some (Ls[(fnd Bs r).1]'(by omega)):=List.getElem?_eq_getElem _
 refine ⟨b,_,g1,gL,?_,g3,g4,g5,g6⟩
 have len:=hb _ b _ g1 gL
 have tl:∀ i,i≤Bs.length→Xf (Bs.take i)=((((Ls.take i).map List.length).sum:Nat):Int):=fun i=>by
  induction i with
  | zero=>intro _;rfl
  | succ i ih =>
   intro hi
   have e1:Bs[i]?=some (Bs[i]'(by omega)):=List.getElem?_eq_getElem _
   have e2:Ls[i]?=some (Ls[i]'(by omega)):=List.getElem?_eq_getElem _
   have:=hb i _ _ e1 e2
   have ih:=ih (by omega)
   rw [Xo e1,Xo e2,List.map_append,List.sum_append]
   simp only [Xf,List.map_append,List.sum_append,List.map_cons,List.map_nil,List.sum_cons,List.sum_nil] at ih ⊢
   omega
 have t:=tl _ (Nat.le_of_lt hi)
 have m0:0≤(fnd Bs r).2.1*b.2:=Int.mul_nonneg g3 (by omega)
 have hk:((fnd Bs r).2.1*b.2+(fnd Bs r).2.2).toNat<(Ls[(fnd Bs r).1]'(by omega)).length:=by
  have:(fnd Bs r).2.1*b.2+(fnd Bs r).2.2<b.1*b.2:=by
   have:((fnd Bs r).2.1+1)*b.2≤b.1*b.2:=Int.mul_le_mul_of_nonneg_right (by omega) (by omega)
   rw [Int.add_mul,Int.one_mul] at this
   omega
  omega
 have e:r.toNat=((Ls.take (fnd Bs r).1).map List.length).sum+((fnd Bs r).2.1*b.2+(fnd Bs r).2.2).toNat:=by omega
 rw [e]
 exact YbD Ls _ _ _ gL hk
def prd {α β γ:Type} (g:α→β→γ) (A:List α) (B:List β):List γ:=(A.map fun a=>B.map (g a)).flatten
theorem YbE {α β γ:Type} (g:α→β→γ) (A:List α) (B:List β):(prd g A B).length=A.length*B.length:=by
 induction A with
 | nil=>simp [prd]
 | cons a A ih =>
  have:prd g (a::A) B=B.map (g a)++prd g A B:=rfl
  rw [this,List.length_append,ih,List.length_map,List.length_cons,Nat.add_mul,Nat.one_mul,Nat.add_comm]
theorem YdI {α β γ:Type} (g:α→β→γ) (B:List β):∀ (A:List α) (i j:Nat) (a:α) (b:β),A[i]?=some a→B[j]?=some b→(prd g A B)[i*B.length+j]?=some (g a b)
 | [],i,j,a,b,h,_=>by simp at h
 | x::A,0,j,a,b,h,hb=>by
  cases Option.some.inj h
  have hj:=(List.getElem?_eq_some_iff.mp hb).1
  show (B.map (g x)++prd g A B)[0*B.length+j]?=_
  rw [Nat.zero_mul,Nat.zero_add,List.getElem?_append_left (by rw [List.length_map];exact hj),List.getElem?_map,hb]
  rfl
 | x::A,i+1,j,a,b,h,hb=>by
  have ih:=YdI g B A i j a b (by simpa using h) hb
  show (B.map (g x)++prd g A B)[(i+1)*B.length+j]?=_
  rw [Nat.add_mul,Nat.one_mul,show i*B.length+B.length+j=(B.map (g x)).length+(i*B.length+j) by rw [List.length_map];omega,List.getElem?_append_right (Nat.le_add_right _ _),Nat.add_sub_cancel_left]
  exact ih
def bys {γ:Type} (F:Nat→Nat→List γ) (s:Nat):List γ:=((List.range (s+1)).map fun f=>F f (s - f)).flatten
theorem YdJ {γ:Type} {F G:Nat→Nat→List γ} {s:Nat} (h:∀ f,f≤s→F f (s - f)=G f (s - f)):bys F s=bys G s:=by
 unfold bys
 exact congrArg List.flatten (List.map_congr_left fun f hf=>h f (by have:=List.mem_range.mp hf;omega))
theorem YfE {γ:Type} (F:Nat→Nat→List γ) (s:Nat):(bys F s).length=((List.range (s+1)).map fun f=>(F f (s - f)).length).sum:=by
 unfold bys
 rw [List.length_flatten,List.map_map]
 rfl
theorem YaB {g:Nat→Int}:∀ {l:List Nat},(∀ x∈l,g x=0)→(l.map g).sum=0
 | [],_=>rfl
 | a::l,h=>by rw [List.map_cons,List.sum_cons,h a (.head _),YaB fun x hx=>h x (.tail _ hx)];rfl
theorem YaC {bk:List Nat→Sh} {p:Sh} {t:Nat}:((List.range t).map fun f=>cnt bk p f*YB bk [] (t - f)).sum=0:=YaB fun f hf=>by
 have:=List.mem_range.mp hf
 rw [XV,if_neg (by omega),Int.mul_zero]
theorem Up (bk:List Nat→Sh) (p:Sh) (t:Nat):YB bk [p] t=cnt bk p t:=by
 rw [Wu,List.range_succ,List.map_append,List.sum_append,YaC]
 simp only [List.map_cons,List.map_nil,List.sum_cons,List.sum_nil,Nat.sub_self]
 rw [XV,if_pos rfl]
 omega
theorem Yev (bk:List Nat→Sh) (p:Sh) (ps:List Sh) (t:Nat):(rbl bk p ps t).take t=(List.range t).map fun f=>(cnt bk p f,YB bk ps (t - f)):=by
 unfold rbl
 rw [← List.map_take,List.take_range,Nat.min_eq_left (by omega)]
theorem Ygl {bk:List Nat→Sh} {s:Nat} {r:Int} {ds:List PyData} (h:Vr bk [] s r ds):ds=[]:=by cases h;rfl
theorem YbF {bk:List Nat→Sh} {p:Sh} {ps:List Sh} {s:Nat} {r:Int} {es:List PyData} (h:Vr bk (p::ps) s r es):∃ d ds,es=d::ds∧Va bk p (fnd (rbl bk p ps s) r).1 (fnd (rbl bk p ps s) r).2.1 d∧Vr bk ps (s - (fnd (rbl bk p ps s) r).1) (fnd (rbl bk p ps s) r).2.2 ds:=by
 cases h with
 | cons h1 h2=>exact ⟨_,_,rfl,h1,h2⟩
theorem Ygm {bk:List Nat→Sh} {p:Sh} {t:Nat} {r:Int} {es:List PyData} (h:Vr bk [p] t r es) (h0:0≤r) (h1:r<cnt bk p t) (hn:∀ f,f≤t→0≤cnt bk p f):∃ d,es=[d]∧Va bk p t r d:=by
 obtain ⟨d,ds,rfl,g1,g2⟩:=YbF h
 cases Ygl g2
 refine ⟨d,rfl,?_⟩
 obtain ⟨b,e1,e2,e3,e4,e5,e6⟩:=Qf (rbl bk p [] t) r h0 (by rw [Qe,Up];exact h1) (fun x hx=>by
  obtain ⟨j,hj⟩:=List.getElem?_of_mem hx
  obtain ⟨j1,rfl⟩:=X8 hj
  refine ⟨hn j j1,?_⟩
  show 0≤YB bk [] (t - j)
  rw [XV];split<;>decide)
 generalize fnd (rbl bk p [] t) r=fd at g1 e1 e2 e3 e4 e5 e6
 obtain ⟨i1,rfl⟩:=X8 e1
 have e6:fd.2.2<YB bk [] (t - fd.1):=e6
 rw [XV] at e6
 have hi:fd.1=t:=by
  by_cases c:t - fd.1=0
  ·omega
  ·rw [if_neg c] at e6;omega
 rw [hi,Nat.sub_self,if_pos rfl] at e6
 rw [hi] at g1 e2
 have z:Xf ((rbl bk p [] t).take t)=0:=by
  rw [Yev,Xf,List.map_map]
  exact YaC
 have e2:r=Xf ((rbl bk p [] t).take t)+(fd.2.1*YB bk [] (t - t)+fd.2.2):=e2
 rw [z,Nat.sub_self,XV,if_pos rfl] at e2
 have:fd.2.1=r:=by omega
 rw [this] at g1
 exact g1
theorem vr_at {bk:List Nat→Sh} {p:Sh} {ps:List Sh} {s:Nat} {α β γ:Type} (g:α→β→γ) {A:Nat→List α} {B:Nat→List β} {RA:α→PyData→Prop} {RB:β→List PyData→Prop} (lA:∀ f,f≤s→((A f).length:Int)=cnt bk p f) (lB:∀ f,f≤s→((B f).length:Int)=YB bk ps f)
  (aA:∀ f,f≤s→∀ r d,0≤r→r<cnt bk p f→Va bk p f r d→∃ x,(A f)[r.toNat]?=some x∧RA x d) (aB:∀ f,f≤s→∀ r ds,0≤r→r<YB bk ps f→Vr bk ps f r ds→∃ y,(B f)[r.toNat]?=some y∧RB y ds) :
  ((bys (fun f e=>prd g (A f) (B e)) s).length:Int)=YB bk (p::ps) s∧∀ r es,0≤r→r<YB bk (p::ps) s→Vr bk (p::ps) s r es→∃ x y d ds,es=d::ds∧RA x d∧RB y ds∧(bys (fun f e=>prd g (A f) (B e)) s)[r.toNat]?=some (g x y):=by
 have hb:∀ (i:Nat) b L,(rbl bk p ps s)[i]?=some b→((List.range (s+1)).map fun f=>prd g (A f) (B (s - f)))[i]?=some L→(L.length:Int)=b.1*b.2:=fun i b L h1 h2=>by
  obtain ⟨hi,rfl⟩:=X8 h1
  rw [List.getElem?_map,List.getElem?_range (by omega)] at h2
  cases Option.some.inj h2
  rw [YbE,Int.natCast_mul,lA i hi,lB (s - i) (by omega)]
 have nn:∀ x∈rbl bk p ps s,0≤x.1∧0≤x.2:=fun x hx=>by
  obtain ⟨j,hj⟩:=List.getElem?_of_mem hx
  obtain ⟨j1,rfl⟩:=X8 hj
  exact ⟨by rw [← lA j j1];omega,by rw [← lB (s - j) (by omega)];omega⟩
 constructor
 ·rw [YfE,Wu]
  have:∀ l:List Nat,(∀ f∈l,f≤s)→(((l.map fun f=>(prd g (A f) (B (s - f))).length).sum:Nat):Int)=(l.map fun f=>cnt bk p f*YB bk ps (s - f)).sum:=fun l=>by
   induction l with
   | nil=>intro _;rfl
   | cons f l ih =>
    intro hl
    have hf:=hl f (.head _)
    rw [List.map_cons,List.sum_cons,List.map_cons,List.sum_cons,← ih fun x hx=>hl x (.tail _ hx),Int.natCast_add,YbE,Int.natCast_mul,lA f hf,lB (s - f) (by omega)]
  exact this _ fun f hf=>by have:=List.mem_range.mp hf;omega
 ·intro r es h0 h1 hv
  obtain ⟨d,ds,rfl,g1,g2⟩:=YbF hv
  obtain ⟨b,L,e1,e2,e3,e4,e5,e6,e7⟩:=YaA (Ls:=(List.range (s+1)).map fun f=>prd g (A f) (B (s - f))) (by rw [rbl,List.length_map,List.length_map]) hb h0 (by rw [Qe];exact h1) nn
  generalize fnd (rbl bk p ps s) r=fd at g1 g2 e1 e2 e3 e4 e5 e6 e7
  obtain ⟨hi,rfl⟩:=X8 e1
  rw [List.getElem?_map,List.getElem?_range (by omega)] at e2
  cases Option.some.inj e2
  obtain ⟨x,x1,x2⟩:=aA fd.1 hi _ d e4 e5 g1
  obtain ⟨y,y1,y2⟩:=aB (s - fd.1) (by omega) _ ds e6 e7 g2
  refine ⟨x,y,d,ds,rfl,x2,y2,?_⟩
  show ((List.range (s+1)).map fun f=>prd g (A f) (B (s - f))).flatten[r.toNat]?=_
  rw [e3,← YdI g (B (s - fd.1)) (A fd.1) fd.2.1.toNat fd.2.2.toNat x y x1 y1]
  congr 1
  have:(fd.2.1*YB bk ps (s - fd.1)).toNat=fd.2.1.toNat*(B (s - fd.1)).length:=by
   rw [← lB (s - fd.1) (by omega),Int.toNat_mul e4 (by omega)]
   rfl
  have m0:0≤fd.2.1*YB bk ps (s - fd.1):=Int.mul_nonneg e4 (by rw [← lB (s - fd.1) (by omega)];omega)
  show (fd.2.1*YB bk ps (s - fd.1)+fd.2.2).toNat=_
  omega
theorem Ygn {bk:List Nat→Sh} {ps:List Sh} {s:Nat} {r:Int} {d:PyData} (h:Va bk (.row ps) s r d):∃ ds,d = .tuple ds∧Vr bk ps s r ds:=by
 cases h with
 | row h=>exact ⟨_,rfl,h⟩
inductive Tt
 | lf (o:Nat)
 | nd (a b:Tt)
def teq:Tt→Tt→Bool
 | .lf o,.lf p=>o==p
 | .nd a b,.nd c d=>teq a c&&teq b d
 | _,_=>false
theorem Qg:∀ t:Tt,teq t t=true
 | .lf o=>by simp [teq]
 | .nd a b=>by simp [teq,Qg a,Qg b]
def lvs:Tt→Nat
 | .lf _=>1
 | .nd a b=>lvs a+lvs b
def dpT:Tt→Nat
 | .lf _=>1
 | .nd a b=>max (dpT a) (dpT b)+1
def szT (sp:Nat):Tt→Nat
 | .lf o=>if o≤sp then 1+Builtin.Int.intBits o else 0
 | .nd a b=>if szT sp a=0∨szT sp b=0 then 0 else 1+szT sp a+szT sp b
def smT (lo:Int):Tt→Int
 | .lf o=>lo+o
 | .nd a b=>2*smT lo a+3*smT lo b
def tdT (lo:Int) (m0 m1:List Nat):Tt→PyData
 | .lf o => .tuple [.str (S m0),.int (lo+o)]
 | .nd a b => .tuple [.str (S m1),.tuple [tdT lo m0 m1 a,tdT lo m0 m1 b]]
def prT (T:Nat→List Tt) (s:Nat):List Tt:=bys (fun f e=>prd Tt.nd (T f) (T e)) s
def lfT (sp s:Nat):List Tt:=(List.range (wc sp s).toNat).map fun k=>Tt.lf (2^s / 2+k)
def pcs (sp:Nat) (T:Nat→List Tt) (s:Nat):List (List Tt):=[lfT sp s,prT T s]
theorem YdK {sp:Nat} {T T':Nat→List Tt} {s:Nat} (e:∀ f,f≤s→T f=T' f):pcs sp T s=pcs sp T' s:=by
 unfold pcs prT
 rw [YdJ (G:=fun f e=>prd Tt.nd (T' f) (T' e)) fun f hf=>by rw [e f hf,e (s - f) (by omega)]]
def tb (h:Nat):Nat→List (List Tt)
 | 0=>[[]]
 | n+1=>tb h n++[(pcs h (fun f=>(tb h n).getD f []) n).flatten]
def tms (h s:Nat):List Tt:=(tb h s).getD s []
theorem UK (h:Nat):∀ n,(tb h n).length=n+1
 | 0=>rfl
 | n+1=>by rw [tb,List.length_append,UK h n];rfl
theorem Ye3 (h:Nat):∀ n f,f≤n→(tb h n).getD f []=tms h f
 | 0,f,hf=>by cases Nat.le_zero.mp hf;rfl
 | n+1,f,hf=>by
  by_cases c:f≤n
  ·rw [tb,List.getD_eq_getElem?_getD,List.getElem?_append_left (by rw [UK];omega),← List.getD_eq_getElem?_getD]
   exact Ye3 h n f c
  ·have:f=n+1:=by omega
   subst this
   rfl
theorem YaD (h s:Nat):tms h (s+1)=(pcs h (tms h) s).flatten:=by
 show (tb h (s+1)).getD (s+1) []=_
 rw [tb,List.getD_eq_getElem?_getD,List.getElem?_append_right (by rw [UK];omega),UK,Nat.sub_self]
 show (pcs h _ s).flatten=_
 rw [YdK (T':=tms h) fun f hf=>Ye3 h s f hf]
def two (x:List Nat):Sh := .row [.use x,.use x]
def Wz (lo:Int) (sp:Nat) (x m0 m1:List Nat):Sh := .pick [m0,m1] [.w lo sp,two x]
def Y3 (lo:Int) (sp:Nat) (x m0 m1:List Nat):Prs:=[(x,Wz lo sp x m0 m1)]
section
 variable {lo:Int} {sp:Nat} {x m0 m1:List Nat}
theorem YdL:bkO (Y3 lo sp x m0 m1) x=Wz lo sp x m0 m1:=by simp [bkO,Y3]
theorem Qh:okS (Y3 lo sp x m0 m1) (.use x):=by rw [okS];exact ⟨(x,Wz lo sp x m0 m1),by simp [Y3]⟩
theorem YbG (h0:PyData.strOk (S m0)=true) (h1:PyData.strOk (S m1)=true):okB (Y3 lo sp x m0 m1):=by
 have u:=Qh (lo:=lo) (sp:=sp) (x:=x) (m0:=m0) (m1:=m1)
 refine ⟨by simp [Y3],fun q hq=>?_,fun q hq=>?_,fun q hq=>?_⟩<;>cases List.mem_singleton.mp hq
 ·simp only [Wz,two,okS,Xx,true_and,and_true,List.length_cons,List.length_nil]
  rw [okS] at u
  refine ⟨by decide,⟨by decide,u,u⟩,fun m hm=>?_⟩
  rcases List.mem_cons.mp hm with rfl | hm
  ·exact h0
  ·cases List.mem_singleton.mp hm;exact h1
 ·simp [Wz,two,wt,wts]
 ·simp [Wz,two,dep,YO]
structure GT (lo:Int) (sp:Nat) (x m0 m1:List Nat) (s:Nat):Prop where
 len:((tms sp s).length:Int)=cnt (bkO (Y3 lo sp x m0 m1)) (.use x) s
 at_:∀ r d,0≤r→r<cnt (bkO (Y3 lo sp x m0 m1)) (.use x) s→Va (bkO (Y3 lo sp x m0 m1)) (.use x) s r d→∃ t,(tms sp s)[r.toNat]?=some t∧d=tdT lo m0 m1 t
theorem Ygo {s:Nat} (G:∀ f,f≤s→GT lo sp x m0 m1 f):((prT (tms sp) s).length:Int)=cnt (bkO (Y3 lo sp x m0 m1)) (two x) s∧∀ r e,0≤r→r<cnt (bkO (Y3 lo sp x m0 m1)) (two x) s→Va (bkO (Y3 lo sp x m0 m1)) (two x) s r e→∃ t,(prT (tms sp) s)[r.toNat]?=some t ∧ .tuple [.str (S m1),e]=tdT lo m0 m1 t:=by
 have nn:∀ f,f≤s→0≤cnt (bkO (Y3 lo sp x m0 m1)) (.use x) f:=fun f hf=>by rw [← (G f (by omega)).len];omega
 have:=vr_at (bk:=bkO (Y3 lo sp x m0 m1)) (p := .use x) (ps:=[.use x]) (s:=s) Tt.nd (A:=tms sp) (B:=tms sp) (RA:=fun t d=>d=tdT lo m0 m1 t) (RB:=fun t ds=>ds=[tdT lo m0 m1 t]) (fun f hf=>(G f (by omega)).len) (fun f hf=>by rw [Up];exact (G f (by omega)).len) (fun f hf=>(G f (by omega)).at_) (fun f hf r ds h0 h1 hv=>by
  rw [Up] at h1
  obtain ⟨d,rfl,hd⟩:=Ygm hv h0 h1 fun e he=>nn e (by omega)
  obtain ⟨y,y1,rfl⟩:=(G f (by omega)).at_ r d h0 h1 hd
  exact ⟨y,y1,rfl⟩)
 rw [two,Vb]
 refine ⟨this.1,fun r e h0 h1 hv=>?_⟩
 obtain ⟨ds,rfl,hr⟩:=Ygn hv
 obtain ⟨a,b,d,ds,rfl,rfl,rfl,e⟩:=this.2 r _ h0 h1 hr
 exact ⟨.nd a b,e,rfl⟩
theorem gt_lf (s:Nat):((lfT sp s).length:Int)=cnt (bkO (Y3 lo sp x m0 m1)) (.w lo sp) s∧∀ r e,0≤r→r<cnt (bkO (Y3 lo sp x m0 m1)) (.w lo sp) s→Va (bkO (Y3 lo sp x m0 m1)) (.w lo sp) s r e→∃ t,(lfT sp s)[r.toNat]?=some t ∧ .tuple [.str (S m0),e]=tdT lo m0 m1 t:=by
 have b:=(Yav sp s).1
 refine ⟨by rw [lfT,List.length_map,List.length_range,QQ];omega,fun r e h0 h1 hv=>?_⟩
 rw [QQ] at h1
 cases hv
 refine ⟨.lf (2^s / 2+r.toNat),?_,?_⟩
 ·rw [lfT,List.getElem?_map,List.getElem?_range (by omega)]
  rfl
 ·rw [tdT]
  have e:(1:Int)*2^s / 2^1=((2^s / 2:Nat):Int):=by
   rw [Int.one_mul]
   simp
  rw [e,Int.natCast_add,Int.toNat_of_nonneg h0,Int.add_assoc]
theorem YfF {s:Nat} (G:∀ f,f≤s→GT lo sp x m0 m1 f):GT lo sp x m0 m1 (s+1):=by
 have g1:=gt_lf (lo:=lo) (sp:=sp) (x:=x) (m0:=m0) (m1:=m1) s
 have g2:=Ygo G
 have ec:cnt (bkO (Y3 lo sp x m0 m1)) (.use x) (s+1)=(([.w lo sp,two x]:List Sh).map fun p=>cnt (bkO (Y3 lo sp x m0 m1)) p s).sum:=by
  rw [V7,YdL,Wz,Vu]
 constructor
 ·rw [ec,YaD,List.length_flatten]
  simp only [pcs,List.map_cons,List.map_nil,List.sum_cons,List.sum_nil,← g1.1,← g2.1,Int.natCast_add]
  omega
 ·intro r d h0 h1 hv
  rw [ec,← QA (fun p=>cnt (bkO (Y3 lo sp x m0 m1)) p s)] at h1
  rw [YaD]
  cases hv with
  | use hv =>
   rw [YdL,Wz] at hv
   cases hv with
   | @pick _ _ _ _ p m e q1 q2 q3 =>
    obtain ⟨b,L,e1,e2,e3,e4,e5,e6,e7⟩:=YaA (Bs:=([.w lo sp,two x]:List Sh).map fun p=>(cnt (bkO (Y3 lo sp x m0 m1)) p s,(1:Int))) (Ls:=pcs sp (tms sp) s) rfl (fun i b L h1 h2=>by
     match i,h1,h2 with
     | 0,h1,h2=>cases Option.some.inj h1;cases Option.some.inj h2;rw [g1.1];exact (Int.mul_one _).symm
     | 1,h1,h2=>cases Option.some.inj h1;cases Option.some.inj h2;rw [g2.1];exact (Int.mul_one _).symm) h0 h1 (fun z hz=>by
     rcases List.mem_cons.mp hz with rfl | hz
     ·exact ⟨by show 0≤cnt _ _ s;rw [← g1.1];omega,(by decide:(0:Int)≤1)⟩
     ·cases List.mem_singleton.mp hz
      exact ⟨by show 0≤cnt _ _ s;rw [← g2.1];omega,(by decide:(0:Int)≤1)⟩)
    generalize fnd (([.w lo sp,two x]:List Sh).map fun p=>(cnt (bkO (Y3 lo sp x m0 m1)) p s,(1:Int))) r=fd at q1 q2 q3 e1 e2 e3 e4 e5 e6 e7
    obtain ⟨i,c,z⟩:=fd
    match i,q1,q2,e1,e2 with
    | 0,q1,q2,e1,e2 =>
     cases Option.some.inj q1;cases Option.some.inj q2;cases Option.some.inj e1;cases Option.some.inj e2
     obtain ⟨t,t1,t2⟩:=g1.2 c e e4 e5 q3
     refine ⟨t,?_,t2⟩
     have e7:z<1:=e7
     have e6:0≤z:=e6
     rw [e3,show (c*1+z)=c by omega]
     exact t1
    | 1,q1,q2,e1,e2 =>
     cases Option.some.inj q1;cases Option.some.inj q2;cases Option.some.inj e1;cases Option.some.inj e2
     obtain ⟨t,t1,t2⟩:=g2.2 c e e4 e5 q3
     refine ⟨t,?_,t2⟩
     have e7:z<1:=e7
     have e6:0≤z:=e6
     rw [e3,show (c*1+z)=c by omega]
     exact t1
theorem UL:∀ s,GT lo sp x m0 m1 s:=fun s=>by
 have key:∀ n f,f≤n→GT lo sp x m0 m1 f:=fun n=>by
  induction n with
  | zero=>intro f hf;cases Nat.le_zero.mp hf;exact ⟨by rw [WQ];rfl,fun r d h0 h1 _=>by rw [WQ] at h1;omega⟩
  | succ n ih =>
   intro f hf
   by_cases c:f≤n
   ·exact ih f c
   ·have:f=n+1:=by omega
    subst this
    exact YfF ih
 exact key s s (Nat.le_refl _)
theorem YaE {s:Nat} {ds:List PyData} (h:Alls (bkO (Y3 lo sp x m0 m1)) (.use x) s ds):ds=(tms sp s).map (tdT lo m0 m1):=by
 have G:=UL (lo:=lo) (sp:=sp) (x:=x) (m0:=m0) (m1:=m1) s
 have l1:=h.len
 have l2:=G.len
 refine List.ext_getElem? fun i=>?_
 by_cases c:i<ds.length
 ·have e:ds[i]?=some ds[i]:=List.getElem?_eq_getElem c
  obtain ⟨t,t1,t2⟩:=G.at_ i _ (by omega) (by omega) (h.va i _ e)
  rw [e,List.getElem?_map]
  rw [Int.toNat_natCast] at t1
  rw [t1,t2]
  rfl
 ·rw [List.getElem?_eq_none (by omega),List.getElem?_map,List.getElem?_eq_none (by omega)]
  rfl
end
def lcT (sp s:Nat):Nat:=if s=1 then 1 else Nat.min (sp+1) (2*2^(s - 2)) - 2^(s - 2)
def Qi (A B:List Nat) (tm i:Nat) (row:List Nat) (j:Nat):List Nat:=row.set ((i+j)%tm) (row.getD ((i+j)%tm) 0+A.getD i 0*B.getD j 0)
def YaF (A B:List Nat) (tm:Nat) (row:List Nat) (i:Nat):List Nat:=(List.range tm).foldl (Qi A B tm i) row
def YaG (T:List (List Nat)) (tm s:Nat) (row:List Nat) (k:Nat):List Nat:=(List.range tm).foldl (YaF (T.getD (k+1) []) (T.getD (s - 1 - (k+1)) []) tm) row
def Vz (sp tm s:Nat):List Nat:=(List.replicate tm 0).set (1%tm) (lcT sp s)
def rowS (T:List (List Nat)) (sp tm s:Nat):List Nat:=(List.range (s - 2)).foldl (YaG T tm s) (Vz sp tm s)
def tab (sp tm:Nat):Nat→List (List Nat)
 | 0=>[List.replicate tm 0]
 | n+1=>tab sp tm n++[rowS (tab sp tm n) sp tm (n+1)]
def lgF (T:List (List Nat)) (want:Nat):Nat→Nat→Nat
 | 0,s=>s
 | n+1,s=>if s<want∧(T.getD (s+1) []).sum≤60 then lgF T want n (s+1) else s
def pwT:List Tt→Bool
 | []=>true
 | t::ts=>ts.all (fun u => !teq t u)&&pwT ts
def chkT (sp tm want:Nat):Bool :=
 let T:=tab sp tm 11
 let s:=lgF T want 12 0
 let L:=tms sp s
 decide (s≤11)&&(L.length==(T.getD s []).sum)&&decide (L.length≤60)&&L.all (fun t=>szT sp t==s&&decide (dpT t≤6))&&pwT L&&(List.range tm).all fun left=>(L.filter fun t=>lvs t%tm==left).length==(T.getD s []).getD left 0
def chkB (sp tm:Nat):Bool:=(List.range 12).all fun n=>(tab sp tm n).all fun row=>row.length==tm&&row.all fun x=>decide (x<2^30)
theorem Yew:((List.range 12).all fun want=>[0,1,3].all fun sp=>[1,2,3].all fun tm=>chkT sp tm want)=true:=by decide +kernel
theorem Yex:([0,1,3].all fun sp=>[1,2,3].all fun tm=>chkB sp tm)=true:=by decide +kernel
theorem YaH {l:List Nat} (h:∀ c∈l,c<1000):PyData.strOk (S l)=true:=by
 simp only [PyData.strOk,S,Array.all_eq_true',decide_eq_true_eq]
 intro c hc
 have:=h c (by simpa using hc)
 omega
theorem YfG {l:List Nat} {i c:Nat} (h:l[i]?=some c):atI (S l).cps.toList (i:Int)=some c:=by rw [Yaf];exact Yu h
def NL:List Nat:=[97,98,99,100,101,102,103,104,105,106,107,108,109,110,111,112,113,114,115,116,117,118,119,120,121,122]
theorem Ygp:Str.ofString "abcdefghijklmnopqrstuvwxyz"=S NL:=by decide +kernel
theorem YaI:NL.length=26:=rfl
theorem Ygq:∀ i j:Fin 26,NL.getD i.val 0=NL.getD j.val 0→i=j:=by decide +kernel
theorem nl_ok:∀ c∈NL,c<1000:=by decide +kernel
def nmL (c:Int) (k j:Nat):Nat:=NL.getD ((if (j:Int)=c / 8%(1+c%8) then c / (64*((j:Int)+1))+(j:Int)*(j:Int)+(k:Int) else c / (64*((j:Int)+1))+(j:Int)*(j:Int))%26).toNat 0
def nm (c:Int) (k:Nat):List Nat:=(List.range (1+c%8).toNat).map (nmL c k)
theorem YdM (c:Int) (k:Nat):(nm c k).length=(1+c%8).toNat:=by rw [nm,List.length_map,List.length_range]
theorem Ygr {c:Int} {k k':Nat} (h1:k<26) (h2:k'<26) (h:nm c k=nm c k'):k=k':=by
 have ha0:0≤c / 8%(1+c%8):=Int.emod_nonneg _ (by omega)
 have ha1:c / 8%(1+c%8)<1+c%8:=Int.emod_lt_of_pos _ (by omega)
 generalize hat:c / 8%(1+c%8)=at_ at ha0 ha1
 have hj:at_.toNat<(1+c%8).toNat:=by omega
 have h3:=congrArg (fun l=>l[at_.toNat]?) h
 simp only [nm,List.getElem?_map,List.getElem?_range hj,Option.map_some,Option.some.injEq] at h3
 unfold nmL at h3
 rw [hat,show ((at_.toNat:Nat):Int)=at_ by omega,if_pos rfl,if_pos rfl] at h3
 generalize c / (64*(at_+1))+at_*at_=z at h3
 have h4:=Ygq ⟨((z+k)%26).toNat,by omega⟩ ⟨((z+k')%26).toNat,by omega⟩ h3
 have h5:((z+k)%26).toNat=((z+k')%26).toNat:=congrArg Fin.val h4
 omega
theorem YcG (c:Int) (k:Nat):∀ z∈nm c k,z<1000:=by
 intro z hz
 rw [nm,List.mem_map] at hz
 obtain ⟨j,_,rfl⟩:=hz
 unfold nmL
 refine nl_ok _ ?_
 rw [List.getD_eq_getElem?_getD,List.getElem?_eq_getElem (by rw [YaI];omega)]
 exact List.getElem_mem _
inductive Z3N (vs:List V) (H:Hp) (Q:VK) (E_:XK):Prop
 | mk (c:Int) (k:Nat) (h0:vs=[.int c,.int k]) (h1:Q (.str (S (nm c k))) H)
theorem Ya6 {Z6 Z5 Z1 Z2 Z4 Z3 Z0:Addr} {c_law P_law:Addr} (R:g.Raw "_law_name" "_law_name" Z2C ["_law_cell","_law_k"]) (Zt:g.mg "range"=none):g.Fn (1) "_law_name" ["_law_cell","_law_k"] (Z3N):=by
 refine R.fn Z02 (fun vs H Q E h=>by obtain ⟨c,k,rfl,q⟩:=h;rfl) fun f_ cdv A outer s H vs Q E hr h=>?_
 obtain ⟨c,k,rfl,q⟩:=h
 refine ⟨_,(@Ye _ _ _ _ _ (@Yq _ _ (2) _ _ _ _ Z02.nd rfl (.inl rfl) Y7 (by rfl) (by first | exact .inl rfl | exact .inr rfl | assumption)) (@Ye _ _ _ _ _ (@Yq _ _ (3) _ _ _ _ Z02.nd rfl (.inl rfl) (@Yl _ _ _ _ _ _ _ _ YQ Yf (@Yl _ _ _ _ _ _ _ _ Xg (pv 0) Yf)) (by rfl) (by first | exact .inl rfl | exact .inr rfl | assumption)) (@Ye _ _ _ _ _ (@Yq _ _ (4) _ _ _ _ Z02.nd rfl (.inl rfl) (@Yl _ _ _ _ _ _ _ _ Xg (@Yl _ _ _ _ _ _ _ _ Wb (pv 0) Yf) (pv 3)) (by rfl) (by first | exact .inl rfl | exact .inr rfl | assumption)) (@Ye _ _ _ _ _ (@Yq _ _ (5) _ _ _ _ Z02.nd rfl (.inl rfl) Y7 (by rfl) (by first | exact .inl rfl | exact .inr rfl | assumption)) (@Ye _ _ _ _ _ (@XO _ _ _ _ _ _ _ _ PassesOwn.never rfl (@Xk _ _ _ _ _ _ rfl Zt (@Ya _ _ _ _ _ (pv 3) Yc (by rfl)) (by rfl)) (@Yx _ _ (6) _ Z02.nd rfl (.inl rfl) (by first | exact .inl rfl | exact .inr rfl | assumption)) (@Ye _ _ _ _ _ (@Yq _ _ (7) _ _ _ _ Z02.nd rfl (.inl rfl) (@Yl _ _ _ _ _ _ _ _ YQ (@Yl _ _ _ _ _ _ _ _ Wb (pv 0) (@Yl _ _ _ _ _ _ _ _ Xw Yf (@Yl _ _ _ _ _ _ _ _ YQ (pv 6) Yf))) (@Yl _ _ _ _ _ _ _ _ Xw (pv 6) (pv 6))) (by rfl) (by first | exact .inl rfl | exact .inr rfl | assumption)) (@Ye _ _ _ _ _ (@YV _ _ _ _ _ _ _ _ (@Yt _ _ _ _ _ _ _ _ Xa (pv 6) (pv 4) (Yv _)) (@Yh _ _ _ (@Yq _ _ (7) _ _ _ _ Z02.nd rfl (.inl rfl) (@Yl _ _ _ _ _ _ _ _ YQ (pv 7) (pv 1)) (by rfl) (by first | exact .inl rfl | exact .inr rfl | assumption))) YJ) (@Yh _ _ _ (@Yq _ _ (5) _ _ _ _ Z02.nd rfl (.inl rfl) (@Yl _ _ _ _ _ _ _ _ YbZ (pv 5) (@Yn _ _ _ _ _ _ _ YfZ (pv 2) (@Yl _ _ _ _ _ _ _ _ Xg (pv 7) Yf) (fun _ _=>rfl))) (by rfl) (by first | exact .inl rfl | exact .inr rfl | assumption))))) (by intro _;rfl)) (@Yh _ _ _ (@Ym _ _ _ _ (pv 5)))))))),?_⟩
 have hm0:0≤c%8:=by omega
 obtain ⟨sz,esz,hsz⟩:=W9 c (j:=8) (by decide)
 walk_at "rd"
 refine ⟨by decide,Ws (by decide) (by decide),by omega,?_⟩
 refine Wp (n:=sz+1) (fun i σ H'=>∃ o6 o7,σ=[some (.int c),some (.int k),some (.str (S NL)),some (.int (1+c%8)),some (.int (c / 8%(1+c%8))),some (.str (S ((List.range i).map (nmL c k)))),o6,o7]∧H'=H) (fun R r=>?_) (by omega) ⟨_,_,by rw [Ygp];rfl,rfl⟩ ?_ ?_
 ·walk_at "rd"
  rw [show 1+c%8=((sz+1:Nat):Int) by omega]
  exact r
 ·rintro i σ H' hi ⟨o6,o7,rfl,rfl⟩
  have key:∀ z:Int,nmL c k i=NL.getD (z%26).toNat 0→rIxS (V.str (S NL)) (V.int (z%26)) H' fun y H2=>∃ x,y=V.str x∧(S (List.map (nmL c k) (List.range i))).length+x.length≤sizeLine∧S (List.map (nmL c k) (List.range i))++x=S (List.map (nmL c k) (List.range (i+1)))∧H2=H':=by
   intro z hz
   obtain ⟨r,er,hr⟩:=W9 z (j:=26) (by decide)
   rw [er] at hz ⊢
   have h1:NL[r]?=some (NL.getD r 0):=by rw [List.getD_eq_getElem?_getD,List.getElem?_eq_getElem (show r<NL.length by rw [YaI];omega)];rfl
   rw [Int.toNat_natCast] at hz
   refine ⟨_,_,_,rfl,rfl,few (by rw [YeR];decide),YfG h1,?_⟩
   refine ⟨_,rfl,few (by rw [YeR,List.length_map,List.length_range];show _+1≤_;omega),?_,rfl⟩
   rw [S_one,S_app,List.range_succ,List.map_append,← hz]
   rfl
  walk_at "rd"
  refine ⟨.inl (cm (m:=7) (n:=10) (by decide) (by omega)),Ws (by omega) (by omega),.inl (cm (m:=10) (n:=10) (by omega) (by omega)),?_⟩
  refine UV (fun c1=>⟨by decide,key _ ?_⟩) (fun c1=>⟨by decide,key _ ?_⟩)
  ·rw [nmL,if_pos c1]
  ·rw [nmL,if_neg c1]
 ·rintro σ H' ⟨o6,o7,rfl,rfl⟩
  walk_at "rd"
  have e:sz+1=(1+c%8).toNat:=by omega
  rw [e]
  exact q
inductive sp_cell (K:PySem.W.Frag) (vs:List V) (H:Hp) (Q:VK) (E_:XK):Prop
 | mk (a:Addr) (ns:List Int) (k:Nat) (h0:vs=[.ref a,.int k]) (h1:SqL K H a (ns.map V.int)) (h2:ns.length≤63) (h3:Q (.int (ns.getD k 0)) H)
theorem Z46 {Z6 Z5 Z1 Z2 Z4 Z3 Z0:Addr} {c_law P_law:Addr} (R:g.Raw "_law_cell_at" "_law_cell_at" Z1O ["_law_script","_law_k"]) (b_len:g.mg "len"=none):g.Fn (1) "_law_cell_at" ["_law_script","_law_k"] (sp_cell g.K):=by
 refine R.fn Z45 (fun vs H Q E h=>by obtain ⟨a,ns,k,rfl,hS,hl,q⟩:=h;rfl) fun f_ cdv A outer s H vs Q E hr h=>?_
 obtain ⟨a,ns,k,rfl,hS,hl,q⟩:=h
 refine ⟨_,(@Ye _ _ _ _ _ (@YV _ _ _ _ _ _ _ _ (@Yt _ _ _ _ _ _ _ _ QJ (pv 1) (@YI _ _ _ _ _ _ _ _ _ _ b_len YA (@Ya _ _ _ _ _ (pv 0) Yc (by rfl)) (by decide +kernel) (by rfl) (by rfl) (by decide) (by decide) (by rfl) (by rfl)) (Yv _)) (@Yh _ _ _ (@Ym _ _ _ _ (@Yn _ _ _ _ _ _ _ Yw (pv 0) (pv 1) (fun _ _=>rfl)))) YJ) (@Yh _ _ _ (@Ym _ _ _ _ Yf))),?_⟩
 walk_at "rd"
 refine ⟨_,.inl hS,UV (fun c=>?_) fun c=>?_⟩
 ·rw [List.length_map] at c
  have hk:k<ns.length:=by omega
  have e:ns.getD k 0=ns[k]:=by simp [List.getD_eq_getElem?_getD,List.getElem?_eq_getElem hk]
  rw [e] at q
  exact ⟨_,hS,_,Yu (by rw [List.getElem?_map,List.getElem?_eq_getElem hk];rfl),q⟩
 ·rw [List.length_map] at c
  have hk:ns.length≤k:=by omega
  have e:ns.getD k 0=0:=by simp [List.getD_eq_getElem?_getD,List.getElem?_eq_none hk]
  rw [e] at q
  exact q
section
 variable {g:TG} {tb:TS} {D:Ends} {σ:St} {H:Hp}
theorem Uf {ta:TA} {lo j:Int} {n:Nat} (Pv:Nat→St→Hp→Prop) (ha:∀ R:List V→Hp→Prop,R [.int lo,.int j] H→ta σ H R) (hb : -(2^62)≤lo∧lo<2^62 ∧ -(2^62)≤j∧j<2^62) (hn:(j - lo).toNat=n) (h0:Pv 0 σ H)
  (hs:∀ i σ H,i<n→Pv i σ H→g (.int (lo+i)) σ H fun σ2 H2=>tb { D with nx:=Pv (i+1),ct:=Pv (i+1),bk:=D.nx } σ2 H2) (hd:∀ σ H,Pv n σ H→D.nx σ H):Ui (YeJ ta) g tb D σ H:=by
 refine ha _ ⟨lo,j,rfl,hb,?_⟩
 rw [hn]
 exact Qm (lo:=lo) (n:=n) Pv h0 hs hd
end
inductive sp_lwh (vs:List V) (H:Hp) (Q:VK) (E_:XK):Prop
 | mk (i:Int) (h0:vs=[.int i]) (h1:Q (.bl true) H)
theorem YaJ {Z6 Z5 Z1 Z2 Z4 Z3 Z0:Addr} {c_law P_law:Addr} (R:g.Raw "_law_whole" "_law_whole" Z2a ["_law_found"]) (b_bool:g.mg "bool"=none) (b_int:g.mg "int"=none) (Zs:g.mg "isinstance"=none):g.Fn (1) "_law_whole" ["_law_found"] (sp_lwh):=by
 refine R.fn Yap (fun vs H Q E h=>by obtain ⟨i,rfl,q⟩:=h;rfl) fun f_ cdv A outer s H vs Q E hr h=>?_
 obtain ⟨i,rfl,q⟩:=h
 refine ⟨_,(@Yh _ _ _ (@Ym _ _ _ _ (@YfV _ _ _ _ _ _ _ (@YI _ _ _ _ _ _ _ _ _ _ Zs Y5 (@Ya _ _ _ _ _ (pv 0) (@Ya _ _ _ _ _ (@WC _ _ _ _ ("int") b_int (by decide +kernel) (by rfl) (by rfl) (by decide) (by decide)) Yc (by rfl)) (by rfl)) (by decide +kernel) (by rfl) (by rfl) (by decide) (by decide) (by rfl) (by rfl)) (@YfU _ _ _ _ _ (@YfW _ _ _ _ (@YI _ _ _ _ _ _ _ _ _ _ Zs Y5 (@Ya _ _ _ _ _ (pv 0) (@Ya _ _ _ _ _ (@WC _ _ _ _ ("bool") b_bool (by decide +kernel) (by rfl) (by rfl) (by decide) (by decide)) Yc (by rfl)) (by rfl)) (by decide +kernel) (by rfl) (by rfl) (by decide) (by decide) (by rfl) (by rfl))))))),?_⟩
 walk_at "rd"
 exact ⟨_,rfl,_,.int i,true,rfl,iteT ⟨_,rfl,_,.int i,false,rfl,q⟩⟩
inductive sp_llc (vs:List V) (H:Hp) (Q:VK) (E_:XK):Prop
 | mk (sp s:Nat) (h0:vs=[.int (sp:Nat),.int (s:Nat)]) (h1:1≤s) (h2:s≤11) (h3:sp≤3) (h4:Q (.int (lcT sp s:Nat)) H)
theorem Z3D {Z6 Z5 Z1 Z2 Z4 Z3 Z0:Addr} {c_law P_law:Addr} (R:g.Raw "_law_leaf_count" "_law_leaf_count" Z19 ["_law_span","_law_size"]) (b_max:g.mg "max"=none) (b_min:g.mg "min"=none) (Zt:g.mg "range"=none):g.Fn (1) "_law_leaf_count" ["_law_span","_law_size"] (sp_llc):=by
 refine R.fn Z09 (fun vs H Q E h=>by obtain ⟨sp,s,rfl,h1,h2,h3,q⟩:=h;rfl) fun f_ cdv A outer s H vs Q E hr h=>?_
 obtain ⟨sp,s,rfl,h1,h2,h3,q⟩:=h
 refine ⟨_,(@Ye _ _ _ _ _ (@YV _ _ _ _ _ _ _ _ (@Yt _ _ _ _ _ _ _ _ Xa (pv 1) Yf (Yv _)) (@Yh _ _ _ (@Ym _ _ _ _ Yf)) YJ) (@Ye _ _ _ _ _ (@Yq _ _ (2) _ _ _ _ Z09.nd rfl (.inl rfl) Yf (by rfl) (by first | exact .inl rfl | exact .inr rfl | assumption)) (@Ye _ _ _ _ _ (@XO _ _ _ _ _ _ _ _ PassesOwn.never rfl (@Xk _ _ _ _ _ _ rfl Zt (@Ya _ _ _ _ _ (@Yl _ _ _ _ _ _ _ _ Xm (pv 1) Yf) Yc (by rfl)) (by rfl)) (@Yx _ _ (3) _ Z09.nd rfl (.inl rfl) (by first | exact .inl rfl | exact .inr rfl | assumption)) (@Yh _ _ _ (@Yq _ _ (2) _ _ _ _ Z09.nd rfl (.inl rfl) (@Yl _ _ _ _ _ _ _ _ Xw Yf (pv 2)) (by rfl) (by first | exact .inl rfl | exact .inr rfl | assumption))) (by intro _;rfl)) (@Yh _ _ _ (@Ym _ _ _ _ (@YI _ _ _ _ _ _ _ _ _ _ b_max (Qn rfl) (@Ya _ _ _ _ _ Yf (@Ya _ _ _ _ _ (@Yl _ _ _ _ _ _ _ _ Xm (@YI _ _ _ _ _ _ _ _ _ _ b_min (Qo rfl) (@Ya _ _ _ _ _ (@Yl _ _ _ _ _ _ _ _ YQ (pv 0) Yf) (@Ya _ _ _ _ _ (@Yl _ _ _ _ _ _ _ _ Xw Yf (pv 2)) Yc (by rfl)) (by rfl)) (by decide +kernel) (by rfl) (by rfl) (by decide) (by decide) (by rfl) (by rfl)) (pv 2)) Yc (by rfl)) (by rfl)) (by decide +kernel) (by rfl) (by rfl) (by decide) (by decide) (by rfl) (by rfl))))))),?_⟩
 refine Yr fun R rr=>?_
 walk_at "rd"
 refine UV (fun c=>?_) (fun c=>rr _ _ (Yr fun R rr=>?_))
 ·have:s=1:=by omega
  subst this
  exact q
 walk_at "rd"
 refine rr _ _ (Yr fun R rr=>?_)
 refine Wp (n:=s - 2) (fun i σ H'=>∃ o,σ=[some (.int sp),some (.int s),some (.int ((2^i:Nat):Int)),o]∧H'=H) (fun R r=>?_) (by omega) ⟨none,rfl,rfl⟩ ?_ ?_
 ·walk_at "rd"
  rw [show (s:Int) - 2=((s - 2:Nat):Int) by omega]
  exact r
 ·rintro i σ H' hi ⟨o,rfl,rfl⟩
  walk_at "rd"
  refine ⟨.inl (cm (m:=2) (n:=12) (by decide) ?_),?_⟩
  ·rw [Int.natAbs_natCast]
   exact Nat.pow_lt_pow_right (by decide) (by omega)
  ·rw [Nat.pow_succ,Int.natCast_mul,Int.mul_comm];rfl
 ·rintro σ H' ⟨o,rfl,rfl⟩
  refine rr _ _ ?_
  walk_at "rd"
  refine ⟨.inl (cm (m:=2) (n:=12) (by decide) ?_),?_⟩
  ·rw [Int.natAbs_natCast]
   exact Nat.pow_lt_pow_right (by decide) (by omega)
  ·have e:lcT sp s=Nat.min (sp+1) (2*2^(s - 2)) - 2^(s - 2):=if_neg (by omega)
   rw [e] at q
   generalize 2^(s - 2)=f at q ⊢
   have:(if (if 2*(f:Int)<(sp:Int)+1 then 2*(f:Int) else (sp:Int)+1) - (f:Int)>0 then (if 2*(f:Int)<(sp:Int)+1 then 2*(f:Int) else (sp:Int)+1) - (f:Int) else 0)=((Nat.min (sp+1) (2*f) - f:Nat):Int):=by
    have:=Nat.min_def (n:=sp+1) (m:=2*f)
    rw [show Nat.min (sp+1) (2*f)=min (sp+1) (2*f) from rfl,this]
    split<;>split<;>split<;>omega
   rw [this]
   exact q
def WS (H:Hp) (D:Addr) (T:List (List Nat)):Prop:=∃ rs:List Addr,H D=some (.lst (rs.map V.ref))∧rs.length=T.length∧∀ (i:Nat) r row,rs[i]?=some r→T[i]?=some row→H r=some (.lst (row.map fun x=>V.int ((x:Nat):Int)))
theorem WS.keep {H H':Hp} {D:Addr} {T:List (List Nat)} (h:WS H D T) (s:Yk H H'):WS H' D T:=by
 obtain ⟨rs,h1,h2,h3⟩:=h
 exact ⟨rs,s _ _ h1,h2,fun i r row e1 e2=>s _ _ (h3 i r row e1 e2)⟩
theorem WS.row {H:Hp} {D:Addr} {T:List (List Nat)} {i:Nat} (h:WS H D T) (hi:i<T.length):∃ (rs:List Addr) (r:Addr),H D=some (.lst (rs.map V.ref))∧rs[i]?=some r∧H r=some (.lst ((T.getD i []).map fun x=>V.int ((x:Nat):Int))):=by
 obtain ⟨rs,h1,h2,h3⟩:=h
 have e1:rs[i]?=some (rs[i]'(by omega)):=List.getElem?_eq_getElem _
 have e2:T[i]?=some (T[i]'hi):=List.getElem?_eq_getElem _
 exact ⟨rs,_,h1,e1,by rw [List.getD_eq_getElem?_getD,e2];exact h3 i _ _ e1 e2⟩
inductive sp_ltab (vs:List V) (H:Hp) (Q:VK) (E_:XK):Prop
 | mk (sp tm:Nat) (h0:vs=[.int (sp:Nat),.int 11,.int (tm:Nat)]) (h1:(sp=0∨sp=1∨sp=3)) (h2:(tm=1∨tm=2∨tm=3)) (h3:∀ D H',Yk H H'→WS H' D (tab sp tm 11)→Q (.ref D) H')
theorem Vg (sp tm:Nat):∀ n,(tab sp tm n).length=n+1
 | 0=>rfl
 | n+1=>by rw [tab,List.length_append,Vg sp tm n];rfl
theorem UM {sp tm n:Nat} (hsp:sp=0∨sp=1∨sp=3) (htm:tm=1∨tm=2∨tm=3) (hn:n<12) {i:Nat} (hi:i≤n):((tab sp tm n).getD i []).length=tm∧∀ x∈(tab sp tm n).getD i [],x<2^30:=by
 have h:=Yex
 rw [List.all_eq_true] at h
 have h:=h sp (by rcases hsp with rfl | rfl | rfl<;>simp)
 rw [List.all_eq_true] at h
 have h:=h tm (by rcases htm with rfl | rfl | rfl<;>simp)
 unfold chkB at h
 rw [List.all_eq_true] at h
 have h:=h n (List.mem_range.mpr hn)
 rw [List.all_eq_true] at h
 have hl:=Vg sp tm n
 have hm:(tab sp tm n).getD i []∈tab sp tm n:=by
  rw [List.getD_eq_getElem?_getD,List.getElem?_eq_getElem (by omega)]
  exact List.getElem_mem _
 have h:=h _ hm
 rw [Bool.and_eq_true,beq_iff_eq,List.all_eq_true] at h
 exact ⟨h.1,fun x hx=>of_decide_eq_true (h.2 x hx)⟩
theorem Wk {f:List Nat→Nat→List Nat} (h:∀ r i,(f r i).length=r.length):∀ (l:List Nat) (r:List Nat),(l.foldl f r).length=r.length
 | [],r=>rfl
 | i::l,r=>by rw [List.foldl_cons,Wk h l,h]
theorem YaK (A B:List Nat) (tm i:Nat) (r:List Nat) (j:Nat):(Qi A B tm i r j).length=r.length:=by simp [Qi]
theorem YaL (A B:List Nat) (tm:Nat) (r:List Nat) (i:Nat):(YaF A B tm r i).length=r.length:=Wk (YaK A B tm i) _ _
theorem Yey (T:List (List Nat)) (tm s:Nat) (r:List Nat) (k:Nat):(YaG T tm s r k).length=r.length:=Wk (YaL _ _ tm) _ _
theorem Yez (sp tm s:Nat):(Vz sp tm s).length=tm:=by simp [Vz]
theorem VS {α:Type} (f:α→Nat→α) (r:α) (k:Nat):(List.range (k+1)).foldl f r=f ((List.range k).foldl f r) k:=by rw [List.range_succ,List.foldl_append];rfl
abbrev nts (l:List Nat):List V:=l.map fun x=>V.int ((x:Nat):Int)
theorem Vh {l:List Nat} {i:Nat} (h:i<l.length):(nts l)[i]?=some (.int ((l.getD i 0:Nat):Int)):=by rw [List.getElem?_map,List.getD_eq_getElem?_getD,List.getElem?_eq_getElem h];rfl
theorem YbH {n i:Nat} (h:i<n):ixN n (i:Int)=some i:=by unfold ixN;rw [if_pos (by omega),if_pos (by omega)];rfl
theorem YbI (l:List Nat) (i x:Nat):(nts l).set i (.int (x:Nat))=nts (l.set i x):=by simp [nts,List.map_set]
theorem WS.but {H H':Hp} {D R:Addr} {T:List (List Nat)} (h:WS H D T) (hR:H R=none) (s:SameBut R H H'):WS H' D T:=by
 obtain ⟨rs,h1,h2,h3⟩:=h
 exact ⟨rs,s _ _ (Yj h1 hR) h1,h2,fun i r row e1 e2=>s _ _ (Yj (h3 i r row e1 e2) hR) (h3 i r row e1 e2)⟩
theorem YaM {k:Nat} {Z6 Z5 Z1 Z2 Z4 Z3 Z0:Addr} {c_law P_law:Addr} (R:g.Raw "_law_table" "_law_table" Z2b ["_law_span","_law_most","_law_times"]) (Z3R:g.Fn k "_law_leaf_count" ["_law_span","_law_size"] (sp_llc)) (Zt:g.mg "range"=none):g.Fn (k+1) "_law_table" ["_law_span","_law_most","_law_times"] (sp_ltab):=by
 refine R.fn ZQ (fun vs H Q E h=>by obtain ⟨sp,tm,rfl,hsp,htm,q⟩:=h;rfl) fun f_ cdv A outer s H vs Q E hr h=>?_
 obtain ⟨sp,tm,rfl,hsp,htm,q⟩:=h
 refine ⟨_,(@Ye _ _ _ _ _ (@Yq _ _ (3) _ _ _ _ ZQ.nd rfl (.inl rfl) (@W7 _ _ _ _ (@Ya _ _ _ _ _ (@XF _ _ _ _ _ _ _ ([none]) ((["_law_k"]:List Str)) _ (Yy 0) _ _ (.own .nil) rfl (@Xk _ _ _ _ _ _ rfl Zt (@Ya _ _ _ _ _ (pv 2) Yc (by rfl)) (by rfl)) (fun cl C s₀ H₀ fp pn=>(@Yx _ _ (0) _ (show List.Nodup (["_law_k"]:List Str) by decide +kernel) rfl (.inl rfl) (.inr rfl))) (fun cl C s₀ H₀ fp pn=>Xb) (fun cl C s₀ H₀ fp pn=>Yf) (by intro x hx;simp at hx) (by rfl) (by decide) (by decide +kernel) (by intro _;rfl)) Yc (by rfl))) (by rfl) (by first | exact .inl rfl | exact .inr rfl | assumption)) (@Ye _ _ _ _ _ (@XO _ _ _ _ _ _ _ _ PassesOwn.never rfl (@Ql _ _ _ _ _ _ _ rfl Zt (@Ya _ _ _ _ _ Yf (@Ya _ _ _ _ _ (@Yl _ _ _ _ _ _ _ _ YQ (pv 1) Yf) Yc (by rfl)) (by rfl)) (by rfl) (by rfl)) (@Yx _ _ (4) _ ZQ.nd rfl (.inl rfl) (by first | exact .inl rfl | exact .inr rfl | assumption)) (@Ye _ _ _ _ _ (@UY _ (5) _ _ _ _ _ _ _ _ _ ([none]) ((["_law_k"]:List Str)) _ (Yy 0) _ _ ZQ.nd rfl (.inl rfl) (.own .nil) rfl (@Xk _ _ _ _ _ _ rfl Zt (@Ya _ _ _ _ _ (pv 2) Yc (by rfl)) (by rfl)) (fun cl C s₀ H₀ fp pn=>(@Yx _ _ (0) _ (show List.Nodup (["_law_k"]:List Str) by decide +kernel) rfl (.inl rfl) (.inr rfl))) (fun cl C s₀ H₀ fp pn=>Xb) (fun cl C s₀ H₀ fp pn=>Yf) (by intro x hx;simp at hx) (by rfl) (by decide) (by decide +kernel) (by intro _;rfl) (by rfl) (by first | exact .inl rfl | exact .inr rfl | assumption)) (@Ye _ _ _ _ _ (@Q1 _ _ _ _ _ _ (@YH _ _ _ _ _ _ _ _ _ _ _ _ Z3R hr (@Ya _ _ _ _ _ (pv 0) (@Ya _ _ _ _ _ (pv 4) Yc (by rfl)) (by rfl)) (by omega) (by rfl) (by rfl) (by decide) (by rfl) (by rfl)) (@YcS _ _ _ _ _ _ _ (pv 5) (@Yl _ _ _ _ _ _ _ _ Xg Yf (pv 2)) Yaa (by intro _;rfl)) (by rfl) (by rfl) (by rfl)) (@Ye _ _ _ _ _ (@XO _ _ _ _ _ _ _ _ PassesOwn.never rfl (@Ql _ _ _ _ _ _ _ rfl Zt (@Ya _ _ _ _ _ Yf (@Ya _ _ _ _ _ (@Yl _ _ _ _ _ _ _ _ Xm (pv 4) Yf) Yc (by rfl)) (by rfl)) (by rfl) (by rfl)) (@Yx _ _ (6) _ ZQ.nd rfl (.inl rfl) (by first | exact .inl rfl | exact .inr rfl | assumption)) (@Ye _ _ _ _ _ (@Yq _ _ (7) _ _ _ _ ZQ.nd rfl (.inl rfl) (@Yl _ _ _ _ _ _ _ _ Xm (@Yl _ _ _ _ _ _ _ _ Xm (pv 4) Yf) (pv 6)) (by rfl) (by first | exact .inl rfl | exact .inr rfl | assumption)) (@Yh _ _ _ (@XO _ _ _ _ _ _ _ _ PassesOwn.never rfl (@Xk _ _ _ _ _ _ rfl Zt (@Ya _ _ _ _ _ (pv 2) Yc (by rfl)) (by rfl)) (@Yx _ _ (8) _ ZQ.nd rfl (.inl rfl) (by first | exact .inl rfl | exact .inr rfl | assumption)) (@Yh _ _ _ (@XO _ _ _ _ _ _ _ _ PassesOwn.never rfl (@Xk _ _ _ _ _ _ rfl Zt (@Ya _ _ _ _ _ (pv 2) Yc (by rfl)) (by rfl)) (@Yx _ _ (9) _ ZQ.nd rfl (.inl rfl) (by first | exact .inl rfl | exact .inr rfl | assumption)) (@Ye _ _ _ _ _ (@Yq _ _ (10) _ _ _ _ ZQ.nd rfl (.inl rfl) (@Yl _ _ _ _ _ _ _ _ Xw (@Yn _ _ _ _ _ _ _ Yw (@Yn _ _ _ _ _ _ _ Yw (pv 3) (pv 6) (fun _ _=>rfl)) (pv 8) (fun _ _=>rfl)) (@Yn _ _ _ _ _ _ _ Yw (@Yn _ _ _ _ _ _ _ Yw (pv 3) (pv 7) (fun _ _=>rfl)) (pv 9) (fun _ _=>rfl))) (by rfl) (by first | exact .inl rfl | exact .inr rfl | assumption)) (@Ye _ _ _ _ _ (@Yq _ _ (11) _ _ _ _ ZQ.nd rfl (.inl rfl) (@Yl _ _ _ _ _ _ _ _ Xg (@Yl _ _ _ _ _ _ _ _ YQ (pv 8) (pv 9)) (pv 2)) (by rfl) (by first | exact .inl rfl | exact .inr rfl | assumption)) (@Yh _ _ _ (@Q1 _ _ _ _ _ _ (@Yl _ _ _ _ _ _ _ _ YQ (@Yn _ _ _ _ _ _ _ Yw (pv 5) (pv 11) (fun _ _=>rfl)) (pv 10)) (@YcS _ _ _ _ _ _ _ (pv 5) (pv 11) Yaa (by intro _;rfl)) (by rfl) (by rfl) (by rfl))))) (by intro _;rfl))) (by intro _;rfl)))) (by intro _;rfl)) (@Yh _ _ _ (@Y2 _ _ _ _ (@WX _ _ _ _ _ _ _ _ _ _ _ _ PySem.F.plainAttrs_list PySem.F.slot_list_append PySem.F.type_list_append Xn (pv 3) (@Ya _ _ _ _ _ (pv 5) Yc (by rfl)) (by rfl) (by rfl) (by rfl) (by rfl) (by rfl)) (by rfl)))))) (by intro _;rfl)) (@Yh _ _ _ (@Ym _ _ _ _ (pv 3))))),?_⟩
 have t0:0<tm:=by omega
 have t3:tm≤3:=by omega
 refine Yr fun R rr=>?_
 walk_at "rd"
 refine Vo (n:=tm) (nts (List.replicate tm 0)) (fun R r=>by walk_at "rd";exact r) (by simp) (by omega) ?_ ?_
 ·intro k y H' hk hy sm R r
  rw [Vh (by simpa using hk)] at hy
  have e:(List.replicate tm 0).getD k 0=0:=by simp [List.getD_eq_getElem?_getD,List.getElem?_replicate];split<;>rfl
  rw [e] at hy
  cases Option.some.inj hy
  walk_at "rd"
  exact r H' (.refl _)
 intro r0 H1 hr0 s1 hd0
 refine ⟨few (by decide),fun p hp=>rr _ _ (Yr fun R rr=>?_)⟩
 have sp1:=Yk.upd_new hp (.lst [.ref r0])
 refine Uf (lo:=1) (j:=11+1) (n:=11) (fun i σ H'=>∃ o4 o5 o6 o7 o8 o9 o10 o11,σ=[some (V.int sp),some (V.int 11),some (V.int tm),some (V.ref p),o4,o5,o6,o7,o8,o9,o10,o11]∧WS H' p (tab sp tm i)∧Yk H H') (fun R r=>by walk_at "rd";exact r) (by decide) rfl ⟨none,none,none,none,none,none,none,none,rfl,⟨[r0],Yg,rfl,fun i r row e1 e2=>?_⟩,s1.trans sp1⟩ ?_ ?_
 ·cases i with
  | zero=>cases Option.some.inj e1;cases Option.some.inj e2;exact sp1 _ _ hd0
  | succ i=>simp at e1
 ·rintro i σ H' hi ⟨o4,o5,o6,o7,o8,o9,o10,o11,rfl,hT,sH⟩
  refine Yr fun R rr=>?_
  walk_at "rd"
  refine Vo (n:=tm) (nts (List.replicate tm 0)) (fun R r=>by walk_at "rd";exact r) (by simp) (by omega) ?_ ?_
  ·intro k y H' hk hy sm R r
   rw [Vh (by simpa using hk)] at hy
   have e:(List.replicate tm 0).getD k 0=0:=by simp [List.getD_eq_getElem?_getD,List.getElem?_replicate];split<;>rfl
   rw [e] at hy
   cases Option.some.inj hy
   walk_at "rd"
   exact r H' (.refl _)
  intro rw_ H2 gR s2 hd2
  refine rr _ _ (Yr fun R rr=>?_)
  walk_at "rd"
  refine ⟨sp,i+1,by rw [Int.add_comm];rfl,by omega,by omega,by omega,?_⟩
  have e1:(1:Int)%(tm:Int)=((1%tm:Nat):Int):=by rw [Int.natCast_emod];rfl
  rw [e1]
  refine ⟨by omega,_,hd2,_,YbH (by simp;exact Nat.mod_lt _ t0),rr _ _ (Yr fun R rr=>?_)⟩
  rw [YbI]
  have sb0:SameBut rw_ H2 (upd H2 rw_ (.lst (nts (Vz sp tm (i+1))))):=fun b o nb e=>by rw [Yd nb];exact e
  have gR':H' rw_=none:=gR
  have bt:∀ {Hx:Hp},SameBut rw_ H2 Hx→SameBut rw_ H' Hx:=fun h b o nb e=>h b o nb (s2 _ _ e)
  refine Uf (lo:=1) (j:=1+(i:Int) - 1) (n:=i - 1) (fun k σ Hx=>∃ o6 o7 o8 o9 o10 o11,σ=[some (V.int sp),some (V.int 11),some (V.int tm),some (V.ref p),some (V.int (1+(i:Int))),some (V.ref rw_),o6,o7,o8,o9,o10,o11]∧SameBut rw_ H2 Hx∧Hx rw_=some (.lst (nts ((List.range k).foldl (YaG (tab sp tm i) tm (i+1)) (Vz sp tm (i+1)))))) (fun R r=>by walk_at "rd";exact r) (by omega) (by omega) ⟨_,_,_,_,_,_,rfl,sb0,Yg⟩ ?_ ?_
  ·rintro k σ Hx hk ⟨o6,o7,o8,o9,o10,o11,rfl,sb,hr⟩
   have hT2:=hT.but gR' (bt sb)
   obtain ⟨A1,A2⟩:=UM hsp htm (n:=i) (by omega) (i:=k+1) (by omega)
   obtain ⟨B1,B2⟩:=UM hsp htm (n:=i) (by omega) (i:=i+1 - 1 - (k+1)) (by omega)
   have hl0:((List.range k).foldl (YaG (tab sp tm i) tm (i+1)) (Vz sp tm (i+1))).length=tm:=by rw [Wk (Yey _ tm _),Yez]
   rw [show ∀ f:List Nat→Nat→List Nat,(List.range (k+1)).foldl f (Vz sp tm (i+1))=f ((List.range k).foldl f (Vz sp tm (i+1))) k from fun f=>VS f _ k]
   generalize (List.range k).foldl (YaG (tab sp tm i) tm (i+1)) (Vz sp tm (i+1))=rk at hr hl0 ⊢
   refine Yr fun R rr=>?_
   walk_at "rd"
   refine rr _ _ ?_
   refine Wp (n:=tm) (fun a σ Hy=>∃ o8 o9 o10 o11,σ=[some (V.int sp),some (V.int 11),some (V.int tm),some (V.ref p),some (V.int (1+(i:Int))),some (V.ref rw_),some (V.int (1+(k:Int))),some (V.int (1+(i:Int) - 1 - (1+(k:Int)))),o8,o9,o10,o11]∧SameBut rw_ H2 Hy∧Hy rw_=some (.lst (nts ((List.range a).foldl (YaF ((tab sp tm i).getD (k+1) []) ((tab sp tm i).getD (i+1 - 1 - (k+1)) []) tm) rk)))) (fun R r=>by walk_at "rd";exact r) (by omega) ⟨_,_,_,_,rfl,sb,hr⟩ ?_ ?_
   ·rintro a σ Hy ha ⟨o8,o9,o10,o11,rfl,sb,hr⟩
    have hl1:((List.range a).foldl (YaF ((tab sp tm i).getD (k+1) []) ((tab sp tm i).getD (i+1 - 1 - (k+1)) []) tm) rk).length=tm:=by rw [Wk (YaL _ _ tm),hl0]
    rw [show ∀ f:List Nat→Nat→List Nat,(List.range (a+1)).foldl f rk=f ((List.range a).foldl f rk) a from fun f=>VS f rk a]
    generalize (List.range a).foldl (YaF ((tab sp tm i).getD (k+1) []) ((tab sp tm i).getD (i+1 - 1 - (k+1)) []) tm) rk=ra at hr hl1 ⊢
    refine Wp (n:=tm) (fun j σ Hz=>∃ o9 o10 o11,σ=[some (V.int sp),some (V.int 11),some (V.int tm),some (V.ref p),some (V.int (1+(i:Int))),some (V.ref rw_),some (V.int (1+(k:Int))),some (V.int (1+(i:Int) - 1 - (1+(k:Int)))),some (V.int a),o9,o10,o11]∧SameBut rw_ H2 Hz∧Hz rw_=some (.lst (nts ((List.range j).foldl (Qi ((tab sp tm i).getD (k+1) []) ((tab sp tm i).getD (i+1 - 1 - (k+1)) []) tm a) ra)))) (fun R r=>by walk_at "rd";exact r) (by omega) ⟨_,_,_,rfl,sb,hr⟩ ?_ ?_
    ·rintro j σ Hz hj ⟨o9,o10,o11,rfl,sb,hr⟩
     have hT3:=hT.but gR' (bt sb)
     have hl2:((List.range j).foldl (Qi ((tab sp tm i).getD (k+1) []) ((tab sp tm i).getD (i+1 - 1 - (k+1)) []) tm a) ra).length=tm:=by rw [Wk (YaK _ _ tm a),hl1]
     rw [show ∀ f:List Nat→Nat→List Nat,(List.range (j+1)).foldl f ra=f ((List.range j).foldl f ra) j from fun f=>VS f ra j]
     generalize (List.range j).foldl (Qi ((tab sp tm i).getD (k+1) []) ((tab sp tm i).getD (i+1 - 1 - (k+1)) []) tm a) ra=rj at hr hl2 ⊢
     have hlT:=Vg sp tm i
     obtain ⟨rs,ra1,d1,d2,d3⟩:=hT3.row (i:=k+1) (by omega)
     obtain ⟨rs',rb1,d1',e2,e3⟩:=hT3.row (i:=i+1 - 1 - (k+1)) (by omega)
     generalize (tab sp tm i).getD (k+1) []=TA at A1 A2 d3 ⊢
     generalize (tab sp tm i).getD (i+1 - 1 - (k+1)) []=TB at B1 B2 e3 ⊢
     refine Yr fun R rr=>?_
     walk_at "rd"
     rw [show (1:Int)+(k:Int)=((k+1:Nat):Int) by omega,show (1:Int)+(i:Int) - 1 - ((k+1:Nat):Int)=((i+1 - 1 - (k+1):Nat):Int) by omega]
     have ia:a<TA.length:=by omega
     have ib:j<TB.length:=by omega
     have mA:TA.getD a 0<2^30:=A2 _ (by rw [List.getD_eq_getElem?_getD,List.getElem?_eq_getElem ia];exact List.getElem_mem _)
     have mB:TB.getD j 0<2^30:=B2 _ (by rw [List.getD_eq_getElem?_getD,List.getElem?_eq_getElem ib];exact List.getElem_mem _)
     refine ⟨_,SqL.of d1,_,Yu (by rw [List.getElem?_map,d2];rfl),ra1,rfl,_,SqL.of d3,_,Yu (Vh ia),_,SqL.of d1',_,Yu (by rw [List.getElem?_map,e2];rfl),rb1,rfl,_,SqL.of e3,_,Yu (Vh ib),_,rfl,_,rfl,.inl (cm (m:=30) (n:=30) (by omega) (by omega)),rr _ _ (Yr fun R rr=>?_)⟩
     walk_at "rd"
     refine ⟨by omega,rr _ _ ?_⟩
     have em:((a:Int)+(j:Int))%(tm:Int)=(((a+j)%tm:Nat):Int):=by rw [Int.natCast_emod];rfl
     have hm:(a+j)%tm<rj.length:=by rw [hl2];exact Nat.mod_lt _ t0
     rw [em]
     walk_at "rd"
     refine ⟨_,SqL.of hr,_,Yu (Vh hm),_,rfl,_,hr,_,YbH (by rw [List.length_map];exact hm),by omega,by omega,fun b o nb e=>by rw [Yd nb];exact sb b o nb e,?_⟩
     rw [Yg,← Int.natCast_mul,← Int.natCast_add,YbI]
     rfl
    ·rintro σ Hz ⟨o9,o10,o11,rfl,sb,hr⟩
     exact ⟨_,_,_,_,rfl,sb,hr⟩
   ·rintro σ Hy ⟨o8,o9,o10,o11,rfl,sb,hr⟩
    exact ⟨_,_,_,_,_,_,rfl,sb,hr⟩
  ·rintro σ Hx ⟨o6,o7,o8,o9,o10,o11,rfl,sb,hr⟩
   refine rr _ _ ?_
   walk_at "rd"
   obtain ⟨rs,h1,h2,h3⟩:=hT.but gR' (bt sb)
   have hlT:=Vg sp tm i
   have pR:p≠rw_:=by
    obtain ⟨rs',h1',_⟩:=hT
    exact Yj h1' gR'
   have nep:∀ {b:Addr} {xs:List Nat},Hx b=some (.lst (nts xs))→b≠p:=fun {b xs} e z=>by
    rw [z,h1] at e
    injection e with e;injection e with e
    cases rs with
    | nil=>simp at h2;omega
    | cons r rs=>cases xs with
     | nil=>cases e
     | cons x xs=>injection e with e;cases e
   refine ⟨.inl ⟨rfl,_,SqL.of h1⟩,_,h1,few (by simp;omega),⟨rs++[rw_],by rw [Yg,List.map_append];rfl,by rw [List.length_append,h2,tab,List.length_append];rfl,fun j r row e1 e2=>?_⟩,fun b o e=>?_⟩
   ·by_cases c:j<rs.length
    ·rw [List.getElem?_append_left c] at e1
     rw [tab,List.getElem?_append_left (by omega)] at e2
     have:=h3 j r row e1 e2
     rw [Yd (nep this)]
     exact this
    ·have hj:j=rs.length:=by
      have:=(List.getElem?_eq_some_iff.mp e1).1
      rw [List.length_append,List.length_singleton] at this
      omega
     subst hj
     rw [List.getElem?_append_right (Nat.le_refl _),Nat.sub_self] at e1
     rw [tab,h2,List.getElem?_append_right (Nat.le_refl _),Nat.sub_self] at e2
     cases Option.some.inj e1
     cases Option.some.inj e2
     rw [Yd (Ne.symm pR)]
     exact hr
   ·rw [Yd (Yj (s1 _ _ e) hp)]
    exact sb b o (Yj (sH _ _ e) gR') (s2 _ _ (sH _ _ e))
 ·rintro σ H' ⟨o4,o5,o6,o7,o8,o9,o10,o11,rfl,hT,sH⟩
  refine rr _ _ ?_
  walk_at "rd"
  exact q p H' sH hT
inductive sp_llg (K:PySem.W.Frag) (vs:List V) (H:Hp) (Q:VK) (E_:XK):Prop
 | mk (D:Addr) (T:List (List Nat)) (want:Nat) (h0:vs=[.ref D,.int (want:Nat)]) (h1:WS H D T) (h2:T.length=12) (h3:want<12) (h4:(∀ row∈T,row.length≤3)) (h5:Q (.int (lgF T want 12 0:Nat)) H)
theorem YbJ (l:List Nat):(l.map fun x=>((x:Nat):Int)).sum=((l.sum:Nat):Int):=by
 induction l with
 | nil=>rfl
 | cons a l ih=>rw [List.map_cons,List.sum_cons,ih,List.sum_cons,Int.natCast_add]
theorem YfH {T:List (List Nat)} {want s:Nat} (h:¬ (s<want∧(T.getD (s+1) []).sum≤60)):∀ n,lgF T want n s=s
 | 0=>rfl
 | n+1=>by rw [lgF,if_neg h]
theorem Z47 {Z6 Z5 Z1 Z2 Z4 Z3 Z0:Addr} {c_law P_law:Addr} (R:g.Raw "_law_largest" "_law_largest" Z1Q ["_law_table_here","_law_want"]) (b_sum:g.mg "sum"=none):g.Fn (1) "_law_largest" ["_law_table_here","_law_want"] (sp_llg g.K):=by
 refine R.fn Z1K (fun vs H Q E h=>by obtain ⟨D,T,want,rfl,hT,hl,hw,hr3,q⟩:=h;rfl) fun f_ cdv A outer s H vs Q E hr h=>?_
 obtain ⟨D,T,want,rfl,hT,hl,hw,hr3,q⟩:=h
 refine ⟨_,(@Ye _ _ _ _ _ (@Yq _ _ (2) _ _ _ _ Z1K.nd rfl (.inl rfl) Yf (by rfl) (by first | exact .inl rfl | exact .inr rfl | assumption)) (@Ye _ _ _ _ _ (@XS _ _ _ _ _ _ PassesOwn.never (@QW _ _ _ _ _ _ _ (@Yt _ _ _ _ _ _ _ _ QJ (pv 2) (pv 1) (Yv _)) (@Ya8 _ _ _ _ (@Yt _ _ _ _ _ _ _ _ WW (@YI _ _ _ _ _ _ _ _ _ _ b_sum XR (@Ya _ _ _ _ _ (@Yn _ _ _ _ _ _ _ Yw (pv 0) (@Yl _ _ _ _ _ _ _ _ YQ (pv 2) Yf) (fun _ _=>rfl)) Yc (by rfl)) (by decide +kernel) (by rfl) (by rfl) (by decide) (by decide) (by rfl) (by rfl)) Yf (Yv _)))).pt (@Yh _ _ _ (@Yq _ _ (2) _ _ _ _ Z1K.nd rfl (.inl rfl) (@Yl _ _ _ _ _ _ _ _ YQ (pv 2) Yf) (by rfl) (by first | exact .inl rfl | exact .inr rfl | assumption)))) (@Yh _ _ _ (@Ym _ _ _ _ (pv 2))))),?_⟩
 refine Yr fun R rr=>?_
 walk_at "rd"
 refine rr _ _ (Yr fun R2 rr2=>?_)
 refine Xd (α:=Nat) (fun s σ H'=>σ=[some (.ref D),some (.int want),some (.int (s:Nat))]∧H'=H∧s≤want∧lgF T want (12 - s) s=lgF T want 12 0) (fun s=>decide (s<want∧(T.getD (s+1) []).sum≤60)) (fun s=>want - s) 0 ⟨rfl,rfl,by omega,rfl⟩ ?_ ?_ ?_
 ·rintro s σ H' ⟨rfl,rfl,hs,he⟩ R r
  walk_at "rd"
  refine UV (fun c=>?_) (fun c=>?_)
  ·obtain ⟨rs,r1,d1,d2,d3⟩:=hT.row (i:=s+1) (by omega)
   refine ⟨_,SqL.of d1,_,Yu (j:=s+1) (by rw [List.getElem?_map,d2];rfl),r1,rfl,_,SqL.of (by rw [d3];congr 2;exact (List.map_map (f:=fun x:Nat=>(x:Int)) (g:=V.int)).symm),?_⟩
   have:=r H' ⟨rfl,rfl,hs,he⟩
   rw [YbJ]
   rw [show decide (s<want∧(T.getD (s+1) []).sum≤60)=decide (((T.getD (s+1) []).sum:Int)≤60) by
    have:s<want:=by omega
    simp only [this,true_and]
    exact decide_eq_decide.mpr (by omega)] at this
   exact this
  ·have:=r H' ⟨rfl,rfl,hs,he⟩
   rw [decide_eq_false (by omega)] at this
   exact this
 ·rintro s σ H' ⟨rfl,rfl,hs,he⟩ hc
  have hc:=of_decide_eq_true hc
  walk_at "rd"
  refine ⟨s+1,rfl,by omega,?_,by omega⟩
  ·rw [← he,show 12 - s=(12 - (s+1))+1 by omega,lgF,if_pos hc]
 ·rintro s σ H' ⟨rfl,rfl,hs,he⟩ hc
  have hc:=of_decide_eq_false hc
  refine rr2 _ _ ?_
  walk_at "rd"
  rw [← he,YfH hc] at q
  exact q
theorem XE {H:Hp} {v:V} {d e:PyData} (h:Vt H v (.tuple [d,e])):∃ a x y,v = .ref a∧H a=some (.tup [x,y])∧Vt H x d∧Vt H y e:=by
 cases h with
 | tup _ h1 h2 =>
  cases h2 with
  | cons a1 h2 =>
   cases h2 with
   | cons a2 h2 =>
    cases h2
    exact ⟨_,_,_,rfl,h1,a1,a2⟩
theorem YaN {H:Hp} {v:V} {i:Int} (h:Vt H v (.int i)):v = .int i:=by cases h;rfl
theorem WT {H:Hp} {v:V} {x:Str} (h:Vt H v (.str x)):v = .str x:=by cases h;rfl
structure Gd (sp:Nat) (t:Tt):Prop where
 sz:szT sp t≠0
 dp:dpT t≤6
theorem QT {sp:Nat} {a b:Tt} (h:szT sp (.nd a b)≠0):szT sp a≠0∧szT sp b≠0∧szT sp (.nd a b)=1+szT sp a+szT sp b:=by
 rw [szT] at h ⊢
 split at h
 ·exact absurd rfl h
 ·next c =>
  refine ⟨fun z=>c (.inl z),fun z=>c (.inr z),?_⟩
  rw [if_neg c]
theorem YcH {sp o:Nat} (h:szT sp (.lf o)≠0):o≤sp∧szT sp (.lf o)=1+Builtin.Int.intBits o:=by
 rw [szT] at h ⊢
 split at h
 ·next c=>exact ⟨c,if_pos c⟩
 ·exact absurd rfl h
theorem Qj (t:Tt):1≤dpT t:=by cases t<;>simp [dpT]
theorem YaO {a b:Tt} {m:Nat} (h:dpT (.nd a b)≤m+1):dpT a≤m∧dpT b≤m:=by rw [dpT] at h;omega
def WU (H:Hp) (M:Addr) (m0 m1:List Nat):Prop:=H M=some (.lst [.str (S m0),.str (S m1)])
inductive sp_lsz (K:PySem.W.Frag) (m:Nat) (vs:List V) (H:Hp) (Q:VK) (E_:XK):Prop
 | mk (v:V) (M:Addr) (lo:Int) (sp:Nat) (m0 m1:List Nat) (t:Tt) (h0:vs=[v,.ref M,.int lo,.int (sp:Nat)]) (h1:Vt H v (tdT lo m0 m1 t)) (h2:WU H M m0 m1) (h3:m0≠m1) (h4:szT sp t≠0) (h5:dpT t≤m) (h6:Q (.int (szT sp t:Nat)) H)
theorem Ygs {K:PySem.W.Frag} {vs:List V} {H:Hp} {Q:VK} {E:XK} (h:sp_lsz K 0 vs H Q E):False:=by
 obtain ⟨v,M,lo,sp,m0,m1,t,_,_,_,_,_,h,_⟩:=h
 have:=Qj t
 omega
theorem Z2t {k:Nat} {Z6 Z5 Z1 Z2 Z4 Z3 Z0:Addr} {c_law P_law:Addr} (R:g.Raw "_law_size_of" "_law_size_of" Z1P ["_law_value","_law_marks","_law_low","_law_span"]) (F_law_whole:g.Fn k "_law_whole" ["_law_found"] (sp_lwh)) (Z17:g.Fn k "_law_size_of" ["_law_value","_law_marks","_law_low","_law_span"] (sp_lsz g.K m)) (Zs:g.mg "isinstance"=none) (b_len:g.mg "len"=none) (b_str:g.mg "str"=none) (ZX:g.mg "tuple"=none):g.Fn (k+1) "_law_size_of" ["_law_value","_law_marks","_law_low","_law_span"] (sp_lsz g.K (m+1)):=by
 refine R.fn Z0a (fun vs H Q E h=>by obtain ⟨v,M,lo,sp,m0,m1,t,rfl,hv,hM,hne,hsz,hdp,q⟩:=h;rfl) fun f_ cdv A outer s H vs Q E hr h=>?_
 obtain ⟨v,M,lo,sp,m0,m1,t,rfl,hv,hM,hne,hsz,hdp,q⟩:=h
 refine ⟨_,(@Ye _ _ _ _ _ (@YV _ _ _ _ _ _ _ _ (@VX _ _ _ _ _ _ _ (@Us _ _ _ _ (@X0 _ _ _ (@YI _ _ _ _ _ _ _ _ _ _ Zs Y5 (@Ya _ _ _ _ _ (pv 0) (@Ya _ _ _ _ _ (@WC _ _ _ _ ("tuple") ZX (by decide +kernel) (by rfl) (by rfl) (by decide) (by decide)) Yc (by rfl)) (by rfl)) (by decide +kernel) (by rfl) (by rfl) (by decide) (by decide) (by rfl) (by rfl)) (by intro _;rfl))) (@VX _ _ _ _ _ _ _ (@Yt _ _ _ _ _ _ _ _ VY (@YI _ _ _ _ _ _ _ _ _ _ b_len YA (@Ya _ _ _ _ _ (pv 0) Yc (by rfl)) (by decide +kernel) (by rfl) (by rfl) (by decide) (by decide) (by rfl) (by rfl)) Yf (Yv _)) (@Ur _ _ _ _ (@Us _ _ _ _ (@X0 _ _ _ (@YI _ _ _ _ _ _ _ _ _ _ Zs Y5 (@Ya _ _ _ _ _ (@Yn _ _ _ _ _ _ _ YL (pv 0) Yf (fun _ _=>rfl)) (@Ya _ _ _ _ _ (@WC _ _ _ _ ("str") b_str (by decide +kernel) (by rfl) (by rfl) (by decide) (by decide)) Yc (by rfl)) (by rfl)) (by decide +kernel) (by rfl) (by rfl) (by decide) (by decide) (by rfl) (by rfl)) (by intro _;rfl)))))).pt (@Yh _ _ _ (@Ym _ _ _ _ Yf)) YJ) (@Ye _ _ _ _ _ (@Q1 _ _ _ _ _ _ (pv 0) (@VD _ _ _ _ _ (2) rfl (@Xq _ _ _ _ _ (@Yx _ _ (4) _ Z0a.nd rfl (.inl rfl) (by first | exact .inl rfl | exact .inr rfl | assumption)) (@Xq _ _ _ _ _ (@Yx _ _ (5) _ Z0a.nd rfl (.inl rfl) (by first | exact .inl rfl | exact .inr rfl | assumption)) W6 (by rfl)) (by rfl)) (by rfl) (by rfl)) (by rfl) (by rfl) (by rfl)) (@Ye _ _ _ _ _ (@YV _ _ _ _ _ _ _ _ (@QW _ _ _ _ _ _ _ (@Yt _ _ _ _ _ _ _ _ Xa (pv 4) (@Yn _ _ _ _ _ _ _ Yw (pv 1) Yf (fun _ _=>rfl)) (Yv _)) (@QW _ _ _ _ _ _ _ (@X0 _ _ _ (@YH _ _ _ _ _ _ _ _ _ _ _ _ F_law_whole hr (@Ya _ _ _ _ _ (pv 5) Yc (by rfl)) (by omega) (by rfl) (by rfl) (by decide) (by rfl) (by rfl)) (by intro _;rfl)) (@Ya8 _ _ _ _ (@YdV _ _ _ _ _ _ _ _ _ _ _ _ WW WW (pv 2) (pv 5) (@Yl _ _ _ _ _ _ _ _ YQ (pv 2) (pv 3)) (by with_unfolding_all rfl))))).pt (@Yh _ _ _ (@Ym _ _ _ _ (@Yl _ _ _ _ _ _ _ _ YQ Yf (@Yf0 _ _ _ _ _ _ _ _ _ PySem.F.plainAttrs_int PySem.F.slot_int_bit_length PySem.F.type_int_bit_length Yfm (@Yl _ _ _ _ _ _ _ _ Xm (pv 5) (pv 2)) (by rfl) (by rfl))))) YJ) (@Ye _ _ _ _ _ (@YV _ _ _ _ _ _ _ _ (@VX _ _ _ _ _ _ _ (@Yt _ _ _ _ _ _ _ _ VY (pv 4) (@Yn _ _ _ _ _ _ _ Yw (pv 1) Yf (fun _ _=>rfl)) (Yv _)) (@VX _ _ _ _ _ _ _ (@Us _ _ _ _ (@X0 _ _ _ (@YI _ _ _ _ _ _ _ _ _ _ Zs Y5 (@Ya _ _ _ _ _ (pv 5) (@Ya _ _ _ _ _ (@WC _ _ _ _ ("tuple") ZX (by decide +kernel) (by rfl) (by rfl) (by decide) (by decide)) Yc (by rfl)) (by rfl)) (by decide +kernel) (by rfl) (by rfl) (by decide) (by decide) (by rfl) (by rfl)) (by intro _;rfl))) (@Ur _ _ _ _ (@Yt _ _ _ _ _ _ _ _ VY (@YI _ _ _ _ _ _ _ _ _ _ b_len YA (@Ya _ _ _ _ _ (pv 5) Yc (by rfl)) (by decide +kernel) (by rfl) (by rfl) (by decide) (by decide) (by rfl) (by rfl)) Yf (Yv _))))).pt (@Yh _ _ _ (@Ym _ _ _ _ Yf)) YJ) (@Ye _ _ _ _ _ (@Yq _ _ (6) _ _ _ _ Z0a.nd rfl (.inl rfl) (@YH _ _ _ _ _ _ _ _ _ _ _ _ Z17 hr (@Ya _ _ _ _ _ (@Yn _ _ _ _ _ _ _ YL (pv 5) Yf (fun _ _=>rfl)) (@Ya _ _ _ _ _ (pv 1) (@Ya _ _ _ _ _ (pv 2) (@Ya _ _ _ _ _ (pv 3) Yc (by rfl)) (by rfl)) (by rfl)) (by rfl)) (by omega) (by rfl) (by rfl) (by decide) (by rfl) (by rfl)) (by rfl) (by first | exact .inl rfl | exact .inr rfl | assumption)) (@Ye _ _ _ _ _ (@Yq _ _ (7) _ _ _ _ Z0a.nd rfl (.inl rfl) (@YH _ _ _ _ _ _ _ _ _ _ _ _ Z17 hr (@Ya _ _ _ _ _ (@Yn _ _ _ _ _ _ _ YL (pv 5) Yf (fun _ _=>rfl)) (@Ya _ _ _ _ _ (pv 1) (@Ya _ _ _ _ _ (pv 2) (@Ya _ _ _ _ _ (pv 3) Yc (by rfl)) (by rfl)) (by rfl)) (by rfl)) (by omega) (by rfl) (by rfl) (by decide) (by rfl) (by rfl)) (by rfl) (by first | exact .inl rfl | exact .inr rfl | assumption)) (@Ye _ _ _ _ _ (@YV _ _ _ _ _ _ _ _ (@VX _ _ _ _ _ _ _ (@Yt _ _ _ _ _ _ _ _ Xa (pv 6) Yf (Yv _)) (@Ur _ _ _ _ (@Yt _ _ _ _ _ _ _ _ Xa (pv 7) Yf (Yv _)))).pt (@Yh _ _ _ (@Ym _ _ _ _ Yf)) YJ) (@Yh _ _ _ (@Ym _ _ _ _ (@Yl _ _ _ _ _ _ _ _ YQ (@Yl _ _ _ _ _ _ _ _ YQ Yf (pv 6)) (pv 7))))))))))),?_⟩
 have hS:S m1≠S m0:=fun z=>hne (Vn z.symm)
 have hM':H M=some (.lst [.str (S m0),.str (S m1)]):=hM
 cases t with
 | lf o =>
  rw [tdT] at hv
  obtain ⟨a,x,y,rfl,ha,hx,hy⟩:=XE hv
  cases WT hx
  cases YaN hy
  obtain ⟨h1,h2⟩:=YcH hsz
  refine Yr fun R rr=>?_
  walk_at "rd"
  refine ⟨_,rfl,_,.tup ha,true,rfl,?_⟩
  walk_at "rd"
  refine ⟨_,.inr (SqT.of ha),YZ (by simp) ⟨_,SqT.of ha,_,rfl,_,rfl,_,.str _,true,rfl,?_⟩⟩
  walk_at "rd"
  refine rr _ _ (Yr fun R rr=>?_)
  walk_at "rd"
  refine ⟨_,SqT.of ha,rfl,_,_,rfl,_,_,rfl,rfl,rr _ _ (Yr fun R rr=>?_)⟩
  walk_at "rd"
  refine ⟨_,SqL.of hM',_,rfl,rfl,X3 rfl ⟨_,rfl,_,rfl,iteT (X3 (by omega) (X3 (by omega) ⟨?_,?_⟩))⟩⟩
  ·rfl
  ·rw [h2] at q
   rw [show lo+(o:Int) - lo=o by omega]
   exact q
 | nd b c =>
  rw [tdT] at hv
  obtain ⟨a,x,y,rfl,ha,hx,hy⟩:=XE hv
  cases WT hx
  obtain ⟨a',x',y',rfl,ha',hx',hy'⟩:=XE hy
  obtain ⟨h1,h2,h3⟩:=QT hsz
  obtain ⟨h4,h5⟩:=YaO hdp
  refine Yr fun R rr=>?_
  walk_at "rd"
  refine ⟨_,rfl,_,.tup ha,true,rfl,?_⟩
  walk_at "rd"
  refine ⟨_,.inr (SqT.of ha),YZ (by simp) ⟨_,SqT.of ha,_,rfl,_,rfl,_,.str _,true,rfl,?_⟩⟩
  walk_at "rd"
  refine rr _ _ (Yr fun R rr=>?_)
  walk_at "rd"
  refine ⟨_,SqT.of ha,rfl,_,_,rfl,_,_,rfl,rfl,rr _ _ (Yr fun R rr=>?_)⟩
  walk_at "rd"
  refine ⟨_,SqL.of hM',_,rfl,rfl,YZ (fun z=>hS (V.str.inj z)) (rr _ _ (Yr fun R rr=>?_))⟩
  walk_at "rd"
  refine ⟨_,SqL.of hM',_,rfl,rfl,YZ (fun z=>z rfl) ⟨_,rfl,_,.tup ha',true,rfl,?_⟩⟩
  walk_at "rd"
  refine ⟨_,.inr (SqT.of ha'),YZ (by simp) (rr _ _ (Yr fun R rr=>?_))⟩
  walk_at "rd"
  refine ⟨_,SqT.of ha',_,rfl,x',M,lo,sp,m0,m1,b,rfl,hx',hM,hne,h1,h4,rr _ _ (Yr fun R rr=>?_)⟩
  walk_at "rd"
  refine ⟨_,SqT.of ha',_,rfl,y',M,lo,sp,m0,m1,c,rfl,hy',hM,hne,h2,h5,rr _ _ (Yr fun R rr=>?_)⟩
  walk_at "rd"
  refine YZ (by omega) (YZ (by omega) (rr _ _ ?_))
  walk_at "rd"
  rw [h3] at q
  exact q
inductive sp_llv (K:PySem.W.Frag) (m:Nat) (vs:List V) (H:Hp) (Q:VK) (E_:XK):Prop
 | mk (v:V) (M:Addr) (lo:Int) (m0 m1:List Nat) (t:Tt) (h0:vs=[v,.ref M]) (h1:Vt H v (tdT lo m0 m1 t)) (h2:WU H M m0 m1) (h3:m0≠m1) (h4:dpT t≤m) (h5:Q (.int (lvs t:Nat)) H)
theorem Ygt {K:PySem.W.Frag} {vs:List V} {H:Hp} {Q:VK} {E:XK} (h:sp_llv K 0 vs H Q E):False:=by
 obtain ⟨v,M,lo,m0,m1,t,_,_,_,_,h,_⟩:=h
 have:=Qj t
 omega
theorem Z33 {k:Nat} {Z6 Z5 Z1 Z2 Z4 Z3 Z0:Addr} {c_law P_law:Addr} (R:g.Raw "_law_leaves" "_law_leaves" Z22 ["_law_value","_law_marks"]) (Z06:g.Fn k "_law_leaves" ["_law_value","_law_marks"] (sp_llv g.K m)):g.Fn (k+1) "_law_leaves" ["_law_value","_law_marks"] (sp_llv g.K (m+1)):=by
 refine R.fn QG (fun vs H Q E h=>by obtain ⟨v,M,lo,m0,m1,t,rfl,hv,hM,hne,hdp,q⟩:=h;rfl) fun f_ cdv A outer s H vs Q E hr h=>?_
 obtain ⟨v,M,lo,m0,m1,t,rfl,hv,hM,hne,hdp,q⟩:=h
 refine ⟨_,(@Ye _ _ _ _ _ (@YV _ _ _ _ _ _ _ _ (@Yt _ _ _ _ _ _ _ _ Xa (@Yn _ _ _ _ _ _ _ YL (pv 0) Yf (fun _ _=>rfl)) (@Yn _ _ _ _ _ _ _ Yw (pv 1) Yf (fun _ _=>rfl)) (Yv _)) (@Yh _ _ _ (@Ym _ _ _ _ Yf)) YJ) (@Yh _ _ _ (@Ym _ _ _ _ (@Yl _ _ _ _ _ _ _ _ YQ (@YH _ _ _ _ _ _ _ _ _ _ _ _ Z06 hr (@Ya _ _ _ _ _ (@Yn _ _ _ _ _ _ _ YL (@Yn _ _ _ _ _ _ _ YL (pv 0) Yf (fun _ _=>rfl)) Yf (fun _ _=>rfl)) (@Ya _ _ _ _ _ (pv 1) Yc (by rfl)) (by rfl)) (by omega) (by rfl) (by rfl) (by decide) (by rfl) (by rfl)) (@YH _ _ _ _ _ _ _ _ _ _ _ _ Z06 hr (@Ya _ _ _ _ _ (@Yn _ _ _ _ _ _ _ YL (@Yn _ _ _ _ _ _ _ YL (pv 0) Yf (fun _ _=>rfl)) Yf (fun _ _=>rfl)) (@Ya _ _ _ _ _ (pv 1) Yc (by rfl)) (by rfl)) (by omega) (by rfl) (by rfl) (by decide) (by rfl) (by rfl)))))),?_⟩
 have hS:S m1≠S m0:=fun z=>hne (Vn z.symm)
 have hM':H M=some (.lst [.str (S m0),.str (S m1)]):=hM
 cases t with
 | lf o =>
  rw [tdT] at hv
  obtain ⟨a,x,y,rfl,ha,hx,hy⟩:=XE hv
  cases WT hx
  walk_at "rd"
  exact ⟨_,SqT.of ha,_,rfl,_,SqL.of hM',_,rfl,rfl,X3 rfl q⟩
 | nd b c =>
  rw [tdT] at hv
  obtain ⟨a,x,y,rfl,ha,hx,hy⟩:=XE hv
  cases WT hx
  obtain ⟨a',x',y',rfl,ha',hx',hy'⟩:=XE hy
  obtain ⟨h4,h5⟩:=YaO hdp
  refine Yr fun R rr=>?_
  walk_at "rd"
  refine ⟨_,SqT.of ha,_,rfl,_,SqL.of hM',_,rfl,rfl,YZ (fun z=>hS (V.str.inj z)) (rr _ _ ?_)⟩
  walk_at "rd"
  refine ⟨_,SqT.of ha,_,rfl,_,rfl,_,SqT.of ha',_,rfl,x',M,lo,m0,m1,b,rfl,hx',hM,hne,h4,_,SqT.of ha,_,rfl,_,rfl,_,SqT.of ha',_,rfl,y',M,lo,m0,m1,c,rfl,hy',hM,hne,h5,_,rfl,_,rfl,?_⟩
  rw [lvs,Int.natCast_add] at q
  exact q
theorem QU {lo:Int} {sp:Nat} (hlo:lo.natAbs<2^68) (hsp:sp≤3):∀ {t:Tt},szT sp t≠0→(smT lo t).natAbs<2^(70+3*dpT t)
 | .lf o,h=>by
  have:=(YcH h).1
  rw [smT,dpT]
  have:(2:Nat)^(70+3*1)=2^68*32:=by decide
  omega
 | .nd a b,h=>by
  obtain ⟨h1,h2,_⟩:=QT h
  have ia:=QU (lo:=lo) hlo hsp h1
  have ib:=QU (lo:=lo) hlo hsp h2
  have pa:(2:Nat)^(70+3*dpT a)≤2^(70+3*max (dpT a) (dpT b)):=WP (by omega)
  have pb:(2:Nat)^(70+3*dpT b)≤2^(70+3*max (dpT a) (dpT b)):=WP (by omega)
  rw [smT,dpT,show 70+3*(max (dpT a) (dpT b)+1)=3+(70+3*max (dpT a) (dpT b)) by omega,Nat.pow_add]
  generalize (2:Nat)^(70+3*max (dpT a) (dpT b))=P at pa pb
  omega
inductive sp_lsm (K:PySem.W.Frag) (m:Nat) (vs:List V) (H:Hp) (Q:VK) (E_:XK):Prop
 | mk (v:V) (M:Addr) (lo:Int) (sp:Nat) (m0 m1:List Nat) (t:Tt) (h0:vs=[v,.ref M]) (h1:Vt H v (tdT lo m0 m1 t)) (h2:WU H M m0 m1) (h3:m0≠m1) (h4:dpT t≤m) (h5:dpT t≤6) (h6:lo.natAbs<2^68) (h7:sp≤3) (h8:szT sp t≠0) (h9:Q (.int (smT lo t)) H)
theorem Ygu {K:PySem.W.Frag} {vs:List V} {H:Hp} {Q:VK} {E:XK} (h:sp_lsm K 0 vs H Q E):False:=by
 obtain ⟨v,M,lo,sp,m0,m1,t,_,_,_,_,h,_⟩:=h
 have:=Qj t
 omega
theorem Z41 {k:Nat} {Z6 Z5 Z1 Z2 Z4 Z3 Z0:Addr} {c_law P_law:Addr} (R:g.Raw "_law_sum" "_law_sum" Z3j ["_law_value","_law_marks"]) (Z0V:g.Fn k "_law_sum" ["_law_value","_law_marks"] (sp_lsm g.K m)):g.Fn (k+1) "_law_sum" ["_law_value","_law_marks"] (sp_lsm g.K (m+1)):=by
 refine R.fn Yct (fun vs H Q E h=>by obtain ⟨v,M,lo,sp,m0,m1,t,rfl,hv,hM,hne,hdp,hd6,hlo,hsp,hsz,q⟩:=h;rfl) fun f_ cdv A outer s H vs Q E hr h=>?_
 obtain ⟨v,M,lo,sp,m0,m1,t,rfl,hv,hM,hne,hdp,hd6,hlo,hsp,hsz,q⟩:=h
 refine ⟨_,(@Ye _ _ _ _ _ (@YV _ _ _ _ _ _ _ _ (@Yt _ _ _ _ _ _ _ _ Xa (@Yn _ _ _ _ _ _ _ YL (pv 0) Yf (fun _ _=>rfl)) (@Yn _ _ _ _ _ _ _ Yw (pv 1) Yf (fun _ _=>rfl)) (Yv _)) (@Yh _ _ _ (@Ym _ _ _ _ (@Yn _ _ _ _ _ _ _ YL (pv 0) Yf (fun _ _=>rfl)))) YJ) (@Yh _ _ _ (@Ym _ _ _ _ (@Yl _ _ _ _ _ _ _ _ YQ (@Yl _ _ _ _ _ _ _ _ Xw Yf (@YH _ _ _ _ _ _ _ _ _ _ _ _ Z0V hr (@Ya _ _ _ _ _ (@Yn _ _ _ _ _ _ _ YL (@Yn _ _ _ _ _ _ _ YL (pv 0) Yf (fun _ _=>rfl)) Yf (fun _ _=>rfl)) (@Ya _ _ _ _ _ (pv 1) Yc (by rfl)) (by rfl)) (by omega) (by rfl) (by rfl) (by decide) (by rfl) (by rfl))) (@Yl _ _ _ _ _ _ _ _ Xw Yf (@YH _ _ _ _ _ _ _ _ _ _ _ _ Z0V hr (@Ya _ _ _ _ _ (@Yn _ _ _ _ _ _ _ YL (@Yn _ _ _ _ _ _ _ YL (pv 0) Yf (fun _ _=>rfl)) Yf (fun _ _=>rfl)) (@Ya _ _ _ _ _ (pv 1) Yc (by rfl)) (by rfl)) (by omega) (by rfl) (by rfl) (by decide) (by rfl) (by rfl))))))),?_⟩
 have hS:S m1≠S m0:=fun z=>hne (Vn z.symm)
 have hM':H M=some (.lst [.str (S m0),.str (S m1)]):=hM
 cases t with
 | lf o =>
  rw [tdT] at hv
  obtain ⟨a,x,y,rfl,ha,hx,hy⟩:=XE hv
  cases WT hx
  cases YaN hy
  walk_at "rd"
  exact ⟨_,SqT.of ha,_,rfl,_,SqL.of hM',_,rfl,rfl,X3 rfl ⟨_,SqT.of ha,_,rfl,q⟩⟩
 | nd b c =>
  rw [tdT] at hv
  obtain ⟨a,x,y,rfl,ha,hx,hy⟩:=XE hv
  cases WT hx
  obtain ⟨a',x',y',rfl,ha',hx',hy'⟩:=XE hy
  obtain ⟨h4,h5⟩:=YaO hdp
  obtain ⟨h1,h2,_⟩:=QT hsz
  have h6:dpT b≤6∧dpT c≤6:=by rw [dpT] at hd6;omega
  have b1:=Nat.lt_of_lt_of_le (QU (lo:=lo) hlo hsp h1) (WP (b:=100) (by omega))
  have b2:=Nat.lt_of_lt_of_le (QU (lo:=lo) hlo hsp h2) (WP (b:=100) (by omega))
  refine Yr fun R rr=>?_
  walk_at "rd"
  refine ⟨_,SqT.of ha,_,rfl,_,SqL.of hM',_,rfl,rfl,YZ (fun z=>hS (V.str.inj z)) (rr _ _ ?_)⟩
  walk_at "rd"
  refine ⟨_,SqT.of ha,_,rfl,_,rfl,_,SqT.of ha',_,rfl,x',M,lo,sp,m0,m1,b,rfl,hx',hM,hne,h4,h6.1,hlo,hsp,h1,_,rfl,.inl (cm (m:=2) (n:=100) (by decide) b1),_,SqT.of ha,_,rfl,_,rfl,_,SqT.of ha',_,rfl,y',M,lo,sp,m0,m1,c,rfl,hy',hM,hne,h5,h6.2,hlo,hsp,h2,_,rfl,.inl (cm (m:=2) (n:=100) (by decide) b2),?_⟩
  rw [smT] at q
  exact q
inductive P2:Nat→PyData→Prop
 | i (n:Nat) (i:Int):P2 (n+1) (.int i)
 | s (n:Nat) (x:Str):P2 (n+1) (.str x)
 | p {n:Nat} {a b:PyData}:P2 n a→P2 n b→P2 (n+1) (.tuple [a,b])
theorem P2.up {n:Nat} {d:PyData} (h:P2 n d):∀ {m:Nat},n≤m→P2 m d:=by
 induction h with
 | i n i=>intro m hm;obtain ⟨k,rfl⟩:∃ k,m=k+1:=⟨m - 1,by omega⟩;exact .i _ _
 | s n x=>intro m hm;obtain ⟨k,rfl⟩:∃ k,m=k+1:=⟨m - 1,by omega⟩;exact .s _ _
 | p h1 h2 i1 i2=>intro m hm;obtain ⟨k,rfl⟩:∃ k,m=k+1:=⟨m - 1,by omega⟩;exact .p (i1 (by omega)) (i2 (by omega))
theorem YcI {lo:Int} {m0 m1:List Nat}:∀ t:Tt,P2 (2*dpT t) (tdT lo m0 m1 t)
 | .lf o=>by rw [tdT,dpT];exact .p (.s _ _) (.i _ _)
 | .nd a b=>by
  rw [tdT,dpT,show 2*(max (dpT a) (dpT b)+1)=2*max (dpT a) (dpT b)+1+1 by omega]
  exact .p (.s _ _) (.p ((YcI a).up (by omega)) ((YcI b).up (by omega)))
section
 variable {src:List (Option Nat)} {te:TE} {σ:St} {H:Hp} {Q:VK}
theorem YeA {K:PySem.W.Frag} {tl:TE} {xs:List V} (Rl:Nat→V→Hp→Prop) (st:∀ i y H H',Rl i y H→Yk H H'→Rl i y H') (su:∀ i y H p zs zs',Rl i y H→H p=some (.lst zs)→Rl i y (upd H p (.lst zs')))
  (ha:∀ R:V→Hp→Prop,(∀ a H1,Yk H H1→SqT K H1 a xs→R (.ref a) H1)→tl σ H R) (hlen:xs.length≤100000)
  (step:∀ (i:Nat) x H',xs[i]?=some x→Yk H H'→∀ R:VK,(∀ y H'',Yk H' H''→Rl i y H''→R y H'')→te (some x::YD src σ) H' R)
  (fin:∀ D (ys:List V) H',H D=none→Yk H H'→H' D=some (.lst ys)→ys.length=xs.length→(∀ (j:Nat) y,ys[j]?=some y→Rl j y H')→Q (.ref D) H'):tLC (none::src) (iTup K tl) (Yy 0) XT te σ H Q :=
 ha _ fun a H1 s1 hS=>⟨a,rfl,⟨xs,hS⟩,fun D hD=>Yf2 (Qu.imp fun H' (e:Yk H1 H')=>e.tup hS) Rl st su (fun _ e=>e) hD hlen (fun i x H' hx sm R r=>step i x H' hx (s1.trans sm) R r) fun ys H' sm=>fin D ys H' (s1.free hD) (s1.trans sm)⟩
def kpt (p:Tt→Bool) (xs:List V) (L:List Tt):List V:=((xs.zip L).filter fun q=>p q.2).map (·.1)
theorem YfI (p:Tt→Bool) (xs:List V) (L:List Tt):(kpt p xs L).length≤L.length:=by
 unfold kpt
 rw [List.length_map]
 refine Nat.le_trans (List.length_filter_le _ _) ?_
 rw [List.length_zip]
 omega
theorem YeB {p:Tt→Bool} {xs:List V} {L:List Tt} {x:V} {t:Tt} (hl:xs.length=L.length):kpt p (xs++[x]) (L++[t])=kpt p xs L++(if p t then [x] else []):=by
 unfold kpt
 rw [List.zip_append hl,List.filter_append,List.map_append]
 congr 1
 by_cases c:p t=true
 ·rw [if_pos c];simp [c]
 ·rw [if_neg c];simp [c]
theorem UN {lo:Int} {m0 m1:List Nat} {p:Tt→Bool} {H:Hp}:∀ {us:List V} {L:List Tt},Vts H us (L.map (tdT lo m0 m1))→Vts H (kpt p us L) ((L.filter p).map (tdT lo m0 m1))
 | [],[],_ => .nil
 | [],_::_,h=>by cases h
 | _::_,[],h=>by cases h
 | u::us,t::L,h=>by
  rw [List.map_cons] at h
  cases h with
  | cons h1 h2 =>
   have ih:=UN (p:=p) h2
   by_cases c:p t=true
   ·rw [List.filter_cons_of_pos c,List.map_cons,show kpt p (u::us) (t::L)=u::kpt p us L by simp [kpt,c]]
    exact .cons h1 ih
   ·rw [List.filter_cons_of_neg c,show kpt p (u::us) (t::L)=kpt p us L by simp [kpt,c]]
    exact ih
theorem Uq {K:PySem.W.Frag} {tl:TE} {tt:TT} {xs:List V} {L:List Tt} (hxp:xs.length=L.length) (p:Tt→Bool) (ha:∀ R:V→Hp→Prop,(∀ a H1,Yk H H1→SqL K H1 a xs→R (.ref a) H1)→tl σ H R) (hlen:xs.length≤100000)
  (test:∀ (i:Nat) x t H',xs[i]?=some x→L[i]?=some t→Yk H H'→∀ R:Bool→Hp→Prop,(∀ H'',Yk H' H''→R (p t) H'')→tt (some x::YD src σ) H' R)
  (step:∀ x H' R,R x H'→te (some x::YD src σ) H' R)
  (fin:∀ D H',H D=none→Yk H H'→H' D=some (.lst (kpt p xs L))→Q (.ref D) H'):tLC (none::src) (WA K tl) (Yy 0) tt te σ H Q:=by
 refine ha _ fun a H1 s1 hS=>⟨a,rfl,⟨xs,hS⟩,fun D hD=>?_⟩
 have h6:100000<sizeLine:=by decide
 refine YeQ (X2.imp fun H' (e:Yk H1 H')=>e.seq hS) (fun i zs σ' H'=>zs=kpt p (xs.take i) (L.take i)∧(∃ o,σ'=o::YD src σ)∧Yk H1 H'∧H' D=some (.lst zs)) ⟨by simp [kpt],⟨none,rfl⟩,.upd_new hD _,Yg⟩ (fun i zs σ' H' q=>⟨q.2.2.1,q.2.2.2⟩) ?_ ?_
 ·rintro i zs σ' H' x hx ⟨hz,⟨o,rfl⟩,sm,hd⟩
  have hi:=(List.getElem?_eq_some_iff.mp hx).1
  have hq:L[i]?=some (L[i]'(by omega)):=List.getElem?_eq_getElem _
  generalize L[i]'(by omega)=qq at hq
  have hfl:=YfI p (xs.take i) (L.take i)
  rw [List.length_take] at hfl
  have ls:(xs.take i).length=(L.take i).length:=by rw [List.length_take,List.length_take,hxp]
  show tt (some x::YD src σ) H' _
  refine test i x qq H' hx hq (s1.trans sm) _ fun H2 s2=>?_
  rw [Xo hx,Xo hq,YeB ls]
  cases e:p qq with
  | true =>
   refine iteT ?_
   refine step x H2 _ ⟨s2 _ _ hd,by rw [hz];omega,?_,⟨_,rfl⟩,.upd_over hD (sm.trans s2) _,Yg⟩
   rw [hz]
   rfl
  | false =>
   refine iteF ⟨?_,⟨_,rfl⟩,sm.trans s2,s2 _ _ hd⟩
   rw [hz]
   simp
 ·rintro zs σ' H' ⟨hz,_,sm,hd⟩
  rw [List.take_length,hxp,List.take_length] at hz
  exact fin D H' (s1.free hD) (s1.trans sm) (by rw [← hz];exact hd)
end
inductive sp_cp (m:Nat) (vs:List V) (H:Hp) (Q:VK) (E_:XK):Prop
 | mk (v:V) (d:PyData) (h0:vs=[v]) (h1:Vt H v d) (h2:P2 m d) (h3:∀ v' H',Yk H H'→Vt H' v' d→Q v' H')
theorem YdN {vs:List V} {H:Hp} {Q:VK} {E:XK} (h:sp_cp 0 vs H Q E):False:=by
 obtain ⟨v,d,_,_,h,_⟩:=h
 cases h
theorem QC {k:Nat} {Z6 Z5 Z1 Z2 Z4 Z3 Z0:Addr} {c_law P_law:Addr} (R:g.Raw "copied" "copied" Uj ["thing"]) (F_copied:g.Fn k "copied" ["thing"] (sp_cp m)) (b_dict:g.mg "dict"=none) (Zs:g.mg "isinstance"=none) (b_list:g.mg "list"=none) (ZX:g.mg "tuple"=none):g.Fn (k+1) "copied" ["thing"] (sp_cp (m+1)):=by
 refine R.fn Ydv (fun vs H Q E h=>by obtain ⟨v,d,rfl,hv,hp,q⟩:=h;rfl) fun f_ cdv A outer s H vs Q E hr h=>?_
 obtain ⟨v,d,rfl,hv,hp,q⟩:=h
 refine ⟨_,(@Ye _ _ _ _ _ (@YV _ _ _ _ _ _ _ _ (@X0 _ _ _ (@YI _ _ _ _ _ _ _ _ _ _ Zs Y5 (@Ya _ _ _ _ _ (pv 0) (@Ya _ _ _ _ _ (@WC _ _ _ _ ("list") b_list (by decide +kernel) (by rfl) (by rfl) (by decide) (by decide)) Yc (by rfl)) (by rfl)) (by decide +kernel) (by rfl) (by rfl) (by decide) (by decide) (by rfl) (by rfl)) (by intro _;rfl)) (@Yh _ _ _ Xp) YJ) (@Ye _ _ _ _ _ (@YV _ _ _ _ _ _ _ _ (@X0 _ _ _ (@YI _ _ _ _ _ _ _ _ _ _ Zs Y5 (@Ya _ _ _ _ _ (pv 0) (@Ya _ _ _ _ _ (@WC _ _ _ _ ("tuple") ZX (by decide +kernel) (by rfl) (by rfl) (by decide) (by decide)) Yc (by rfl)) (by rfl)) (by decide +kernel) (by rfl) (by rfl) (by decide) (by decide) (by rfl) (by rfl)) (by intro _;rfl)) (@Yh _ _ _ (@Ym _ _ _ _ (@QM _ _ _ _ _ _ _ _ _ _ ZX VC (@Ya _ _ _ _ _ (@XF _ _ _ _ _ _ _ ([none]) ((["each"]:List Str)) _ (Yy 0) _ _ (.own .nil) rfl (@Q3 _ _ _ _ (pv 0)) (fun cl C s₀ H₀ fp pn=>(@Yx _ _ (0) _ (show List.Nodup (["each"]:List Str) by decide +kernel) rfl (.inl rfl) (.inr rfl))) (fun cl C s₀ H₀ fp pn=>Xb) (fun cl C s₀ H₀ fp pn=>(@YH _ _ _ _ _ _ _ _ _ _ _ _ F_copied hr (@Ya _ _ _ _ _ (pv 0) Yc (by rfl)) (by omega) (by rfl) (by rfl) (by decide) (by rfl) (by rfl))) (by intro x hx;simp at hx) (by rfl) (by decide) (by decide +kernel) (by intro _;rfl)) Yc (by rfl)) (by decide +kernel) (by rfl) (by rfl) (by decide) (by decide) (by rfl) (by rfl)))) YJ) (@Ye _ _ _ _ _ (@YV _ _ _ _ _ _ _ _ (@X0 _ _ _ (@YI _ _ _ _ _ _ _ _ _ _ Zs Y5 (@Ya _ _ _ _ _ (pv 0) (@Ya _ _ _ _ _ (@WC _ _ _ _ ("dict") b_dict (by decide +kernel) (by rfl) (by rfl) (by decide) (by decide)) Yc (by rfl)) (by rfl)) (by decide +kernel) (by rfl) (by rfl) (by decide) (by decide) (by rfl) (by rfl)) (by intro _;rfl)) (@Yh _ _ _ Xp) YJ) (@Yh _ _ _ (@Ym _ _ _ _ (pv 0)))))),?_⟩
 cases hp with
 | i n i =>
  cases YaN hv
  walk_at "rd"
  exact ⟨_,rfl,_,.int i,false,rfl,YZ (by decide) ⟨_,rfl,_,.int i,false,rfl,YZ (by decide) ⟨_,rfl,_,.int i,false,rfl,YZ (by decide) (q _ H (.refl _) hv)⟩⟩⟩
 | s n z =>
  cases WT hv
  walk_at "rd"
  exact ⟨_,rfl,_,.str z,false,rfl,YZ (by decide) ⟨_,rfl,_,.str z,false,rfl,YZ (by decide) ⟨_,rfl,_,.str z,false,rfl,YZ (by decide) (q _ H (.refl _) hv)⟩⟩⟩
 | @p n d1 d2 h1 h2 =>
  obtain ⟨a,x,y,rfl,ha,hx,hy⟩:=XE hv
  walk_at "rd"
  refine ⟨_,rfl,_,.tup ha,false,rfl,YZ (by decide) ⟨_,rfl,_,.tup ha,true,rfl,X3 rfl ?_⟩⟩
  refine YeA (K:=g.K) (xs:=[x,y]) (fun i y' Hx=>∀ d,[d1,d2][i]?=some d→Vt Hx y' d) (fun i y' Ha Hb h s d hd=>(h d hd).same s) (fun i y' Hx p zs zs' h hp d hd=>(h d hd).mono fun b us _ e=>⟨fun z=>z,by rw [Yd (YX e hp (by intro z;cases z))];exact e⟩) (fun R r=>by walk_at "rd";exact r a H (.refl _) (SqT.of ha)) (by simp) ?_ ?_
  ·intro i v' H' hx' sm R r
   walk_at "rd"
   match i,hx' with
   | 0,hx'=>cases Option.some.inj hx';exact ⟨_,d1,rfl,hx.same sm,h1,fun w H'' s'' hw=>r w H'' s'' fun d hd=>by cases Option.some.inj hd;exact hw⟩
   | 1,hx'=>cases Option.some.inj hx';exact ⟨_,d2,rfl,hy.same sm,h2,fun w H'' s'' hw=>r w H'' s'' fun d hd=>by cases Option.some.inj hd;exact hw⟩
  ·intro D ys H' hD sm hd hl hr
   refine ⟨D,rfl,_,.inl ⟨SqL.of hd,fun l gl=>?_⟩⟩
   match ys,hl,hr with
   | [y1,y2],_,hr =>
    have s2:=Yk.upd_new gl (.tup [y1,y2])
    exact q (.ref l) _ (sm.trans s2) (.tup (fun z=>z) Yg (.cons ((hr 0 y1 rfl d1 rfl).same s2) (.cons ((hr 1 y2 rfl d2 rfl).same s2) .nil)))
abbrev Okf (g:Gx) (f:Addr) (fd:FuncData) (ps:List Str) (sp:Sp):Prop:=FnOk g.P g.w g.K g.mg g.base CX0 30 f fd ps sp∧∀ us:List Value,us.length=ps.length→bindArgs fd ⟨us,[]⟩=pure (ps.zip us)
def JdT (g:Gx) (lo:Int) (sp:Nat) (m0 m1:List Nat) (p:Tt→Bool) (H:Hp) (f:Addr):Prop:=∃ fd s,Okf g f fd ["_law_value"] s∧H f=some (FnO f fd) ∧
 ∀ (H1:Hp) (v:V) (t:Tt) (Q:VK),Yk H H1→Vt H1 v (tdT lo m0 m1 t)→Gd sp t→Q (.bl (p t)) H1→s [v] H1 Q E0
theorem JdT.same {g:Gx} {lo:Int} {sp:Nat} {m0 m1:List Nat} {p:Tt→Bool} {H H':Hp} {f:Addr} (h:JdT g lo sp m0 m1 p H f) (s:Yk H H'):JdT g lo sp m0 m1 p H' f:=by
 obtain ⟨fd,sp,h1,h2,h3⟩:=h
 exact ⟨fd,sp,h1,s _ _ h2,fun H1 v t Q s1=>h3 H1 v t Q (s.trans s1)⟩
inductive sp_holds (g:Gx) (vs:List V) (H:Hp) (Q:VK) (E_:XK):Prop
 | mk (f:Addr) (v:V) (lo:Int) (sp:Nat) (m0 m1:List Nat) (p:Tt→Bool) (t:Tt) (h0:vs=[.ref f,v]) (h1:Vt H v (tdT lo m0 m1 t)) (h2:Gd sp t) (h3:JdT g lo sp m0 m1 p H f) (h4:∀ H',Yk H H'→Q (.bl (p t)) H')
theorem YeC {k:Nat} {Z6 Z5 Z1 Z2 Z4 Z3 Z0:Addr} {c_law P_law:Addr} (R:g.Raw "holds" "holds" U5 ["judge","value"]) (F_copied:g.Fn k "copied" ["thing"] (sp_cp 12)) (hkc:30≤k):g.Fn (k+1) "holds" ["judge","value"] (sp_holds g):=by
 refine R.fn Yem (fun vs H Q E h=>by obtain ⟨f,v,lo,sp,m0,m1,p,t,rfl,hv,hg,⟨fd,s1,ok,hf,hj⟩,q⟩:=h;rfl) fun f_ cdv A outer s H vs Q E hr h=>?_
 obtain ⟨f,v,lo,sp,m0,m1,p,t,rfl,hv,hg,⟨fd,s1,ok,hf,hj⟩,q⟩:=h
 refine ⟨_,(@Yh _ _ _ (@Ym _ _ _ _ (@VZ _ _ _ _ _ _ _ _ Yf1 (@Yd9 _ (g) _ (30) _ _ _ _ _ _ 0 hr (@Ya _ _ _ _ _ (@YH _ _ _ _ _ _ _ _ _ _ _ _ F_copied hr (@Ya _ _ _ _ _ (pv 1) Yc (by rfl)) (by omega) (by rfl) (by rfl) (by decide) (by rfl) (by rfl)) Yc (by rfl)) (by omega) (by rfl) (by rfl) (by first | exact .inl rfl | exact .inr (.inl rfl) | exact .inr (.inr rfl)) (by decide) (by decide) (by rfl) (by rfl)) VW (Yv _)))),?_⟩
 walk_at "rd"
 refine ⟨f,fd,_,s1,rfl,ok.1,ok.2,hf,?_⟩
 walk_at "rd"
 have:=hg.dp
 refine ⟨v,_,rfl,hv,(YcI t).up (by omega),fun v' H' sm hv'=>⟨sm _ _ hf,hj H' v' t _ sm hv' hg ⟨_,rfl,?_⟩⟩⟩
 rw [show (p t==true)=p t by cases p t<;>rfl]
 exact q H' sm
theorem VOs.length {U:Addr→Prop} {H:Hp}:∀ {vs:List V} {ds:List PyData},VOs U H vs ds→vs.length=ds.length
 | _,_,.nil=>rfl
 | _,_,.cons _ h=>congrArg (·+1) h.length
theorem VOs.at {U:Addr→Prop} {H:Hp}:∀ {vs:List V} {ds:List PyData} {i:Nat} {v:V} {d:PyData},VOs U H vs ds→vs[i]?=some v→ds[i]?=some d→VO U H v d
 | _,_,0,_,_,.cons a _,h,h'=>by cases Option.some.inj h;cases Option.some.inj h';exact a
 | _,_,i+1,_,_,.cons _ b,h,h'=>b.at (i:=i) (by simpa using h) (by simpa using h')
inductive sp_sieved (g:Gx) (C:Cs) (vs:List V) (H:Hp) (Q:VK) (E_:XK):Prop
 | mk (B a f:Addr) (lo:Int) (sp:Nat) (x m0 m1:List Nat) (p:Tt→Bool) (n:Nat) (h0:vs=[.ref B,.ref a,.int (n:Nat),.ref f,.int 400]) (h1:XW g.K H B (Y3 lo sp x m0 m1)) (h2:DK g.K H a (kd (.use x))) (h3:PyData.strOk (S m0)=true) (h4:PyData.strOk (S m1)=true) (h5:n≤11) (h6:(tms sp n).length≤60) (h7:(∀ t∈tms sp n,Gd sp t)) (h8:JdT g lo sp m0 m1 p H f) (h9:∀ D us H',Yk H H'→H D=none→H' D=some (.lst us)→Vts H' us (((tms sp n).filter p).map (tdT lo m0 m1))→Q (.ref D) H')
theorem YdO {k:Nat} {Z6 Z5 Z1 Z2 Z4 Z3 Z0:Addr} {c_law P_law:Addr} (R:g.RawD "sieved" "sieved" Uk ["book","shape","size","judge","most"] [.int 400]) (Z23:g.FnE k "all_values" ["book","shape","size","most"] [.int 400] (Z1R g.K (Cs.mk Z0 Z2 Z4 Z1 Z3))) (F_holds:g.Fn k "holds" ["judge","value"] (sp_holds g)):g.FnD (k+1) "sieved" ["book","shape","size","judge","most"] [.int 400] (sp_sieved g (Cs.mk Z0 Z2 Z4 Z1 Z3)):=by
 refine R.fnD Ydw (fun vs H Q E h=>by obtain ⟨B,a,f,lo,sp,x,m0,m1,p,n,rfl,hB,hk,k0,k1,hn,h60,hgd,hj,q⟩:=h;rfl) fun f_ cdv A outer s H vs Q E hr h=>?_
 obtain ⟨B,a,f,lo,sp,x,m0,m1,p,n,rfl,hB,hk,k0,k1,hn,h60,hgd,hj,q⟩:=h
 refine ⟨_,(@Yh _ _ _ (@Ym _ _ _ _ (@XF _ _ _ _ _ _ _ ([none,some 3]) ((["value","judge"]:List Str)) _ (Yy 0) _ _ (.own (.cap (i:=3) rfl rfl (by first | exact .inl rfl | exact .inr rfl) .nil)) rfl (@XC _ _ _ _ (@YH _ _ _ _ _ _ _ _ _ _ _ _ Z23.full hr (@Ya _ _ _ _ _ (pv 0) (@Ya _ _ _ _ _ (pv 1) (@Ya _ _ _ _ _ (pv 2) (@Ya _ _ _ _ _ (pv 4) Yc (by rfl)) (by rfl)) (by rfl)) (by rfl)) (by omega) (by rfl) (by rfl) (by decide) (by rfl) (by rfl))) (fun cl C s₀ H₀ fp pn=>(@Yx _ _ (0) _ (show List.Nodup (["value","judge"]:List Str) by decide +kernel) rfl (.inl rfl) (.inr rfl))) (fun cl C s₀ H₀ fp pn=>(@UW _ _ _ (@X0 _ _ _ (@YH _ _ _ _ _ _ _ _ _ _ _ _ F_holds hr (@Ya _ _ _ _ _ (pv 1) (@Ya _ _ _ _ _ (pv 0) Yc (by rfl)) (by rfl)) (by omega) (by rfl) (by rfl) (by decide) (by rfl) (by rfl)) (by intro _;rfl)))) (fun cl C s₀ H₀ fp pn=>(pv 0)) (by intro x hx;simp at hx;first | (subst hx;exact .inl rfl) | (rcases hx with rfl | rfl<;>exact .inl rfl) | (rcases hx with rfl | rfl | rfl<;>exact .inl rfl) | (rcases hx with rfl | rfl | rfl | rfl<;>exact .inl rfl) | (rcases hx with rfl | rfl | rfl | rfl | rfl<;>exact .inl rfl)) (by rfl) (by decide) (by decide +kernel) (by intro _;rfl)))),?_⟩
 have hlen:=(UL (lo:=lo) (sp:=sp) (x:=x) (m0:=m0) (m1:=m1) n).len
 have gz:=(UL (lo:=lo) (sp:=sp) (x:=x) (m0:=m0) (m1:=m1) n)
 walk_at "rd"
 refine ⟨Y3 lo sp x m0 m1,B,a,.use x,n,400,rfl,hB,hk,Qh,YbG k0 k1,by simp [wt],by simp [dep],hn,by omega,by omega,fun D us ds H1 s1 gD hD hv al=>?_⟩
 have ed:=YaE al
 subst ed
 have hul:=hv.length
 rw [List.length_map] at hul
 refine Uq (K:=g.K) (tl:=tC (.ref D)) (xs:=us) (L:=tms sp n) hul p (fun R r=>r D H1 (.refl H1) (SqL.of hD)) (by omega) ?_ (fun x H' R r=>r) ?_
 ·intro i v t H' hv' ht sm R r
  walk_at "rd"
  refine ⟨f,v,lo,sp,m0,m1,p,t,rfl,(hv.at hv' (by rw [List.getElem?_map,ht];rfl)).same sm,hgd t (List.mem_of_getElem? ht),hj.same (s1.trans sm),fun H'' s''=>⟨_,rfl,r H'' s''⟩⟩
 ·intro D2 H2 gD2 s2 hd2
  exact q D2 _ H2 (s1.trans s2) (s1.free gD2) hd2 (UN (hv.same s2))
def p1 (tm left:Nat) (t:Tt):Bool:=decide (lvs t%tm=left)
def p2 (lo tot:Int) (t:Tt):Bool:=decide ((smT lo t+tot)%5<2)
def sp_l1 (K:PySem.W.Frag) (fv vs:List V) (H:Hp) (Q:VK):Prop:=∃ (tm left:Nat) (M:Addr) (v:V) (lo:Int) (m0 m1:List Nat) (t:Tt),fv=[.int (tm:Nat),.ref M,.int (left:Nat)]∧vs=[v]∧Vt H v (tdT lo m0 m1 t)∧WU H M m0 m1∧m0≠m1∧dpT t≤6∧0<tm∧Q (.bl (p1 tm left t)) H
theorem YcJ {k:Nat} {Z6 Z5 Z1 Z2 Z4 Z3 Z0:Addr} {f_ c_:Addr} {pm ctv:Value} {l:YF} (Z06:g.Fn k "_law_leaves" ["_law_value","_law_marks"] (sp_llv g.K 9)) (hl:l.map (·.1)=(["_law_times","_law_marks","_law_left"]:List Str)) (hnd:l.as.Nodup):FnOk g.P g.w g.K g.mg g.base CX0 (k+1) f_ (Z2L l.cl c_ pm ctv) ["_law_value"] (fun vs H Q _=>ClZ H f_ c_ (Z2L l.cl c_ pm ctv) Z27 l∧(sp_l1 g.K) l.vs vs (off H l.as) fun v H'=>(∀ c∈l.as,H' c=none)→Q v (on H' H l.as)):=by
 refine Ybq (N:=["_law_value","_law_times","_law_marks","_law_left"]) (by rw [hl];exact Ycu) hnd (fun vs H Q h=>by obtain ⟨tm,left,M,v,lo,m0,m1,t,hfv,rfl,hv,hM,hne,hdp,h0,q⟩:=h;rfl) fun A outer s H vs Q hr h=>?_
 obtain ⟨tm,left,M,v,lo,m0,m1,t,hfv,rfl,hv,hM,hne,hdp,h0,q⟩:=h
 refine ⟨_,(@VZ _ _ _ _ _ _ _ _ Xa (@Yl _ _ _ _ _ _ _ _ Xg (@YH _ _ _ _ _ _ _ _ _ _ _ _ Z06 hr (@Ya _ _ _ _ _ (pv 0) (@Ya _ _ _ _ _ (pv 2) Yc (by rfl)) (by rfl)) (by omega) (by rfl) (by rfl) (by decide) (by rfl) (by rfl)) (pv 1)) (pv 3) (Yv _)),?_⟩
 rw [hfv]
 show (_:TE) [some v,some (.int (tm:Nat)),some (.ref M),some (.int (left:Nat))] H _
 walk_at "rd"
 refine ⟨v,M,lo,m0,m1,t,rfl,hv,hM,hne,by omega,_,rfl,by omega,?_⟩
 rw [show decide ((lvs t:Int)%(tm:Int)=(left:Int))=p1 tm left t from decide_eq_decide.mpr (by rw [← Int.natCast_emod];omega)]
 exact q
def sp_l2 (K:PySem.W.Frag) (fv vs:List V) (H:Hp) (Q:VK):Prop:=∃ (tot:Int) (M:Addr) (v:V) (lo:Int) (sp:Nat) (m0 m1:List Nat) (t:Tt),fv=[.int tot,.ref M]∧vs=[v]∧Vt H v (tdT lo m0 m1 t)∧WU H M m0 m1∧m0≠m1∧Gd sp t∧lo.natAbs<2^68∧sp≤3∧Q (.bl (p2 lo tot t)) H
theorem Ya7 {k:Nat} {Z6 Z5 Z1 Z2 Z4 Z3 Z0:Addr} {f_ c_:Addr} {pm ctv:Value} {l:YF} (Z0V:g.Fn k "_law_sum" ["_law_value","_law_marks"] (sp_lsm g.K 9)) (hl:l.map (·.1)=(["_law_total","_law_marks"]:List Str)) (hnd:l.as.Nodup):FnOk g.P g.w g.K g.mg g.base CX0 (k+1) f_ (Z2g l.cl c_ pm ctv) ["_law_value"] (fun vs H Q _=>ClZ H f_ c_ (Z2g l.cl c_ pm ctv) Z1Y l∧(sp_l2 g.K) l.vs vs (off H l.as) fun v H'=>(∀ c∈l.as,H' c=none)→Q v (on H' H l.as)):=by
 refine Ybq (N:=["_law_value","_law_total","_law_marks"]) (by rw [hl];exact YaZ) hnd (fun vs H Q h=>by obtain ⟨tot,M,v,lo,sp,m0,m1,t,hfv,rfl,hv,hM,hne,hg,hlo,hsp,q⟩:=h;rfl) fun A outer s H vs Q hr h=>?_
 obtain ⟨tot,M,v,lo,sp,m0,m1,t,hfv,rfl,hv,hM,hne,hg,hlo,hsp,q⟩:=h
 refine ⟨_,(@VZ _ _ _ _ _ _ _ _ QJ (@Yl _ _ _ _ _ _ _ _ Xg (@Yl _ _ _ _ _ _ _ _ YQ (@YH _ _ _ _ _ _ _ _ _ _ _ _ Z0V hr (@Ya _ _ _ _ _ (pv 0) (@Ya _ _ _ _ _ (pv 2) Yc (by rfl)) (by rfl)) (by omega) (by rfl) (by rfl) (by decide) (by rfl) (by rfl)) (pv 1)) Yf) Yf (Yv _)),?_⟩
 rw [hfv]
 show (_:TE) [some v,some (.int tot),some (.ref M)] H _
 have:=hg.dp
 walk_at "rd"
 refine ⟨v,M,lo,sp,m0,m1,t,rfl,hv,hM,hne,by omega,by omega,hlo,hsp,hg.sz,_,rfl,by decide,q⟩
theorem YdP {H:Hp} (cs:List Addr):on (off H cs) H cs=H:=by
 funext b
 by_cases hb:b∈cs
 ·rw [Ycj hb]
 ·rw [Wt hb,Xl hb]
theorem XJ {H:Hp} {l:YF} (hz:l.Z H) {b:Addr} {o:HO} (no:∀ x u,o ≠ .frz x u) (e:H b=some o):off H l.as b=some o:=by
 rw [Xl fun hb=>?_]
 ·exact e
 ·obtain ⟨p,hp,rfl⟩:=Wd hb
  obtain ⟨o',z⟩:=hz p hp
  rw [z] at e
  exact no _ _ (Option.some.inj e).symm
theorem jd1 {g:Gx} {Z6 Z5 Z1 Z2 Z4 Z3 Z0:Addr} {H:Hp} {f c c1 c2 c3 M:Addr} {pm ctv:Value} {tm left sp:Nat} {lo:Int} {m0 m1:List Nat} (F0:g.Fn 29 "_law_leaves" ["_law_value","_law_marks"] (sp_llv g.K 9)) (hnd:[c1,c2,c3].Nodup) (h:ClZ H f c (Z2L [("_law_times",c1),("_law_marks",c2),("_law_left",c3)] c pm ctv) Z27 [("_law_times",c1,.int (tm:Nat)),("_law_marks",c2,.ref M),("_law_left",c3,.int (left:Nat))]) (hM:WU H M m0 m1) (hne:m0≠m1) (h0:0<tm):JdT g lo sp m0 m1 (p1 tm left) H f:=by
 refine ⟨_,_,⟨YcJ (Z6:=Z6) (Z5:=Z5) (Z1:=Z1) (Z2:=Z2) (Z4:=Z4) (Z3:=Z3) (Z0:=Z0) (k:=29) (l:=[("_law_times",c1,.int (tm:Nat)),("_law_marks",c2,.ref M),("_law_left",c3,.int (left:Nat))]) F0 rfl hnd,?_⟩,h.1,?_⟩
 ·intro us hl
  match us,hl with
  | [_],_=>rfl
 ·intro H1 v t Q s1 hv hg q
  have hz:=(h.keep s1).2.2
  exact ⟨h.keep s1,tm,left,M,v,lo,m0,m1,t,rfl,rfl,hv.mono fun b us n e=>⟨n,XJ hz (by intro x u z;cases z) e⟩,XJ hz (by intro x u z;cases z) (s1 _ _ hM),hne,hg.dp,h0,fun _=>by rw [YdP];exact q⟩
theorem jd2 {g:Gx} {Z6 Z5 Z1 Z2 Z4 Z3 Z0:Addr} {H:Hp} {f c c1 c2 M:Addr} {pm ctv:Value} {tot lo:Int} {sp:Nat} {m0 m1:List Nat} (F0:g.Fn 29 "_law_sum" ["_law_value","_law_marks"] (sp_lsm g.K 9)) (hnd:[c1,c2].Nodup) (h:ClZ H f c (Z2g [("_law_total",c1),("_law_marks",c2)] c pm ctv) Z1Y [("_law_total",c1,.int tot),("_law_marks",c2,.ref M)]) (hM:WU H M m0 m1) (hne:m0≠m1) (hlo:lo.natAbs<2^68) (hsp:sp≤3):JdT g lo sp m0 m1 (p2 lo tot) H f:=by
 refine ⟨_,_,⟨Ya7 (Z6:=Z6) (Z5:=Z5) (Z1:=Z1) (Z2:=Z2) (Z4:=Z4) (Z3:=Z3) (Z0:=Z0) (k:=29) (l:=[("_law_total",c1,.int tot),("_law_marks",c2,.ref M)]) F0 rfl hnd,?_⟩,h.1,?_⟩
 ·intro us hl
  match us,hl with
  | [_],_=>rfl
 ·intro H1 v t Q s1 hv hg q
  have hz:=(h.keep s1).2.2
  exact ⟨h.keep s1,tot,M,v,lo,sp,m0,m1,t,rfl,rfl,hv.mono fun b us n e=>⟨n,XJ hz (by intro x u z;cases z) e⟩,XJ hz (by intro x u z;cases z) (s1 _ _ hM),hne,hg,hlo,hsp,fun _=>by rw [YdP];exact q⟩
theorem Wl (a b:PyData):(PyData.tuple [a,b]).shown.cps.toList=40::(a.shown.cps.toList++44::32::(b.shown.cps.toList++[41])):=by
 rw [PyData.shown_tuple]
 have e:Str.join ", " (PyData.shownAll [a,b])=a.shown++((", ":String):Str)++b.shown:=by simp only [PyData.shownAll];rfl
 rw [e]
 have e2:(Str.ofString (if ([a,b].length==1)=true then ",)" else ")"))=Str.ofString ")":=rfl
 rw [e2]
 simp only [PyProof.Rows.cps_toList_append,PyProof.Rows.signs_lparen,PyProof.Rows.signs_sep,show (Str.ofString ")").cps.toList=[41] by decide,List.cons_append,List.nil_append,List.append_assoc]
theorem YbK (q:Nat):∀ (l:List Nat) (acc:Array Nat),(l.foldl (fun out c=>out++(Builtin.Str.reprChar q c).toArray) acc).toList=acc.toList++l.flatMap (Builtin.Str.reprChar q)
 | [],acc=>by simp
 | c::l,acc=>by rw [List.foldl_cons,YbK q l,List.flatMap_cons];simp
theorem YfJ (x:Str):(reprText x).cps.toList=reprQuote x::(x.cps.toList.flatMap (Builtin.Str.reprChar (reprQuote x))++[reprQuote x]):=by
 unfold reprText
 rw [Array.toList_push,← Array.foldl_toList,YbK]
 rfl
theorem nl_pr:∀ c∈NL,97≤c∧c≤122∧PyProof.Rows.inR 32 126 ⟨#[c]⟩=true:=by decide +kernel
theorem Ygv {q c:Nat} (hq:q=39∨q=34) (h:c∈NL):Builtin.Str.reprChar q c=[c]:=by
 obtain ⟨a,b,p⟩:=nl_pr c h
 rw [← PyProof.Rows.cls_isprintable c (by omega)] at p
 unfold Builtin.Str.reprChar
 have e1:(c==q||c==92)=false:=by simp;omega
 have e2:(c==10)=false:=by simp;omega
 have e3:(c==13)=false:=by simp;omega
 have e4:(c==9)=false:=by simp;omega
 simp only [e1,e2,e3,e4,p,Bool.false_eq_true,if_false,if_true]
theorem Ygw (x:Str):reprQuote x=39∨reprQuote x=34:=by
 unfold reprQuote
 split
 ·exact .inr rfl
 ·exact .inl rfl
theorem YbL {q:Nat} (hq:q=39∨q=34):∀ {l:List Nat},(∀ z∈l,z∈NL)→l.flatMap (Builtin.Str.reprChar q)=l
 | [],_=>rfl
 | c::l,h=>by
  rw [List.flatMap_cons,YbL hq fun z hz=>h z (.tail _ hz),Ygv hq (h c (.head _))]
  rfl
theorem nl_44:∀ c∈NL,c≠44:=by decide
theorem Wr {m:List Nat} (h:∀ z∈m,z∈NL):44∉(PyData.str (S m)).shown.cps.toList∧(PyData.str (S m)).shown.cps.toList.length=m.length+2:=by
 have hq:=Ygw (S m)
 rw [PyData.shown_str,YfJ,Yaf,YbL hq h]
 refine ⟨fun z=>?_,by simp⟩
 rcases List.mem_cons.mp z with z | z
 ·omega
 ·rcases List.mem_append.mp z with z | z
  ·exact nl_44 _ (h _ z) rfl
  ·have:=List.mem_singleton.mp z
   omega
theorem Vi {k:Nat}:∀ {a b r s:List Nat},k∉a→k∉b→a++k::r=b++k::s→a=b∧r=s
 | [],[],r,s,_,_,h=>⟨rfl,by injection h⟩
 | [],y::b,r,s,_,hb,h=>by injection h with h1 h2;subst h1;exact absurd (.head _) hb
 | x::a,[],r,s,ha,_,h=>by injection h with h1 h2;subst h1;exact absurd (.head _) ha
 | x::a,y::b,r,s,ha,hb,h=>by
  injection h with h1 h2
  obtain ⟨e1,e2⟩:=Vi (fun z=>ha (.tail _ z)) (fun z=>hb (.tail _ z)) h2
  exact ⟨by rw [h1,e1],e2⟩
theorem YbM:∀ {a b:List Char},a.map Char.toNat=b.map Char.toNat→a=b
 | [],[],_=>rfl
 | [],_::_,h=>by cases h
 | _::_,[],h=>by cases h
 | x::a,y::b,h=>by
  rw [List.map_cons,List.map_cons] at h
  injection h with h1 h2
  rw [YbM h2,Char.ext (UInt32.toNat_inj.mp h1)]
theorem YfK {i j:Int} (h:(PyData.int i).shown.cps.toList=(PyData.int j).shown.cps.toList):i=j:=by
 rw [PyData.shown_int,PyData.shown_int,PyProof.Rows.signs_ofString,PyProof.Rows.signs_ofString] at h
 have:=String.ext (YbM h)
 exact Int.repr_inj.mp this
theorem VB (k:Nat) (hk:k≠45∧(k<48∨57<k)) (i:Int):k∉(PyData.int i).shown.cps.toList:=by rw [PyData.shown_int];exact PyProof.Rows.int_text_free' k hk i
theorem YaP {lo:Int} {m0 m1:List Nat} (h0:∀ z∈m0,z∈NL) (h1:∀ z∈m1,z∈NL):∀ (t u:Tt) (r s:List Nat),(tdT lo m0 m1 t).shown.cps.toList++r=(tdT lo m0 m1 u).shown.cps.toList++s→t=u∧r=s
 | .lf o,.lf p,r,s=>fun h=>by
  simp only [tdT,Wl,List.cons_append,List.append_assoc,List.nil_append] at h
  replace h:=(List.cons.inj h).2
  obtain ⟨_,h⟩:=Vi (Wr h0).1 (Wr h0).1 h
  replace h:=(List.cons.inj h).2
  obtain ⟨e1,e2⟩:=Vi (VB 41 (by decide) _) (VB 41 (by decide) _) h
  have:=YfK e1
  exact ⟨by rw [show o=p by omega],e2⟩
 | .lf o,.nd a b,r,s=>fun h=>by
  simp only [tdT,Wl,List.cons_append,List.append_assoc,List.nil_append] at h
  replace h:=(List.cons.inj h).2
  obtain ⟨_,h⟩:=Vi (Wr h0).1 (Wr h1).1 h
  replace h:=(List.cons.inj h).2
  have nf:=VB 40 (by decide) (lo+o)
  cases e:(PyData.int (lo+o)).shown.cps.toList with
  | nil=>rw [e] at h;exact absurd (List.cons.inj h).1 (by decide)
  | cons x xs=>rw [e] at h nf;replace h:=(List.cons.inj h).1;subst h;exact absurd (.head _) nf
 | .nd a b,.lf o,r,s=>fun h=>by
  simp only [tdT,Wl,List.cons_append,List.append_assoc,List.nil_append] at h
  replace h:=(List.cons.inj h).2
  obtain ⟨_,h⟩:=Vi (Wr h1).1 (Wr h0).1 h
  replace h:=(List.cons.inj h).2
  have nf:=VB 40 (by decide) (lo+o)
  cases e:(PyData.int (lo+o)).shown.cps.toList with
  | nil=>rw [e] at h;exact absurd (List.cons.inj h).1 (by decide)
  | cons x xs=>rw [e] at h nf;replace h:=(List.cons.inj h).1;subst h;exact absurd (.head _) nf
 | .nd a b,.nd c d,r,s=>fun h=>by
  simp only [tdT,Wl,List.cons_append,List.append_assoc,List.nil_append] at h
  replace h:=(List.cons.inj h).2
  obtain ⟨_,h⟩:=Vi (Wr h1).1 (Wr h1).1 h
  replace h:=(List.cons.inj h).2
  replace h:=(List.cons.inj h).2
  obtain ⟨e1,h⟩:=YaP h0 h1 a c _ _ h
  replace h:=(List.cons.inj h).2
  replace h:=(List.cons.inj h).2
  obtain ⟨e2,h⟩:=YaP h0 h1 b d _ _ h
  replace h:=(List.cons.inj h).2
  replace h:=(List.cons.inj h).2
  exact ⟨by rw [e1,e2],h⟩
theorem YdQ (x:Str):x.cps.toList.length=x.length:=Array.length_toList
theorem YaQ {lo:Int} {m0 m1:List Nat} {sp:Nat} (hlo:lo.natAbs<2^68) (hsp:sp≤3) (h0:∀ z∈m0,z∈NL) (h1:∀ z∈m1,z∈NL) (l0:m0.length≤8) (l1:m1.length≤8):∀ t:Tt,szT sp t≠0→(tdT lo m0 m1 t).shown.cps.toList.length+20≤100*2^dpT t∧(tdT lo m0 m1 t).showable=true∧(tdT lo m0 m1 t).depth≤2*dpT t+1
 | .lf o,hs=>by
  have ho:=(YcH hs).1
  have hb:(lo+(o:Int)).natAbs<10^45:=by
   have:(2:Nat)^68+10<10^45:=by decide
   omega
  have sw:=Yfu (n:=0) hb
  have z:=sw.len
  rw [← YdQ,show sb 0=60 from rfl] at z
  have r:=(Wr h0).2
  rw [tdT,Wl,dpT]
  simp only [List.length_cons,List.length_append,List.length_nil]
  refine ⟨by omega,?_,?_⟩
  ·simp only [PyData.showable,PyData.showableAll,Bool.true_and,Bool.and_true]
   exact sw.ok
  ·simp [PyData.depth,PyData.depthAll]
 | .nd a b,hs=>by
  obtain ⟨s1,s2,_⟩:=QT hs
  obtain ⟨a1,a2,a3⟩:=YaQ hlo hsp h0 h1 l0 l1 a s1
  obtain ⟨b1,b2,b3⟩:=YaQ hlo hsp h0 h1 l0 l1 b s2
  have r:=(Wr h1).2
  have pa:(2:Nat)^dpT a≤2^max (dpT a) (dpT b):=WP (by omega)
  have pb:(2:Nat)^dpT b≤2^max (dpT a) (dpT b):=WP (by omega)
  rw [tdT,Wl,Wl,dpT,Nat.pow_succ]
  simp only [List.length_cons,List.length_append,List.length_nil]
  refine ⟨by omega,?_,?_⟩
  ·simp only [PyData.showable,PyData.showableAll,Bool.true_and,Bool.and_true,a2,b2]
  ·simp only [PyData.depth,PyData.depthAll];omega
theorem Ye4:∀ {L:List Tt},pwT L=true→∀ (i j:Nat) t u,i<j→L[i]?=some t→L[j]?=some u→t≠u
 | x::L,h,i,j,t,u,hij,h1,h2=>by
  rw [pwT,Bool.and_eq_true,List.all_eq_true] at h
  obtain ⟨j,rfl⟩:∃ k,j=k+1:=⟨j - 1,by omega⟩
  have h2':L[j]?=some u:=by simpa using h2
  cases i with
  | zero =>
   cases Option.some.inj h1
   intro z
   subst z
   have:=h.1 _ (List.mem_of_getElem? h2')
   rw [Qg] at this
   cases this
  | succ i=>exact Ye4 h.2 i j t u (by omega) (by simpa using h1) h2'
theorem Ygx {lo:Int} {m0 m1:List Nat} (h0:∀ z∈m0,z∈NL) (h1:∀ z∈m1,z∈NL) {L:List Tt} (hp:pwT L=true):(met (fun i=>(L.map fun t=>(tdT lo m0 m1 t).shown).getD i "") (L.map fun t=>(tdT lo m0 m1 t).shown).length).length=L.length:=by
 rw [Ybg fun i j hij hj=>?_]
 ·simp
 ·rw [List.length_map] at hj
  have ei:L[i]?=some (L[i]'(by omega)):=List.getElem?_eq_getElem _
  have ej:L[j]?=some (L[j]'hj):=List.getElem?_eq_getElem _
  have ne:=Ye4 hp i j _ _ hij ei ej
  simp only [List.getD_eq_getElem?_getD,List.getElem?_map,ei,ej,Option.map_some,Option.getD_some]
  intro z
  exact ne (YaP (lo:=lo) h0 h1 (L[i]'(by omega)) (L[j]'hj) [] [] (by rw [z])).1
def DE (K:PySem.W.Frag) (t:TE) (σ:St) (H:Hp) (d:PyData):Prop:=∀ H1 Q,Yk H H1→(∀ v H',Yk H1 H'→Den K H' v d→Q v H')→t σ H1 Q
def DA (K:PySem.W.Frag) (t:TA) (σ:St) (H:Hp) (ds:List PyData):Prop:=∀ H1 Q,Yk H H1→(∀ vs H',Yk H1 H'→Dens K H' vs ds→Q vs H')→t σ H1 Q
section
 variable {K:PySem.W.Frag} {σ:St} {H:Hp} {d:PyData} {ds:List PyData} {t:TE} {u:TA}
theorem YdR {x:Str} (h:PyData.strOk x=true:=by decide +kernel):DE K (tC (.str x)) σ H (.str x):=fun H1 Q _ q=>q _ _ (.refl _) (.str _ h)
theorem UO {i:Nat} {v:V} (h:σ[i]?=some (some v)) (hd:Den K H v d):DE K (Vk i) σ H d:=fun H1 Q s q=>YbO h (q _ _ (.refl _) (hd.keep s))
theorem Wy:DA K W3 σ H []:=fun H1 Q s q=>q _ _ (.refl _) .nil
theorem Y1 (h1:DE K t σ H d) (h2:DA K u σ H ds):DA K (Wm t u) σ H (d::ds):=fun H1 Q s q=>h1 H1 _ s fun v H2 s2 hv=>h2 H2 _ (s.trans s2) fun vs H3 s3 hvs=>q _ _ (s2.trans s3) (.cons (hv.keep s3) hvs)
theorem WV (h:DA K u σ H ds) (hl:ds.length≤100:=by decide):DE K (UQ u) σ H (.tuple ds):=fun H1 Q s q=>h H1 _ s fun vs H2 s2 hvs=>by
 have hlen:vs.length≤100:=by rw [hvs.length];exact hl
 exact ⟨few (by omega),fun p hp=>q _ _ (s2.trans (.upd_new hp _)) (.tup (SqT.of Yg) (hvs.keep (.upd_new hp _)))⟩
theorem YaR (h:DE K t σ H d) {x:Str} (hx:PyData.strOk x=true:=by decide +kernel):DE K (UQ (Wm (tC (.str x)) (Wm t W3))) σ H (.tuple [.str x,d]):=WV (Y1 (YdR hx) (Y1 h Wy)) (by simp)
theorem lst_i {Q:VK} (h:DA K u σ H ds) (q:∀ vs B H1 H',Yk H H1→H1 B=none→H'=upd H1 B (.lst vs)→Dens K H1 vs ds→Q (.ref B) H') (hl:ds.length≤100:=by decide):Yb7 u σ H Q:=h H _ (.refl H) fun vs H2 s2 hvs=>by
 have hlen:vs.length≤100:=by rw [hvs.length];exact hl
 exact ⟨few (by omega),fun p hp=>q vs p H2 _ s2 hp rfl hvs⟩
end
theorem YfL {K:PySem.W.Frag} {H:Hp} {v:V} {x:List Nat} {sh:Sh} (h:Den K H v (.tuple [.str (S x),kd sh])) (hd:(kd sh).depth≤8):∃ T a,v = .ref T∧SqT K H T [.str (S x),.ref a]∧DK K H a (kd sh):=by
 obtain ⟨T,vs,rfl,_⟩:=Xy h
 obtain ⟨u,h1,h2⟩:=Uo h
 have h2':=h2
 obtain ⟨a,rfl⟩:∃ a,u = .ref a:=by
  cases sh<;>(rw [kd] at h2';obtain ⟨a,_,e,_⟩:=Xy h2';exact ⟨a,e⟩)
 exact ⟨T,a,rfl,h1,h2,UH _,hd⟩
theorem YcK {K:PySem.W.Frag} {H:Hp} {a:Addr} {x:List Nat} (h:SqT K H a [.str "use",.str (S x)]) (hs:PyData.strOk (S x)=true):Den K H (.ref a) (kd (.use x)):=by
 rw [kd]
 exact .tup h (.cons (.str _ (by decide +kernel)) (.cons (.str _ hs) .nil))
theorem YaS {K:PySem.W.Frag} {H:Hp} {a:Addr} {x:List Nat} (h:SqT K H a [.str "use",.str (S x)]) (hs:PyData.strOk (S x)=true):DK K H a (kd (.use x)):=⟨YcK h hs,UH _,by rw [kd];simp [PyData.depth,PyData.depthAll]⟩
theorem XW.keep' {K:PySem.W.Frag} {H H':Hp} {B:Addr} {prs:Prs} (h:XW K H B prs) (s:Yk H H'):XW K H' B prs:=by
 obtain ⟨vs,h1,h2,h3⟩:=h
 exact ⟨vs,s _ _ h1,h2,fun i v q a b=>by obtain ⟨T,c,e,f1,f2⟩:=h3 i v q a b;exact ⟨T,c,e,s.tup f1,f2.keep s⟩⟩
theorem Ygy {K:PySem.W.Frag} {H H':Hp} {a:Addr} {xs:List V} (k:Kt H H') (h:SqL K H a xs):SqL K H' a xs:=h.imp (fun h=>h.imp (fun e=>k _ _ (by intro ps z;cases z) e) fun ⟨o,e⟩=>⟨o,k _ _ (by intro ps z;cases z) e⟩) id
theorem Qk {H H':Hp} (k:Kt H H'):XU H H':=fun b xs h=>h.imp (fun e=>k _ _ (by intro ps z;cases z) e) fun ⟨o,e⟩=>⟨o,k _ _ (by intro ps z;cases z) e⟩
theorem XW.kt {K:PySem.W.Frag} {H H':Hp} {B:Addr} {prs:Prs} (h:XW K H B prs) (k:Kt H H'):XW K H' B prs:=h.tupk (Qk k) (by
 obtain ⟨vs,e,_⟩:=h
 intro o eo
 rw [e] at eo
 cases eo
 exact k.lst e)
theorem VOs.kt {H H':Hp} {us:List V} {ds:List PyData} (h:Vts H us ds) (k:Kt H H'):Vts H' us ds:=h.mono fun b xs n e=>⟨n,k.tup e⟩
theorem YfM {H:Hp} {P f c:Addr} {ps ps':Array Value} {q:Str} {fd:FuncData} (hP:H P=some (.tbl ps)) (hf:H f=none) (hc:H c=none):Kt H (upd (upd (upd H P (.tbl ps')) c (CdO c q)) f (FnO f fd)):=fun b o n e=>by
 rw [Yd (Yj e hf),Yd (Yj e hc),Yd (fun z=>by rw [z,hP] at e;exact n _ (Option.some.inj e).symm)]
 exact e
theorem YaT {P:Addr} {pos:Pos} {q:Str} {mk:Addr→FuncData→Prop} {H:Hp} {Q:VK} {ps:Array Value} (hP:H P=some (.tbl ps)) (ok:TriplesOk ps.toList) (no:codeAmong pos ps.toList=none)
  (h:∀ f c fd H',mk c fd→Kt H H'→H' f=some (FnO f fd)→H' c=some (CdO c q)→H' P=some (.tbl (ps++#[rawInt pos.line,rawInt pos.col,.ref c]))→Q (.ref f) H'):Made P pos q mk H Q :=
 ⟨ps,hP,ok,.inl ⟨no,fun f c fd g1 g2 g3 hm=>h f c fd _ hm (YfM hP g1 g2) Yg (by rw [Yd (Ne.symm g3),Yg]) (by rw [Yd (Yj hP g1),Yd (Yj hP g2),Yg])⟩⟩
theorem VT {H Hz:Hp} {l:YF} (hn:∀ c∈l.as,H c=none) (L:Vs H Hz l):Yk H Hz:=fun b o e=>by
 rw [L.2 b fun hb=>by rw [hn b hb] at e;cases e]
 exact e
theorem VU {H Hz H':Hp} {l:YF} (hn:∀ c∈l.as,H c=none) (L:Vs H Hz l) (s:Yk Hz H'):Yk H (off H' l.as):=fun b o e=>by
 rw [Xl fun hb=>by rw [hn b hb] at e;cases e]
 exact s _ _ (VT hn L _ _ e)
theorem YcL {lo:Int} {m0 m1:List Nat}:∀ t:Tt,(tdT lo m0 m1 t).depth≤2*dpT t+1
 | .lf o=>by rw [tdT,dpT];simp [PyData.depth,PyData.depthAll]
 | .nd a b=>by
  have:=YcL (lo:=lo) (m0:=m0) (m1:=m1) a
  have:=YcL (lo:=lo) (m0:=m0) (m1:=m1) b
  rw [tdT,dpT]
  simp only [PyData.depth,PyData.depthAll]
  omega
theorem YdS {lo:Int} {m0 m1:List Nat}:∀ {L:List Tt},(∀ t∈L,dpT t≤6)→PyData.depthAll (L.map (tdT lo m0 m1))≤13
 | [],_=>by simp [PyData.depthAll]
 | t::L,h=>by
  have:=YcL (lo:=lo) (m0:=m0) (m1:=m1) t
  have:=h t (.head _)
  have:=YdS (lo:=lo) (m0:=m0) (m1:=m1) fun u hu=>h u (.tail _ hu)
  rw [List.map_cons,PyData.depthAll]
  omega
theorem YfN (ns:List Int) (lo hi:Option Int):∃ zs:List Int,US (ns.map V.int) lo hi=zs.map V.int∧zs.length≤ns.length:=by
 unfold US
 rw [← List.map_drop,← List.map_take]
 exact ⟨_,rfl,by rw [List.length_take,List.length_drop];omega⟩
theorem nd3 (n:Nat):([n+1+1+1+1,n+1+1+1,n+1+1]:List Nat).Nodup:=by simp;omega
theorem nd2 (n:Nat):([n+1+1+1+1+1,n+1+1+1]:List Nat).Nodup:=by simp;omega
structure Ck (sp tm s:Nat):Prop where
 s11:s≤11
 len:(tms sp s).length=((tab sp tm 11).getD s []).sum
 few:(tms sp s).length≤60
 sz:∀ t∈tms sp s,szT sp t=s∧dpT t≤6
 pw:pwT (tms sp s)=true
 cn:∀ left,left<tm→((tms sp s).filter (p1 tm left)).length=((tab sp tm 11).getD s []).getD left 0
theorem ck_of {sp tm want:Nat} (hsp:sp=0∨sp=1∨sp=3) (htm:tm=1∨tm=2∨tm=3) (hw:want<12):Ck sp tm (lgF (tab sp tm 11) want 12 0):=by
 have h:=Yew
 rw [List.all_eq_true] at h
 have h:=h want (List.mem_range.mpr hw)
 rw [List.all_eq_true] at h
 have h:=h sp (by rcases hsp with rfl | rfl | rfl<;>simp)
 rw [List.all_eq_true] at h
 have h:=h tm (by rcases htm with rfl | rfl | rfl<;>simp)
 unfold chkT at h
 simp only [Bool.and_eq_true,decide_eq_true_eq,beq_iff_eq,List.all_eq_true] at h
 obtain ⟨⟨⟨⟨⟨h1,h2⟩,h3⟩,h4⟩,h5⟩,h6⟩:=h
 refine ⟨h1,h2,h3,h4,h5,fun left hl=>?_⟩
 rw [← h6 left (List.mem_range.mpr hl)]
 congr 1
theorem Ck.pos {sp tm s:Nat} (h:Ck sp tm s):∀ t∈tms sp s,Gd sp t:=fun t ht=>by
 obtain ⟨h1,h2⟩:=h.sz t ht
 refine ⟨fun z=>?_,h2⟩
 rw [h1] at z
 subst z
 cases ht
theorem Ye5 (c:Int) (k:Nat):∀ z∈nm c k,z∈NL:=by
 intro z hz
 rw [nm,List.mem_map] at hz
 obtain ⟨j,_,rfl⟩:=hz
 unfold nmL
 rw [List.getD_eq_getElem?_getD,List.getElem?_eq_getElem (by rw [YaI];omega)]
 exact List.getElem_mem _
theorem YfO (mk:List (List Nat)) (ps:List Sh):kd (.pick mk ps) = .tuple [.str "pick",.tuple (kdp mk ps)]:=by rw [kd]
theorem YdT (lo:Int) (sp:Nat) (x m0 m1:List Nat):kd (Wz lo sp x m0 m1) = .tuple [.str "pick",.tuple [.tuple [.str (S m0),kd (.w lo sp)],.tuple [.str (S m1),kd (two x)]]]:=by
 rw [Wz,YfO]
 simp only [kdp]
theorem Ygz (lo:Int) (sp:Nat) (x m0 m1:List Nat):(kd (Wz lo sp x m0 m1)).depth≤8:=by
 rw [YdT]
 simp only [two,kd,kds,PyData.depth,PyData.depthAll]
 decide
theorem at3 (x:Int):∃ sp:Nat,(sp=0∨sp=1∨sp=3)∧atI [V.int 0,V.int 1,V.int 3] (x%3)=some (.int (sp:Nat)):=by
 have:x%3=0∨x%3=1∨x%3=2:=by omega
 rcases this with h | h | h<;>rw [h]
 ·exact ⟨0,.inl rfl,rfl⟩
 ·exact ⟨1,.inr (.inl rfl),rfl⟩
 ·exact ⟨3,.inr (.inr rfl),rfl⟩
theorem YeD {k:Nat} {Z6 Z5 Z1 Z2 Z4 Z3 Z0:Addr} {c_law P_law:Addr} (bm:Bm g.mg g.base) (Cd_law:PySem.W.CodeHd g.base c_law P_law) (Z23:g.FnE k "all_values" ["book","shape","size","most"] [.int 400] (Z1R g.K (Cs.mk Z0 Z2 Z4 Z1 Z3))) (F_sieved:g.FnD k "sieved" ["book","shape","size","judge","most"] [.int 400] (sp_sieved g (Cs.mk Z0 Z2 Z4 Z1 Z3))) (Z0w:g.Fn k "_law_cell_at" ["_law_script","_law_k"] (sp_cell g.K)) (Z42:g.Fn k "_law_name" ["_law_cell","_law_k"] (Z3N)) (Z17:g.Fn k "_law_size_of" ["_law_value","_law_marks","_law_low","_law_span"] (sp_lsz g.K 9)) (Z06:g.Fn 29 "_law_leaves" ["_law_value","_law_marks"] (sp_llv g.K 9)) (Z0V:g.Fn 29 "_law_sum" ["_law_value","_law_marks"] (sp_lsm g.K 9)) (F_law_table:g.Fn k "_law_table" ["_law_span","_law_most","_law_times"] (sp_ltab)) (F_law_largest:g.Fn k "_law_largest" ["_law_table_here","_law_want"] (sp_llg g.K)) (hkc:30≤k) (Zs:g.mg "isinstance"=none) (b_len:g.mg "len"=none) (b_list:g.mg "list"=none) (Zt:g.mg "range"=none) (b_repr:g.mg "repr"=none) (b_set:g.mg "set"=none) (b_sum:g.mg "sum"=none):Ycr g k ["_law_script","_law_cell","_law_span","_law_times","_law_left","_law_low","_law_name_here","_law_marks","_law_node","_law_book","_law_table_here","_law_size","_law_found","_law_value","_law_some","_law_total","_law_due"] "law" V6 c_law (V4 g.K [("law",c_law,P_law)]):=by
 refine fun f_ A outer s H vs Q E hr h=>?_
 obtain ⟨a,ns,rfl,hS,hl,hT,q⟩:=h
 refine ⟨_,(@Ye _ _ _ _ _ (@Yq _ _ (1) _ _ _ _ Y8.nd rfl (.inl rfl) (@YH _ _ _ _ _ _ _ _ _ _ _ _ Z0w hr (@Ya _ _ _ _ _ (pv 0) (@Ya _ _ _ _ _ Yf Yc (by rfl)) (by rfl)) (by omega) (by rfl) (by rfl) (by decide) (by rfl) (by rfl)) (by rfl) (by first | exact .inl rfl | exact .inr rfl | assumption)) (@Ye _ _ _ _ _ (@Yq _ _ (2) _ _ _ _ Y8.nd rfl (.inl rfl) (@Yn _ _ _ _ _ _ _ Yw (@W7 _ _ _ _ (@Ya _ _ _ _ _ Yf (@Ya _ _ _ _ _ Yf (@Ya _ _ _ _ _ Yf Yc (by rfl)) (by rfl)) (by rfl))) (@Yl _ _ _ _ _ _ _ _ Xg (pv 1) Yf) (fun _ _=>rfl)) (by rfl) (by first | exact .inl rfl | exact .inr rfl | assumption)) (@Ye _ _ _ _ _ (@Yq _ _ (3) _ _ _ _ Y8.nd rfl (.inr rfl) (@Yl _ _ _ _ _ _ _ _ YQ Yf (@Yl _ _ _ _ _ _ _ _ Xg (@Yl _ _ _ _ _ _ _ _ Wb (pv 1) Yf) Yf)) (by rfl) (by first | exact .inl rfl | exact .inr rfl | assumption)) (@Ye _ _ _ _ _ (@Yq _ _ (4) _ _ _ _ Y8.nd rfl (.inr rfl) (@Yl _ _ _ _ _ _ _ _ Xg (@Yl _ _ _ _ _ _ _ _ Wb (pv 1) Yf) (pv 3)) (by rfl) (by first | exact .inl rfl | exact .inr rfl | assumption)) (@Ye _ _ _ _ _ (@Yq _ _ (5) _ _ _ _ Y8.nd rfl (.inl rfl) (@Yl _ _ _ _ _ _ _ _ Xm (@Yl _ _ _ _ _ _ _ _ Xg (@YH _ _ _ _ _ _ _ _ _ _ _ _ Z0w hr (@Ya _ _ _ _ _ (pv 0) (@Ya _ _ _ _ _ Yf Yc (by rfl)) (by rfl)) (by omega) (by rfl) (by rfl) (by decide) (by rfl) (by rfl)) (@Yl _ _ _ _ _ _ _ _ Q6 Yf Yf)) (@Yl _ _ _ _ _ _ _ _ Xw Yf (@Yl _ _ _ _ _ _ _ _ Q6 Yf Yf))) (by rfl) (by first | exact .inl rfl | exact .inr rfl | assumption)) (@Ye _ _ _ _ _ (@Yq _ _ (6) _ _ _ _ Y8.nd rfl (.inl rfl) (@YH _ _ _ _ _ _ _ _ _ _ _ _ Z42 hr (@Ya _ _ _ _ _ (@YH _ _ _ _ _ _ _ _ _ _ _ _ Z0w hr (@Ya _ _ _ _ _ (pv 0) (@Ya _ _ _ _ _ Yf Yc (by rfl)) (by rfl)) (by omega) (by rfl) (by rfl) (by decide) (by rfl) (by rfl)) (@Ya _ _ _ _ _ Yf Yc (by rfl)) (by rfl)) (by omega) (by rfl) (by rfl) (by decide) (by rfl) (by rfl)) (by rfl) (by first | exact .inl rfl | exact .inr rfl | assumption)) (@Ye _ _ _ _ _ (@Yq _ _ (7) _ _ _ _ Y8.nd rfl (.inr rfl) (@XF _ _ _ _ _ _ _ ([none,some 0]) ((["_law_k","_law_script"]:List Str)) _ (Yy 0) _ _ (.own (.cap (i:=0) rfl rfl (by first | exact .inl rfl | exact .inr rfl) .nil)) rfl (@Xk _ _ _ _ _ _ rfl Zt (@Ya _ _ _ _ _ Yf Yc (by rfl)) (by rfl)) (fun cl C s₀ H₀ fp pn=>(@Yx _ _ (0) _ (show List.Nodup (["_law_k","_law_script"]:List Str) by decide +kernel) rfl (.inl rfl) (.inr rfl))) (fun cl C s₀ H₀ fp pn=>Xb) (fun cl C s₀ H₀ fp pn=>(@YH _ _ _ _ _ _ _ _ _ _ _ _ Z42 hr (@Ya _ _ _ _ _ (@Yl _ _ _ _ _ _ _ _ Wb (@YH _ _ _ _ _ _ _ _ _ _ _ _ Z0w hr (@Ya _ _ _ _ _ (pv 1) (@Ya _ _ _ _ _ Yf Yc (by rfl)) (by rfl)) (by omega) (by rfl) (by rfl) (by decide) (by rfl) (by rfl)) Yf) (@Ya _ _ _ _ _ (pv 0) Yc (by rfl)) (by rfl)) (by omega) (by rfl) (by rfl) (by decide) (by rfl) (by rfl))) (by intro x hx;simp at hx;first | (subst hx;exact .inl rfl) | (rcases hx with rfl | rfl<;>exact .inl rfl) | (rcases hx with rfl | rfl | rfl<;>exact .inl rfl) | (rcases hx with rfl | rfl | rfl | rfl<;>exact .inl rfl) | (rcases hx with rfl | rfl | rfl | rfl | rfl<;>exact .inl rfl)) (by rfl) (by decide) (by decide +kernel) (by intro _;rfl)) (by rfl) (by first | exact .inl rfl | exact .inr rfl | assumption)) (@Ye _ _ _ _ _ (@Yq _ _ (8) _ _ _ _ Y8.nd rfl (.inl rfl) (@Xi _ _ _ _ _ (@Ya _ _ _ _ _ Y7 (@Ya _ _ _ _ _ (@Xi _ _ _ _ _ (@Ya _ _ _ _ _ (@Xi _ _ _ _ _ (@Ya _ _ _ _ _ Y7 (@Ya _ _ _ _ _ (pv 6) Yc (by rfl)) (by rfl))) (@Ya _ _ _ _ _ (@Xi _ _ _ _ _ (@Ya _ _ _ _ _ Y7 (@Ya _ _ _ _ _ (pv 6) Yc (by rfl)) (by rfl))) Yc (Xe _ _ _ _ _)) (Xe _ _ _ _ _))) Yc (Xe _ _ _ _ _)) (by rfl))) (by rfl) (by first | exact .inl rfl | exact .inr rfl | assumption)) (@Ye _ _ _ _ _ (@Yq _ _ (9) _ _ _ _ Y8.nd rfl (.inl rfl) (@W7 _ _ _ _ (@Ya _ _ _ _ _ (@Xi _ _ _ _ _ (@Ya _ _ _ _ _ (pv 6) (@Ya _ _ _ _ _ (@Xi _ _ _ _ _ (@Ya _ _ _ _ _ Y7 (@Ya _ _ _ _ _ (@Xi _ _ _ _ _ (@Ya _ _ _ _ _ (@Xi _ _ _ _ _ (@Ya _ _ _ _ _ (@Yn _ _ _ _ _ _ _ Yw (pv 7) Yf (fun _ _=>rfl)) (@Ya _ _ _ _ _ (@Xi _ _ _ _ _ (@Ya _ _ _ _ _ Y7 (@Ya _ _ _ _ _ (pv 5) (@Ya _ _ _ _ _ (@Yl _ _ _ _ _ _ _ _ YQ (pv 5) (pv 2)) Yc (by rfl)) (by rfl)) (by rfl))) Yc (Xe _ _ _ _ _)) (by rfl))) (@Ya _ _ _ _ _ (@Xi _ _ _ _ _ (@Ya _ _ _ _ _ (@Yn _ _ _ _ _ _ _ Yw (pv 7) Yf (fun _ _=>rfl)) (@Ya _ _ _ _ _ (pv 8) Yc (by rfl)) (by rfl))) Yc (Xe _ _ _ _ _)) (Xe _ _ _ _ _))) Yc (Xe _ _ _ _ _)) (by rfl))) Yc (Xe _ _ _ _ _)) (by rfl))) Yc (Xe _ _ _ _ _))) (by rfl) (by first | exact .inl rfl | exact .inr rfl | assumption)) (@Ye _ _ _ _ _ (@Yq _ _ (10) _ _ _ _ Y8.nd rfl (.inl rfl) (@YH _ _ _ _ _ _ _ _ _ _ _ _ F_law_table hr (@Ya _ _ _ _ _ (pv 2) (@Ya _ _ _ _ _ Yf (@Ya _ _ _ _ _ (pv 3) Yc (by rfl)) (by rfl)) (by rfl)) (by omega) (by rfl) (by rfl) (by decide) (by rfl) (by rfl)) (by rfl) (by first | exact .inl rfl | exact .inr rfl | assumption)) (@Ye _ _ _ _ _ (@Yq _ _ (11) _ _ _ _ Y8.nd rfl (.inl rfl) (@YH _ _ _ _ _ _ _ _ _ _ _ _ F_law_largest hr (@Ya _ _ _ _ _ (pv 10) (@Ya _ _ _ _ _ (@Yl _ _ _ _ _ _ _ _ Xg (@YH _ _ _ _ _ _ _ _ _ _ _ _ Z0w hr (@Ya _ _ _ _ _ (pv 0) (@Ya _ _ _ _ _ Yf Yc (by rfl)) (by rfl)) (by omega) (by rfl) (by rfl) (by decide) (by rfl) (by rfl)) Yf) Yc (by rfl)) (by rfl)) (by omega) (by rfl) (by rfl) (by decide) (by rfl) (by rfl)) (by rfl) (by first | exact .inl rfl | exact .inr rfl | assumption)) (@Ye _ _ _ _ _ (@Yq _ _ (12) _ _ _ _ Y8.nd rfl (.inl rfl) (@Yf8 _ _ _ _ _ _ _ _ _ _ _ _ _ Z23.d hr (@Ya _ _ _ _ _ (pv 9) (@Ya _ _ _ _ _ (@Xi _ _ _ _ _ (@Ya _ _ _ _ _ Y7 (@Ya _ _ _ _ _ (pv 6) Yc (by rfl)) (by rfl))) (@Ya _ _ _ _ _ (pv 11) Yc (by rfl)) (Xe _ _ _ _ _)) (by rfl)) (by omega) (by rfl) (by rfl) (by decide) (by rfl) (by rfl)) (by rfl) (by first | exact .inl rfl | exact .inr rfl | assumption)) (@Ye _ _ _ _ _ (@YV _ _ _ _ _ _ _ _ (@VX _ _ _ _ _ _ _ (@Us _ _ _ _ (@X0 _ _ _ (@YI _ _ _ _ _ _ _ _ _ _ Zs Y5 (@Ya _ _ _ _ _ (pv 12) (@Ya _ _ _ _ _ (@WC _ _ _ _ ("list") b_list (by decide +kernel) (by rfl) (by rfl) (by decide) (by decide)) Yc (by rfl)) (by rfl)) (by decide +kernel) (by rfl) (by rfl) (by decide) (by decide) (by rfl) (by rfl)) (by intro _;rfl))) (@Ur _ _ _ _ (@Yt _ _ _ _ _ _ _ _ VY (@YI _ _ _ _ _ _ _ _ _ _ b_len YA (@Ya _ _ _ _ _ (pv 12) Yc (by rfl)) (by decide +kernel) (by rfl) (by rfl) (by decide) (by decide) (by rfl) (by rfl)) (@YI _ _ _ _ _ _ _ _ _ _ b_sum XR (@Ya _ _ _ _ _ (@Yn _ _ _ _ _ _ _ Yw (pv 10) (pv 11) (fun _ _=>rfl)) Yc (by rfl)) (by decide +kernel) (by rfl) (by rfl) (by decide) (by decide) (by rfl) (by rfl)) (Yv _)))).pt (@Yh _ _ _ (@Ym _ _ _ _ VW)) YJ) (@Ye _ _ _ _ _ (@XO _ _ _ _ _ _ _ _ PassesOwn.never rfl (@XC _ _ _ _ (pv 12)) (@Yx _ _ (13) _ Y8.nd rfl (.inl rfl) (by first | exact .inl rfl | exact .inr rfl | assumption)) (@Yh _ _ _ (@YV _ _ _ _ _ _ _ _ (@Yt _ _ _ _ _ _ _ _ VY (@YH _ _ _ _ _ _ _ _ _ _ _ _ Z17 hr (@Ya _ _ _ _ _ (pv 13) (@Ya _ _ _ _ _ (pv 7) (@Ya _ _ _ _ _ (pv 5) (@Ya _ _ _ _ _ (pv 2) Yc (by rfl)) (by rfl)) (by rfl)) (by rfl)) (by omega) (by rfl) (by rfl) (by decide) (by rfl) (by rfl)) (pv 11) (Yv _)) (@Yh _ _ _ (@Ym _ _ _ _ VW)) YJ)) (by intro _;rfl)) (@Ye _ _ _ _ _ (@YV _ _ _ _ _ _ _ _ (@Yt _ _ _ _ _ _ _ _ VY (@YI _ _ _ _ _ _ _ _ _ _ b_len QE (@Ya _ _ _ _ _ (@QM _ _ _ _ _ _ _ _ _ _ b_set QF (@Ya _ _ _ _ _ (@XF _ _ _ _ _ _ _ ([none]) ((["_law_value"]:List Str)) _ (Yy 0) _ _ (.own .nil) rfl (@XC _ _ _ _ (pv 12)) (fun cl C s₀ H₀ fp pn=>(@Yx _ _ (0) _ (show List.Nodup (["_law_value"]:List Str) by decide +kernel) rfl (.inl rfl) (.inr rfl))) (fun cl C s₀ H₀ fp pn=>Xb) (fun cl C s₀ H₀ fp pn=>(@YI _ _ _ _ _ _ _ _ _ _ b_repr (Ycp (K:=g.K) hr) (@Ya _ _ _ _ _ (pv 0) Yc (by rfl)) (by decide +kernel) (by rfl) (by rfl) (by decide) (by decide) (by rfl) (by rfl))) (by intro x hx;simp at hx) (by rfl) (by decide) (by decide +kernel) (by intro _;rfl)) Yc (by rfl)) (by decide +kernel) (by rfl) (by rfl) (by decide) (by decide) (by rfl) (by rfl)) Yc (by rfl)) (by decide +kernel) (by rfl) (by rfl) (by decide) (by decide) (by rfl) (by rfl)) (@YI _ _ _ _ _ _ _ _ _ _ b_len YA (@Ya _ _ _ _ _ (pv 12) Yc (by rfl)) (by decide +kernel) (by rfl) (by rfl) (by decide) (by decide) (by rfl) (by rfl)) (Yv _)) (@Yh _ _ _ (@Ym _ _ _ _ VW)) YJ) (@Ye _ _ _ _ _ (@Yq _ _ (14) _ _ _ _ Y8.nd rfl (.inl rfl) (@Yan _ _ _ _ _ _ _ _ _ _ _ _ _ F_sieved hr (@Ya _ _ _ _ _ (pv 9) (@Ya _ _ _ _ _ (@Xi _ _ _ _ _ (@Ya _ _ _ _ _ Y7 (@Ya _ _ _ _ _ (pv 6) Yc (by rfl)) (by rfl))) (@Ya _ _ _ _ _ (pv 11) (@Ya _ _ _ _ _ (@Ydl _ _ _ _ _ _ _ _ _ bm Cd_law rfl rfl (Eq.trans rfl Ycv) rfl) Yc (by rfl)) (by rfl)) (Xe _ _ _ _ _)) (by rfl)) (by omega) (by rfl) (by rfl) (by decide) (by rfl) (by rfl) (by intro _;rfl) (by rfl) (by rfl)) (by rfl) (by first | exact .inl rfl | exact .inr rfl | assumption)) (@Ye _ _ _ _ _ (@YV _ _ _ _ _ _ _ _ (@Yt _ _ _ _ _ _ _ _ (Ydb hr.units) (pv 14) (@XF _ _ _ _ _ _ _ ([none,some 4,some 3,some 7]) ((["_law_value","_law_left","_law_times","_law_marks"]:List Str)) _ (Yy 0) _ _ (.own (.cap (i:=4) rfl rfl (by first | exact .inl rfl | exact .inr rfl) (.cap (i:=3) rfl rfl (by first | exact .inl rfl | exact .inr rfl) (.cap (i:=7) rfl rfl (by first | exact .inl rfl | exact .inr rfl) .nil)))) rfl (@XC _ _ _ _ (pv 12)) (fun cl C s₀ H₀ fp pn=>(@Yx _ _ (0) _ (show List.Nodup (["_law_value","_law_left","_law_times","_law_marks"]:List Str) by decide +kernel) rfl (.inl rfl) (.inr rfl))) (fun cl C s₀ H₀ fp pn=>(@UW _ _ _ (@Yt _ _ _ _ _ _ _ _ Xa (@Yl _ _ _ _ _ _ _ _ Xg (@YH _ _ _ _ _ _ _ _ _ _ _ _ Z06 hr (@Ya _ _ _ _ _ (pv 0) (@Ya _ _ _ _ _ (pv 3) Yc (by rfl)) (by rfl)) (by omega) (by rfl) (by rfl) (by decide) (by rfl) (by rfl)) (pv 2)) (pv 1) (Yv _)))) (fun cl C s₀ H₀ fp pn=>(pv 0)) (by intro x hx;simp at hx;first | (subst hx;exact .inl rfl) | (rcases hx with rfl | rfl<;>exact .inl rfl) | (rcases hx with rfl | rfl | rfl<;>exact .inl rfl) | (rcases hx with rfl | rfl | rfl | rfl<;>exact .inl rfl) | (rcases hx with rfl | rfl | rfl | rfl | rfl<;>exact .inl rfl)) (by rfl) (by decide) (by decide +kernel) (by intro _;rfl)) (Yv _)) (@Yh _ _ _ (@Ym _ _ _ _ VW)) YJ) (@Ye _ _ _ _ _ (@Yq _ _ (15) _ _ _ _ Y8.nd rfl (.inr rfl) (@YI _ _ _ _ _ _ _ _ _ _ b_sum XR (@Ya _ _ _ _ _ (@XF _ _ _ _ _ _ _ ([none]) ((["_law_cell"]:List Str)) _ (Yy 0) _ _ (.own .nil) rfl (@XC _ _ _ _ (@Yd0 _ _ _ _ _ _ _ _ _ _ Yfi (pv 0) Yff (@Yfg _ _ _ Yf))) (fun cl C s₀ H₀ fp pn=>(@Yx _ _ (0) _ (show List.Nodup (["_law_cell"]:List Str) by decide +kernel) rfl (.inl rfl) (.inr rfl))) (fun cl C s₀ H₀ fp pn=>Xb) (fun cl C s₀ H₀ fp pn=>(@Yl _ _ _ _ _ _ _ _ Xg (pv 0) (@Yl _ _ _ _ _ _ _ _ Q6 Yf Yf))) (by intro x hx;simp at hx) (by rfl) (by decide) (by decide +kernel) (by intro _;rfl)) Yc (by rfl)) (by decide +kernel) (by rfl) (by rfl) (by decide) (by decide) (by rfl) (by rfl)) (by rfl) (by first | exact .inl rfl | exact .inr rfl | assumption)) (@Ye _ _ _ _ _ (@UY _ (16) _ _ _ _ _ _ _ _ _ ([none,some 15,some 7]) ((["_law_value","_law_total","_law_marks"]:List Str)) _ (Yy 0) _ _ Y8.nd rfl (.inl rfl) (.own (.cap (i:=15) rfl rfl (by first | exact .inl rfl | exact .inr rfl) (.cap (i:=7) rfl rfl (by first | exact .inl rfl | exact .inr rfl) .nil))) rfl (@XC _ _ _ _ (pv 12)) (fun cl C s₀ H₀ fp pn=>(@Yx _ _ (0) _ (show List.Nodup (["_law_value","_law_total","_law_marks"]:List Str) by decide +kernel) rfl (.inl rfl) (.inr rfl))) (fun cl C s₀ H₀ fp pn=>(@UW _ _ _ (@Yt _ _ _ _ _ _ _ _ QJ (@Yl _ _ _ _ _ _ _ _ Xg (@Yl _ _ _ _ _ _ _ _ YQ (@YH _ _ _ _ _ _ _ _ _ _ _ _ Z0V hr (@Ya _ _ _ _ _ (pv 0) (@Ya _ _ _ _ _ (pv 2) Yc (by rfl)) (by rfl)) (by omega) (by rfl) (by rfl) (by decide) (by rfl) (by rfl)) (pv 1)) Yf) Yf (Yv _)))) (fun cl C s₀ H₀ fp pn=>(pv 0)) (by intro x hx;simp at hx;first | (subst hx;exact .inl rfl) | (rcases hx with rfl | rfl<;>exact .inl rfl) | (rcases hx with rfl | rfl | rfl<;>exact .inl rfl) | (rcases hx with rfl | rfl | rfl | rfl<;>exact .inl rfl) | (rcases hx with rfl | rfl | rfl | rfl | rfl<;>exact .inl rfl)) (by rfl) (by decide) (by decide +kernel) (by intro _;rfl) (by rfl) (by first | exact .inl rfl | exact .inr rfl | assumption)) (@Ye _ _ _ _ _ (@YV _ _ _ _ _ _ _ _ (@Yt _ _ _ _ _ _ _ _ (Ydb hr.units) (@Yan _ _ _ _ _ _ _ _ _ _ _ _ _ F_sieved hr (@Ya _ _ _ _ _ (pv 9) (@Ya _ _ _ _ _ (@Xi _ _ _ _ _ (@Ya _ _ _ _ _ Y7 (@Ya _ _ _ _ _ (pv 6) Yc (by rfl)) (by rfl))) (@Ya _ _ _ _ _ (pv 11) (@Ya _ _ _ _ _ (@Ydl _ _ _ _ _ _ _ _ _ bm Cd_law rfl rfl (Eq.trans rfl Ya0) rfl) Yc (by rfl)) (by rfl)) (Xe _ _ _ _ _)) (by rfl)) (by omega) (by rfl) (by rfl) (by decide) (by rfl) (by rfl) (by intro _;rfl) (by rfl) (by rfl)) (pv 16) (Yv _)) (@Yh _ _ _ (@Ym _ _ _ _ VW)) YJ) (@Yh _ _ _ (@Ym _ _ _ _ (@VZ _ _ _ _ _ _ _ _ Xa (@YI _ _ _ _ _ _ _ _ _ _ b_len YA (@Ya _ _ _ _ _ (pv 14) Yc (by rfl)) (by decide +kernel) (by rfl) (by rfl) (by decide) (by decide) (by rfl) (by rfl)) (@Yn _ _ _ _ _ _ _ Yw (@Yn _ _ _ _ _ _ _ Yw (pv 10) (pv 11) (fun _ _=>rfl)) (pv 4) (fun _ _=>rfl)) (Yv _)))))))))))))))))))))))),?_⟩
 have hP:H P_law=some (.tbl #[]):=hT ("law",c_law,P_law) (.head _)
 refine Yr fun R rr=>?_
 walk_at "rd"
 refine ⟨a,ns,0,rfl,hS,hl,rr _ _ (Yr fun R rr=>?_)⟩
 generalize ns.getD 0 0=cell
 walk_at "rd"
 obtain ⟨sp,hsp,esp⟩:=at3 cell
 refine ⟨few (by decide),fun pq1 hp1=>⟨by decide,_,SqL.of Yg,_,esp,rr _ _ (Yr fun R rr=>?_)⟩⟩
 have s1:=Yk.upd_new hp1 (.lst [V.int 0,V.int 1,V.int 3])
 generalize upd H pq1 (.lst [V.int 0,V.int 1,V.int 3])=H1 at s1
 walk_at "rd"
 obtain ⟨tm',etm,htm'⟩:=W9 (cell / 3) (j:=3) (by decide)
 obtain ⟨tm,htm,etm2⟩:∃ tm:Nat,(tm=1∨tm=2∨tm=3)∧1+(tm':Int)=(tm:Nat):=⟨tm'+1,by omega,by omega⟩
 refine ⟨Ws (by decide) (by decide),by decide,?_⟩
 rw [etm,etm2]
 refine rr _ _ (Yr fun R rr=>?_)
 walk_at "rd"
 have t0:(0:Int)<tm:=by omega
 obtain ⟨left,eleft,hleft⟩:=W9 (cell / 9) (j:=tm) t0
 refine ⟨Ws (by decide) (by decide),t0,?_⟩
 rw [eleft]
 refine rr _ _ (Yr fun R rr=>?_)
 walk_at "rd"
 refine ⟨a,ns,1,rfl,s1.seq hS,hl,cpow,_,rfl,by decide +kernel,cpow,.inl (cm (m:=4) (n:=80) (by decide) (by decide +kernel)),rr _ _ (Yr fun R rr=>?_)⟩
 obtain ⟨lo,elo,hlo⟩:∃ lo:Int,ns.getD 1 0%10^Int.toNat 20 - 5*10^Int.toNat 19=lo∧lo.natAbs<2^68:=by
  refine ⟨_,rfl,?_⟩
  generalize ns.getD 1 0=z
  have e1:(10:Int)^Int.toNat 20=100000000000000000000:=by decide +kernel
  have e2:(10:Int)^Int.toNat 19=10000000000000000000:=by decide +kernel
  have e3:(2:Nat)^68=295147905179352825856:=by decide +kernel
  rw [e1,e2,e3]
  omega
 rw [elo]
 walk_at "rd"
 refine ⟨a,ns,2,rfl,s1.seq hS,hl,_,0,rfl,rr _ _ (Yr fun R rr=>?_)⟩
 generalize ec:ns.getD 2 0=c2
 have okn:=YaH (YcG c2 0)
 have ok0:=YaH (YcG (c2 / 7) 0)
 have ok1:=YaH (YcG (c2 / 7) 1)
 have lx0:=YdM (c2 / 7) 0
 have lx1:=YdM (c2 / 7) 1
 have in0:=Ye5 (c2 / 7) 0
 have in1:=Ye5 (c2 / 7) 1
 have hne:nm (c2 / 7) 0≠nm (c2 / 7) 1:=fun z=>by have:=Ygr (by decide) (by decide) z;omega
 refine Vo (n:=2) [.str (S (nm (c2 / 7) 0)),.str (S (nm (c2 / 7) 1))] (fun R r=>by walk_at "rd";exact r) rfl (by decide) ?_ ?_
 ·intro k y H' hk hy sm R r
  walk_at "rd"
  refine ⟨a,ns,2,rfl,(s1.trans sm).seq hS,hl,_,rfl,Ws (by decide) (by decide),_,k,rfl,?_⟩
  rw [ec]
  match k,hy with
  | 0,hy=>cases Option.some.inj hy;exact r H' (.refl _)
  | 1,hy=>cases Option.some.inj hy;exact r H' (.refl _)
 intro M H2 gM s2 hM
 refine rr _ _ (Yr fun R rr=>?_)
 generalize nm c2 0=x at okn
 generalize nm (c2 / 7) 0=m0 at ok0 lx0 in0 hne hM
 generalize nm (c2 / 7) 1=m1 at ok1 lx1 in1 hne hM
 have l0:m0.length≤8:=by omega
 have l1:m1.length≤8:=by omega
 have s12:=s1.trans s2
 have hM2:WU H2 M m0 m1:=hM
 have du:∀ (o8 o9 o10 o11 o12 o13 o14 o15 o16:Option V) (H':Hp),DE g.K (UQ (Wm (tC (.str "use")) (Wm (Vk 6) W3))) [some (.ref a),some (.int cell),some (.int sp),some (.int tm),some (.int left),some (.int lo),some (.str (S x)),some (.ref M),o8,o9,o10,o11,o12,o13,o14,o15,o16] H' (kd (.use x)):=fun _ _ _ _ _ _ _ _ _ H'=>by rw [kd];exact YaR (x:="use") (UO rfl (.str _ okn))
 refine (YaR (K:=g.K) (x:="row") (WV (Y1 (du _ _ _ _ _ _ _ _ _ H2) (Y1 (du _ _ _ _ _ _ _ _ _ H2) Wy)) (by simp))) H2 _ (.refl H2) fun vn H3 s3 dn=>rr _ _ (Yr fun R rr=>?_)
 refine lst_i (K:=g.K) (ds:=[.tuple [.str (S x),kd (Wz lo sp x m0 m1)]]) ?_ (fun vs B H4 H5 s4 gB e5 hvs=>?_) (by simp)
 ·refine Y1 (WV (Y1 (UO rfl (.str _ okn)) (Y1 ?_ Wy)) (by simp)) Wy
  rw [YdT]
  refine YaR (x:="pick") (WV (Y1 (WV (Y1 ?_ (Y1 ?_ Wy)) (by simp)) (Y1 (WV (Y1 ?_ (Y1 (UO rfl ?_) Wy)) (by simp)) Wy)) (by simp))
  ·intro H1 Q s q
   walk_at "rd"
   exact ⟨_,SqL.of (s _ _ (s3 _ _ hM)),_,rfl,q _ _ (.refl _) (.str _ ok0)⟩
  ·rw [kd]
   refine WV (Y1 YdR (Y1 (UO rfl (.int _)) (Y1 ?_ Wy))) (by simp)
   intro H1 Q s q
   walk_at "rd"
   exact q _ _ (.refl _) (.int _)
  ·intro H1 Q s q
   walk_at "rd"
   exact ⟨_,SqL.of (s _ _ (s3 _ _ hM)),_,rfl,q _ _ (.refl _) (.str _ ok1)⟩
  ·rw [two,kd,kds,kds,kds]
   exact dn
 subst e5
 obtain ⟨v,r,rfl,hv,h0⟩:=Y9 hvs
 cases Wj h0
 have s5:=Yk.upd_new gB (.lst [v])
 have hB:XW g.K (upd H4 B (.lst [v])) B (Y3 lo sp x m0 m1):=⟨[v],Yg,rfl,fun i v' q' h1 h2=>by
  cases i with
  | zero =>
   cases Option.some.inj h1
   cases Option.some.inj h2
   exact YfL (hv.keep s5) (Ygz _ _ _ _ _)
  | succ i=>cases h1⟩
 have s25:=s3.trans (s4.trans s5)
 generalize upd H4 B (.lst [v])=H5 at hB s5 s25
 refine rr _ _ (Yr fun R rr=>?_)
 have s15:=s12.trans s25
 have hM5:=s25 _ _ hM
 walk_at "rd"
 refine ⟨sp,tm,rfl,hsp,htm,fun D H6 s6 hTb=>rr _ _ (Yr fun R rr=>?_)⟩
 have s16:=s15.trans s6
 walk_at "rd"
 obtain ⟨want,ew,hw⟩:=W9 (ns.getD 3 0) (j:=12) (by decide)
 refine ⟨a,ns,3,rfl,s16.seq hS,hl,_,rfl,by decide,?_⟩
 rw [ew]
 have tl:=Vg sp tm 11
 refine ⟨D,_,want,rfl,hTb,tl,by omega,fun row hr=>?_,?_⟩
 ·obtain ⟨i,hi⟩:=List.getElem?_of_mem hr
  have h1:=(List.getElem?_eq_some_iff.mp hi).1
  have h2:=(UM hsp htm (n:=11) (by decide) (i:=i) (by omega)).1
  rw [List.getD_eq_getElem?_getD,hi] at h2
  have h2:row.length=tm:=h2
  omega
 have ck:=ck_of hsp htm (want:=want) (by omega)
 generalize lgF (tab sp tm 11) want 12 0=sz at ck ⊢
 refine rr _ _ (Yr fun R rr=>?_)
 have hsp3:sp≤3:=by omega
 have hlen:=(UL (lo:=lo) (sp:=sp) (x:=x) (m0:=m0) (m1:=m1) sz).len
 have ckf:=ck.few
 have ck11:=ck.s11
 walk_at "rd"
 refine ⟨few (by decide),fun pu gu=>?_⟩
 have su:=Yk.upd_new gu (.tup [.str "use",.str (S x)])
 refine ⟨Y3 lo sp x m0 m1,B,pu,.use x,sz,400,rfl,hB.keep' (s6.trans su),YaS (SqT.of Yg) okn,Qh,YbG ok0 ok1,by simp [wt],by simp [dep],ck.s11,by omega,by omega,fun F us ds H7 s7 gF hF hv al=>rr _ _ (Yr fun R rr=>?_)⟩
 have ed:=YaE al
 subst ed
 have hul:=hv.length
 rw [List.length_map] at hul
 have s67:=su.trans s7
 have s57:=s6.trans s67
 have hTb7:=hTb.keep s67
 obtain ⟨rs,rz,d1,d2,d3⟩:=hTb7.row (i:=sz) (by omega)
 have hrow:=(UM hsp htm (n:=11) (by decide) (i:=sz) (by omega)).1
 have ckl:=ck.len
 have ckc:=ck.cn left (by omega)
 generalize (tab sp tm 11).getD sz []=row at d3 hrow ckl ckc
 walk_at "rd"
 refine ⟨_,rfl,_,.lst hF,true,rfl,?_⟩
 walk_at "rd"
 refine ⟨_,.inl (SqL.of hF),_,SqL.of d1,_,Yu (by rw [List.getElem?_map,d2];rfl),rz,rfl,_,SqL.of (by rw [d3];congr 2;exact (List.map_map (f:=fun x:Nat=>(x:Int)) (g:=V.int)).symm),YZ (fun z=>z ?_) (rr _ _ (Yr fun R rr=>?_))⟩
 ·rw [YbJ,hul,ckl]
 have hM7:WU H7 M m0 m1:=s57 _ _ hM5
 refine Yc9 (K:=g.K) (a:=F) (xs:=us) (fun i σ H'=>∃ o,σ=[some (.ref a),some (.int cell),some (.int sp),some (.int tm),some (.int left),some (.int lo),some (.str (S x)),some (.ref M),some vn,some (.ref B),some (.ref D),some (.int sz),some (.ref F),o,none,none,none]∧Yk H7 H') (fun R r=>by walk_at "rd";exact r) ⟨none,rfl,.refl _⟩ (fun i σ H' _ ⟨_,_,s'⟩=>SqL.of (s' _ _ hF)) ?_ ?_
 ·rintro i v σ H' hi ⟨o,rfl,s'⟩
  have hi':=(List.getElem?_eq_some_iff.mp hi).1
  have ht:(tms sp sz)[i]?=some ((tms sp sz)[i]'(by omega)):=List.getElem?_eq_getElem _
  generalize (tms sp sz)[i]'(by omega)=t at ht
  have hm:=List.mem_of_getElem? ht
  have gd:=ck.pos t hm
  have:=gd.dp
  walk_at "rd"
  refine ⟨v,M,lo,sp,m0,m1,t,rfl,(hv.at hi (by rw [List.getElem?_map,ht];rfl)).same s',s' _ _ hM7,hne,gd.sz,by omega,?_⟩
  rw [(ck.sz t hm).1]
  exact ⟨rfl,YZ (fun z=>z rfl) s'⟩
 rintro σ H8 ⟨o13,rfl,s8⟩
 refine rr _ _ (Yr fun R rr=>?_)
 have hF8:=s8 _ _ hF
 have hv8:=hv.same s8
 have hM8:WU H8 M m0 m1:=s8 _ _ hM7
 walk_at "rd"
 refine Qv (K:=g.K) (xs:=us) ((tms sp sz).map fun t=>V.str (tdT lo m0 m1 t).shown) (fun R r=>by walk_at "rd";exact r F H8 (.refl _) (SqL.of hF8)) (by rw [List.length_map,hul]) (by omega) ?_ ?_
 ·intro i v y H' hi hy sm R r
  rw [List.getElem?_map] at hy
  obtain ⟨t,ht,rfl⟩:=Option.map_eq_some_iff.mp hy
  have hm:=List.mem_of_getElem? ht
  have gd:=ck.pos t hm
  have d6:=gd.dp
  obtain ⟨k1,k2,k3⟩:=YaQ (lo:=lo) hlo hsp3 in0 in1 l0 l1 t gd.sz
  have pw:(2:Nat)^dpT t≤2^6:=WP d6
  walk_at "rd"
  exact ⟨_,((hv8.at hi (by rw [List.getElem?_map,ht];rfl)).same sm).den,k2,by omega,few (by rw [← YdQ];omega),r H' (.refl _)⟩
 intro G H9 gG s9 hG
 refine ⟨G,rfl,(tms sp sz).map fun t=>(tdT lo m0 m1 t).shown,SqL.of (by rw [hG,List.map_map];rfl),by rw [List.length_map];omega,fun Z gZ=>?_⟩
 rw [Ygx in0 in1 ck.pw]
 have s10:=Yk.upd_new gZ (UZ Z (tms sp sz).length)
 refine ⟨_,Yg,_,.inl (SqL.of (s10 _ _ (s9 _ _ hF8))),YZ (fun z=>z (by rw [hul])) (rr _ _ (Yr fun R rr=>?_))⟩
 have s89:=s9.trans s10
 generalize upd H9 Z (UZ Z (tms sp sz).length)=H10 at s10 s89
 have hF10:=s89 _ _ hF8
 have hv10:=hv8.same s89
 have s510:=s57.trans (s8.trans s89)
 have hM10:WU H10 M m0 m1:=s89 _ _ hM8
 have hB10:=hB.keep' s510
 have hP10:H10 P_law=some (.tbl #[]):=(s15.trans s510) _ _ hP
 unfold Yam
 walk_at "rd"
 refine ⟨few (by decide),fun pq2 gp2=>?_⟩
 have sp2:=Yk.upd_new gp2 (.tup [.str "use",.str (S x)])
 have hu2:SqT g.K (upd H10 pq2 (.tup [.str "use",.str (S x)])) pq2 [.str "use",.str (S x)]:=SqT.of Yg
 generalize upd H10 pq2 (.tup [.str "use",.str (S x)])=H11 at sp2 hu2
 have hP11:=sp2 _ _ hP10
 refine YaT hP11 trivial rfl fun f c fd H12 ⟨pm,ctv,e⟩ kt1 ff fc fP=>?_
 subst e
 have k12:=(WE sp2).trans kt1
 refine ⟨[("_law_times",s.heap.objs.size+1+1+1+1,.int (tm:Nat)),("_law_marks",s.heap.objs.size+1+1+1,.ref M),("_law_left",s.heap.objs.size+1+1,.int (left:Nat))],⟨nd3 _,fun z hz=>?_⟩,fun hn Hz L=>?_⟩
 ·simp only [List.mem_cons,List.not_mem_nil,or_false] at hz
  rcases hz with rfl | rfl | rfl
  ·exact ⟨3,rfl,rfl,rfl,rfl⟩
  ·exact ⟨7,rfl,rfl,rfl,rfl⟩
  ·exact ⟨4,rfl,rfl,rfl,rfl⟩
 have sz12:=VT hn L
 have jd:=jd1 (Z6:=Z6) (Z5:=Z5) (Z1:=Z1) (Z2:=Z2) (Z4:=Z4) (Z3:=Z3) (Z0:=Z0) (sp:=sp) (lo:=lo) Z06 (nd3 _) ⟨sz12 _ _ ff,sz12 _ _ fc,L.z⟩ (sz12 _ _ (k12.lst hM10)) hne (by omega)
 refine ⟨B,pq2,f,lo,sp,x,m0,m1,p1 tm left,sz,rfl,(hB10.kt k12).keep' sz12,YaS (sz12.tup (Qk kt1 |>.sq hu2)) okn,ok0,ok1,ck11,ckf,ck.pos,jd,fun D2 us2 H13 s13 gD2 hD2 hv2=>rr _ _ (Yr fun R rr=>?_)⟩
 have zz:=L.z.keep s13
 have k13:=k12.trans (WE (VU hn L s13))
 have fP13:=VU hn L s13 _ _ fP
 have hD3:=XJ zz (by intro x u z;cases z) hD2
 have hv3:Vts _ us2 _:=hv2.mono fun b us n e=>⟨n,XJ zz (by intro x u z;cases z) e⟩
 generalize off H13 (YF.as [("_law_times",s.heap.objs.size+1+1+1+1,V.int (tm:Nat)),("_law_marks",s.heap.objs.size+1+1+1,.ref M),("_law_left",s.heap.objs.size+1+1,.int (left:Nat))])=H14 at k13 fP13 hD3 hv3
 have hM14:=k13.lst hM10
 have hF14:=k13.lst hF10
 have hv14:=hv10.kt k13
 walk_at "rd"
 refine Uq (K:=g.K) (xs:=us) (L:=tms sp sz) hul (p1 tm left) (fun R r=>by walk_at "rd";exact r F H14 (.refl _) (SqL.of hF14)) (by omega) ?_ (fun x H' R r=>r) ?_
 ·intro i v t H' hi ht sm R r
  have gd:=ck.pos t (List.mem_of_getElem? ht)
  have:=gd.dp
  walk_at "rd"
  refine ⟨v,M,lo,m0,m1,t,rfl,(hv14.at hi (by rw [List.getElem?_map,ht];rfl)).same sm,sm _ _ hM14,hne,by omega,_,rfl,by omega,?_⟩
  rw [show decide ((lvs t:Int)%(tm:Int)=(left:Int))=p1 tm left t from decide_eq_decide.mpr (by rw [← Int.natCast_emod];omega)]
  exact r H' (.refl _)
 intro D3 H15 gD3 s15' hd3
 have e1:Den g.K H15 (.ref D2) (.list (((tms sp sz).filter (p1 tm left)).map (tdT lo m0 m1))) := .lst (SqL.of (s15' _ _ hD3)) (hv3.same s15').den
 have e2:Den g.K H15 (.ref D3) (.list (((tms sp sz).filter (p1 tm left)).map (tdT lo m0 m1))) := .lst (SqL.of hd3) (UN (hv14.same s15')).den
 have dpl:∀ p:Tt→Bool,(PyData.list (((tms sp sz).filter p).map (tdT lo m0 m1))).depth≤64:=fun p=>by
  have:=YdS (lo:=lo) (m0:=m0) (m1:=m1) (L:=(tms sp sz).filter p) fun t ht=>(ck.pos t (List.mem_filter.mp ht).1).dp
  rw [PyData.depth]
  omega
 refine ⟨_,e1,_,e2,dpl _,?_⟩
 rw [PySem.SeqAt.eqv_refl _ e1.lay]
 refine YZ (by decide) (rr _ _ (Yr fun R rr=>?_))
 have k15:=k13.trans (WE s15')
 have fP15:=s15' _ _ fP13
 have hD15:=s15' _ _ hD3
 have hl2:=hv2.length
 rw [List.length_map] at hl2
 walk_at "rd"
 obtain ⟨zs,ezs,lzs⟩:=YfN ns none (some 63)
 refine Qv (K:=g.K) (xs:=zs.map V.int) ((zs.map fun z=>z%10^Int.toNat 9).map V.int) (fun R r=>?_) (by simp) (by rw [List.length_map];omega) ?_ ?_
 ·walk_at "rd"
  exact ⟨_,Ygy ((WE (s15.trans s510)).trans k15) hS,fun p hp=>r p _ (.upd_new hp _) (SqL.of (by rw [Yg,ezs]))⟩
 ·intro i v y H' hi hy sm R r
  rw [List.getElem?_map] at hi
  obtain ⟨z,hz,rfl⟩:=Option.map_eq_some_iff.mp hi
  rw [List.getElem?_map,List.getElem?_map,hz] at hy
  cases Option.some.inj hy
  walk_at "rd"
  exact ⟨cpow,by decide +kernel,r H' (.refl _)⟩
 intro G2 H16 gG2 s16' hG2
 refine ⟨G2,rfl,_,SqL.of hG2,rr _ _ (Yr fun R rr=>?_)⟩
 generalize (zs.map fun z=>z%10^Int.toNat 9).sum=tot
 have k16:=k15.trans (WE s16')
 have hM16:=k16.lst hM10
 have hF16:=k16.lst hF10
 have hv16:=hv10.kt k16
 walk_at "rd"
 refine Uq (K:=g.K) (xs:=us) (L:=tms sp sz) hul (p2 lo tot) (fun R r=>by walk_at "rd";exact r F H16 (.refl _) (SqL.of hF16)) (by omega) ?_ (fun x H' R r=>r) ?_
 ·intro i v t H' hi ht sm R r
  have gd:=ck.pos t (List.mem_of_getElem? ht)
  have:=gd.dp
  walk_at "rd"
  exact ⟨v,M,lo,sp,m0,m1,t,rfl,(hv16.at hi (by rw [List.getElem?_map,ht];rfl)).same sm,sm _ _ hM16,hne,by omega,by omega,hlo,hsp3,gd.sz,_,rfl,by decide,r H' (.refl _)⟩
 intro D4 H17 gD4 s17 hd4
 refine rr _ _ (Yr fun R rr=>?_)
 have k17:=k16.trans (WE s17)
 have fP17:=s17 _ _ (s16' _ _ fP15)
 have hD17:=s17 _ _ (s16' _ _ hD15)
 have hv17:Vts H17 _ _:=UN (p:=p2 lo tot) (hv16.same s17)
 have hM17:=k17.lst hM10
 unfold Yam
 walk_at "rd"
 refine ⟨few (by decide),fun p3 gp3=>?_⟩
 have sp3:=Yk.upd_new gp3 (.tup [.str "use",.str (S x)])
 have hu3:SqT g.K (upd H17 p3 (.tup [.str "use",.str (S x)])) p3 [.str "use",.str (S x)]:=SqT.of Yg
 generalize upd H17 p3 (.tup [.str "use",.str (S x)])=H18 at sp3 hu3
 refine YaT (sp3 _ _ fP17) trivial rfl fun f2 c3 fd H19 ⟨pm2,ctv2,e⟩ kt2 ff2 fc2 fP2=>?_
 subst e
 have k19:=(WE sp3).trans kt2
 refine ⟨[("_law_total",s.heap.objs.size+1+1+1+1+1,.int tot),("_law_marks",s.heap.objs.size+1+1+1,.ref M)],⟨nd2 _,fun z hz=>?_⟩,fun hn Hz L=>?_⟩
 ·simp only [List.mem_cons,List.not_mem_nil,or_false] at hz
  rcases hz with rfl | rfl
  ·exact ⟨15,rfl,rfl,rfl,rfl⟩
  ·exact ⟨7,rfl,rfl,rfl,rfl⟩
 have sz19:=VT hn L
 have jd:=jd2 (Z6:=Z6) (Z5:=Z5) (Z1:=Z1) (Z2:=Z2) (Z4:=Z4) (Z3:=Z3) (Z0:=Z0) (sp:=sp) (lo:=lo) Z0V (nd2 _) ⟨sz19 _ _ ff2,sz19 _ _ fc2,L.z⟩ (sz19 _ _ (k19.lst hM17)) hne hlo hsp3
 refine ⟨B,p3,f2,lo,sp,x,m0,m1,p2 lo tot,sz,rfl,(hB10.kt (k17.trans k19)).keep' sz19,YaS (sz19.tup (Qk kt2 |>.sq hu3)) okn,ok0,ok1,ck11,ckf,ck.pos,jd,fun D5 us5 H20 s20 gD5 hD5 hv5=>?_⟩
 have zz:=L.z.keep s20
 have k20:=k19.trans (WE (VU hn L s20))
 have hD6:=XJ zz (by intro x u z;cases z) hD5
 have hv6:Vts _ us5 _:=hv5.mono fun b us n e=>⟨n,XJ zz (by intro x u z;cases z) e⟩
 generalize off H20 (YF.as [("_law_total",s.heap.objs.size+1+1+1+1+1,V.int tot),("_law_marks",s.heap.objs.size+1+1+1,.ref M)])=H21 at k20 hD6 hv6
 have e3:Den g.K H21 (.ref D5) (.list (((tms sp sz).filter (p2 lo tot)).map (tdT lo m0 m1))) := .lst (SqL.of hD6) hv6.den
 have e4:Den g.K H21 (.ref D4) (.list (((tms sp sz).filter (p2 lo tot)).map (tdT lo m0 m1))) := .lst (SqL.of (k20.lst hd4)) (hv17.kt k20).den
 refine ⟨_,e3,_,e4,dpl _,?_⟩
 rw [PySem.SeqAt.eqv_refl _ e3.lay]
 refine YZ (by decide) (rr _ _ ?_)
 have k21:=k17.trans k20
 have kD:Kt H7 H10:=WE (s8.trans s89)
 have kk:=kD.trans k21
 walk_at "rd"
 refine ⟨_,.inl (SqL.of (k20.lst hD17)),_,SqL.of (kk.lst d1),_,Yu (by rw [List.getElem?_map,d2];rfl),rz,rfl,_,SqL.of (kk.lst d3),_,Yu (Vh (by omega)),rfl,?_⟩
 rw [decide_eq_true (by rw [hl2,ckc])]
 exact q H21
theorem us1 {α:Type} {us:List α} (h:us.length=1):∃ a0,us=[a0]:=by
 match us,h with
 | [a0],_=>exact ⟨_,rfl⟩
theorem us2 {α:Type} {us:List α} (h:us.length=2):∃ a0 a1,us=[a0,a1]:=by
 match us,h with
 | [a0,a1],_=>exact ⟨_,_,rfl⟩
theorem us3 {α:Type} {us:List α} (h:us.length=3):∃ a0 a1 a2,us=[a0,a1,a2]:=by
 match us,h with
 | [a0,a1,a2],_=>exact ⟨_,_,_,rfl⟩
theorem us4 {α:Type} {us:List α} (h:us.length=4):∃ a0 a1 a2 a3,us=[a0,a1,a2,a3]:=by
 match us,h with
 | [a0,a1,a2,a3],_=>exact ⟨_,_,_,_,rfl⟩
theorem us5 {α:Type} {us:List α} (h:us.length=5):∃ a0 a1 a2 a3 a4,us=[a0,a1,a2,a3,a4]:=by
 match us,h with
 | [a0,a1,a2,a3,a4],_=>exact ⟨_,_,_,_,_,rfl⟩
structure Top (K:PySem.W.Frag) (mg:Str→Option Value) (Z6:Addr) (Z5:Addr) (Z1:Addr) (Z2:Addr) (Z4:Addr) (Z3:Addr) (Z0:Addr) (c_law P_law:Addr):Prop where
 ZE:∀ P w base,(Gx.mk P w K mg base).RawM Z0 "count_at" "Maker.count_at" Z0f ["self","size"]
 ZM:∀ P w base,(Gx.mk P w K mg base).RawM Z2 "count_at" "Maker.count_at" Z0J ["self","size"]
 ZH:∀ P w base,(Gx.mk P w K mg base).RawM Z1 "count_at" "Maker.count_at" Z0o ["self","size"]
 ZN:∀ P w base,(Gx.mk P w K mg base).RawM Z3 "count_at" "Maker.count_at" Z0K ["self","size"]
 Z1e:∀ P w base,(Gx.mk P w K mg base).Raw "least_distance" "least_distance" Z18 ["size"]
 ZS:∀ P w base,(Gx.mk P w K mg base).RawM Z0 "reckoned" "WholeMaker.reckoned" Z0c ["self","size"]
 Z3r:∀ P w base,(Gx.mk P w K mg base).Raw "ways_of" "ways_of" Z3h ["blocks"]
 ZV:∀ P w base,(Gx.mk P w K mg base).RawM Z4 "blocks_at" "RowTable.blocks_at" Z0k ["self","place","left"]
 ZZ:∀ P w base,(Gx.mk P w K mg base).RawM Z4 "add_size" "RowTable.add_size" Z0C ["self","size"]
 ZT:∀ P w base,(Gx.mk P w K mg base).RawM Z4 "ways_at" "RowTable.ways_at" Z0T ["self","place","left"]
 Z00:∀ P w base,(Gx.mk P w K mg base).RawM Z2 "reckoned" "RowMaker.reckoned" Z0E ["self","size"]
 Z01:∀ P w base,(Gx.mk P w K mg base).RawM Z3 "reckoned" "UseMaker.reckoned" Z0H ["self","size"]
 ZU:∀ P w base,(Gx.mk P w K mg base).RawM Z1 "blocks_at" "PickMaker.blocks_at" Z0e ["self","size"]
 ZW:∀ P w base,(Gx.mk P w K mg base).RawM Z1 "reckoned" "PickMaker.reckoned" Z0m ["self","size"]
 Z2T:∀ P w base,(Gx.mk P w K mg base).Raw "parts_of" "parts_of" Z2y ["shape"]
 Z1f:∀ P w base,(Gx.mk P w K mg base).RawC "Maker" "__init__" "Maker.__init__" Z1c ["self"]
 Z0h:∀ P w base,(Gx.mk P w K mg base).RawI "WholeMaker" Z0 "WholeMaker.__init__" Z0b ["self","low","high"]
 Z0q:∀ P w base,(Gx.mk P w K mg base).RawI "PickMaker" Z1 "PickMaker.__init__" Z0l ["self","marks","parts"]
 Z0L:∀ P w base,(Gx.mk P w K mg base).RawI "UseMaker" Z3 "UseMaker.__init__" Z0G ["self"]
 Z0M:∀ P w base,(Gx.mk P w K mg base).RawI "RowTable" Z4 "RowTable.__init__" Z0B ["self","parts"]
 Z0N:∀ P w base,(Gx.mk P w K mg base).RawI "RowMaker" Z2 "RowMaker.__init__" Z0D ["self","parts"]
 Z10:∀ P w base,(Gx.mk P w K mg base).RawI "Lister" Z5 "Lister.__init__" Z0Y ["self","book"]
 Z2U:∀ P w base,(Gx.mk P w K mg base).Raw "shape_of" "shape_of" Z2z ["book","name"]
 Z03:∀ P w base,(Gx.mk P w K mg base).RawM Z5 "new_maker" "Lister.new_maker" Z0S ["self","shape"]
 Z07:∀ P w base,(Gx.mk P w K mg base).RawM Z5 "add_use" "Lister.add_use" Z1a ["self","shape"]
 ZY:∀ P w base,(Gx.mk P w K mg base).RawM Z5 "maker_of" "Lister.maker_of" Z0Z ["self","shape"]
 Z2k:∀ P w base,(Gx.mk P w K mg base).Raw "maker_for" "maker_for" Z29 ["book","shape"]
 Z1g:∀ P w base,(Gx.mk P w K mg base).RawI "Found" Z6 "Found.__init__" Z1b ["self","place","choice","rest"]
 Z2V:∀ P w base,(Gx.mk P w K mg base).Raw "found_in" "found_in" Z2A ["blocks","number"]
 ZF:∀ P w base,(Gx.mk P w K mg base).RawM Z0 "value_at" "WholeMaker.value_at" Z0d ["self","size","number"]
 ZO:∀ P w base,(Gx.mk P w K mg base).RawM Z3 "value_at" "UseMaker.value_at" Z0I ["self","size","number"]
 ZI:∀ P w base,(Gx.mk P w K mg base).RawM Z1 "value_at" "PickMaker.value_at" Z0n ["self","size","number"]
 ZP:∀ P w base,(Gx.mk P w K mg base).RawM Z2 "value_at" "RowMaker.value_at" Z0F ["self","size","number"]
 Z2W:∀ P w base,(Gx.mk P w K mg base).Raw "all_made" "all_made" Z2B ["maker","size"]
 Z11:∀ P w base,(Gx.mk P w K mg base).Raw "refuse_too_many" "refuse_too_many" Z0X ["count","most"]
 Z24:∀ P w base,(Gx.mk P w K mg base).RawDX "all_values" "all_values" Z21 ["book","shape","size","most"] [.int 400]
 Z2X:∀ P w base,(Gx.mk P w K mg base).Raw "_law_name" "_law_name" Z2C ["_law_cell","_law_k"]
 Z1S:∀ P w base,(Gx.mk P w K mg base).Raw "_law_cell_at" "_law_cell_at" Z1O ["_law_script","_law_k"]
 Z2l:∀ P w base,(Gx.mk P w K mg base).Raw "_law_whole" "_law_whole" Z2a ["_law_found"]
 Z1h:∀ P w base,(Gx.mk P w K mg base).Raw "_law_leaf_count" "_law_leaf_count" Z19 ["_law_span","_law_size"]
 Z2m:∀ P w base,(Gx.mk P w K mg base).Raw "_law_table" "_law_table" Z2b ["_law_span","_law_most","_law_times"]
 Z1T:∀ P w base,(Gx.mk P w K mg base).Raw "_law_largest" "_law_largest" Z1Q ["_law_table_here","_law_want"]
 Z0x:∀ P w base,(Gx.mk P w K mg base).Raw "_law_size_of" "_law_size_of" Z1P ["_law_value","_law_marks","_law_low","_law_span"]
 Z0W:∀ P w base,(Gx.mk P w K mg base).Raw "_law_leaves" "_law_leaves" Z22 ["_law_value","_law_marks"]
 Z1M:∀ P w base,(Gx.mk P w K mg base).Raw "_law_sum" "_law_sum" Z3j ["_law_value","_law_marks"]
 Z25:∀ P w base,(Gx.mk P w K mg base).Raw "copied" "copied" Uj ["thing"]
 f_holds:∀ P w base,(Gx.mk P w K mg base).Raw "holds" "holds" U5 ["judge","value"]
 f_sieved:∀ P w base,(Gx.mk P w K mg base).RawD "sieved" "sieved" Uk ["book","shape","size","judge","most"] [.int 400]
 ZC:Cls K Z6
 Zw:Yb K Z6 "place"
 Zz:Yb K Z6 "choice"
 ZJ:Yb K Z6 "rest"
 Zr:Cls K Z5
 Zu:Yb K Z5 "book"
 Zp:Yb K Z5 "makers"
 Zc:Cls K Z1
 Z9:Yb K Z1 "counts"
 Zg:Yb K Z1 "marks"
 Ze:Yb K Z1 "parts"
 Zi:Cls K Z2
 Za:Yb K Z2 "counts"
 Zl:Yb K Z2 "parts"
 Zj:Yb K Z2 "table"
 Zn:Cls K Z4
 Zo:Yb K Z4 "parts"
 Zm:Yb K Z4 "ways"
 Zk:Cls K Z3
 Zb:Yb K Z3 "counts"
 Zh:Yb K Z3 "named"
 Z8:Cls K Z0
 Z7:Yb K Z0 "counts"
 Zf:Yb K Z0 "low"
 Zd:Yb K Z0 "span"
 b_bool:mg "bool"=none
 b_dict:mg "dict"=none
 Z0z:mg "enumerate"=none
 b_int:mg "int"=none
 Zs:mg "isinstance"=none
 b_len:mg "len"=none
 b_list:mg "list"=none
 b_max:mg "max"=none
 b_min:mg "min"=none
 Zt:mg "range"=none
 b_repr:mg "repr"=none
 b_set:mg "set"=none
 b_str:mg "str"=none
 b_sum:mg "sum"=none
 ZX:mg "tuple"=none
theorem YeE {K:PySem.W.Frag} {mg:Str→Option Value} {Z6 Z5 Z1 Z2 Z4 Z3 Z0:Addr} {c_law P_law:Addr}  (t:Top K mg Z6 Z5 Z1 Z2 Z4 Z3 Z0 c_law P_law) (P:Program) (w:World) (base:Heap) (hB:Bm mg base) (hC_law:PySem.W.CodeHd base c_law P_law) :
  Ycr (Gx.mk P w K mg base) 221 ["_law_script","_law_cell","_law_span","_law_times","_law_left","_law_low","_law_name_here","_law_marks","_law_node","_law_book","_law_table_here","_law_size","_law_found","_law_value","_law_some","_law_total","_law_due"] "law" V6 c_law (V4 K [("law",c_law,P_law)]):=by
 have Z0r:=Z3y (g:=Gx.mk P w K mg base) (Z6:=Z6) (Z5:=Z5) (Z1:=Z1) (Z2:=Z2) (Z4:=Z4) (Z3:=Z3) (Z0:=Z0) (c_law:=c_law) (P_law:=P_law) (t.Z1e P w base)
 have Z28:=Ycx (g:=Gx.mk P w K mg base) (Z6:=Z6) (Z5:=Z5) (Z1:=Z1) (Z2:=Z2) (Z4:=Z4) (Z3:=Z3) (Z0:=Z0) (c_law:=c_law) (P_law:=P_law) (t.Z3r P w base) t.b_sum
 have Z2u:∀ i:Nat,((Gx.mk P w K mg base).Me (1+i+1) Z0 "count_at" ["self","size"] (Zq (Cs.mk Z0 Z2 Z4 Z1 Z3) 0 (i+1)))∧((Gx.mk P w K mg base).Me (1+i+1) Z2 "count_at" ["self","size"] (Zq (Cs.mk Z0 Z2 Z4 Z1 Z3) 2 (i+1)))∧((Gx.mk P w K mg base).Me (1+i+1) Z1 "count_at" ["self","size"] (Zq (Cs.mk Z0 Z2 Z4 Z1 Z3) 3 (i+1)))∧((Gx.mk P w K mg base).Me (1+i+1) Z3 "count_at" ["self","size"] (Zq (Cs.mk Z0 Z2 Z4 Z1 Z3) 5 (i+1)))∧((Gx.mk P w K mg base).Me (1+i+1) Z4 "blocks_at" ["self","place","left"] (Z1u (Cs.mk Z0 Z2 Z4 Z1 Z3) (i+1)))∧((Gx.mk P w K mg base).Me (1+i+1) Z4 "add_size" ["self","size"] (sp_add (Cs.mk Z0 Z2 Z4 Z1 Z3) (i+1)))∧((Gx.mk P w K mg base).Me (1+i+1) Z4 "ways_at" ["self","place","left"] (sp_ways (Cs.mk Z0 Z2 Z4 Z1 Z3) (i+1)))∧((Gx.mk P w K mg base).Me (1+i+1) Z1 "blocks_at" ["self","size"] (Z1x (Cs.mk Z0 Z2 Z4 Z1 Z3) (i+1)))∧((Gx.mk P w K mg base).Me (1+i+1) Z0 "reckoned" ["self","size"] (sp_reck (Cs.mk Z0 Z2 Z4 Z1 Z3) 0 (i+1)))∧((Gx.mk P w K mg base).Me (1+i+1) Z2 "reckoned" ["self","size"] (sp_reck (Cs.mk Z0 Z2 Z4 Z1 Z3) 2 (i+1)))∧((Gx.mk P w K mg base).Me (1+i+1) Z3 "reckoned" ["self","size"] (sp_reck (Cs.mk Z0 Z2 Z4 Z1 Z3) 5 (i+1)))∧((Gx.mk P w K mg base).Me (1+i+1) Z1 "reckoned" ["self","size"] (sp_reck (Cs.mk Z0 Z2 Z4 Z1 Z3) 3 (i+1))):=by
  intro i
  induction i with
  | zero=>exact ⟨Z13 (g:=Gx.mk P w K mg base) (m:=0) (k:=1) (Z6:=Z6) (Z5:=Z5) (Z1:=Z1) (Z2:=Z2) (Z4:=Z4) (Z3:=Z3) (Z0:=Z0) (c_law:=c_law) (P_law:=P_law) (t.ZE P w base) ((t.ZS P w base).none (fun _ _ _ _ h=>V9 h)) t.b_len t.Z8 t.Z7 t.Zf t.Zd,Z1s (g:=Gx.mk P w K mg base) (m:=0) (k:=1) (Z6:=Z6) (Z5:=Z5) (Z1:=Z1) (Z2:=Z2) (Z4:=Z4) (Z3:=Z3) (Z0:=Z0) (c_law:=c_law) (P_law:=P_law) (t.ZM P w base) ((t.Z00 P w base).none (fun _ _ _ _ h=>V9 h)) t.b_len t.Zi t.Za t.Zl t.Zj,Z1k (g:=Gx.mk P w K mg base) (m:=0) (k:=1) (Z6:=Z6) (Z5:=Z5) (Z1:=Z1) (Z2:=Z2) (Z4:=Z4) (Z3:=Z3) (Z0:=Z0) (c_law:=c_law) (P_law:=P_law) (t.ZH P w base) ((t.ZW P w base).none (fun _ _ _ _ h=>V9 h)) t.b_len t.Zc t.Z9 t.Zg t.Ze,Z1t (g:=Gx.mk P w K mg base) (m:=0) (k:=1) (Z6:=Z6) (Z5:=Z5) (Z1:=Z1) (Z2:=Z2) (Z4:=Z4) (Z3:=Z3) (Z0:=Z0) (c_law:=c_law) (P_law:=P_law) (t.ZN P w base) ((t.Z01 P w base).none (fun _ _ _ _ h=>V9 h)) t.b_len t.Zk t.Zb t.Zh,Z1l (g:=Gx.mk P w K mg base) (m:=0) (k:=1) (Z6:=Z6) (Z5:=Z5) (Z1:=Z1) (Z2:=Z2) (Z4:=Z4) (Z3:=Z3) (Z0:=Z0) (c_law:=c_law) (P_law:=P_law) (t.ZV P w base) ((t.ZT P w base).none (fun _ _ _ _ h=>Ybt h)) ((t.ZE P w base).none (fun _ _ _ _ h=>Z04 h)) ((t.ZM P w base).none (fun _ _ _ _ h=>Z04 h)) ((t.ZH P w base).none (fun _ _ _ _ h=>Z04 h)) ((t.ZN P w base).none (fun _ _ _ _ h=>Z04 h)) t.Zt t.Zc t.Z9 t.Zg t.Ze t.Zi t.Za t.Zl t.Zj t.Zn t.Zo t.Zm t.Zk t.Zb t.Zh t.Z8 t.Z7 t.Zf t.Zd,Z1v (g:=Gx.mk P w K mg base) (m:=0) (k:=1) (Z6:=Z6) (Z5:=Z5) (Z1:=Z1) (Z2:=Z2) (Z4:=Z4) (Z3:=Z3) (Z0:=Z0) (c_law:=c_law) (P_law:=P_law) (t.ZZ P w base) (Z28.mono (by omega)) ((t.ZV P w base).none (fun _ _ _ _ h=>Ycy h)) t.b_len t.Zt t.Zn t.Zo t.Zm,Z1E (g:=Gx.mk P w K mg base) (m:=0) (k:=1) (Z6:=Z6) (Z5:=Z5) (Z1:=Z1) (Z2:=Z2) (Z4:=Z4) (Z3:=Z3) (Z0:=Z0) (c_law:=c_law) (P_law:=P_law) (t.ZT P w base) ((t.ZZ P w base).none (fun _ _ _ _ h=>Ygd h)) t.b_len t.Zn t.Zo t.Zm,Z15 (g:=Gx.mk P w K mg base) (m:=0) (k:=1) (Z6:=Z6) (Z5:=Z5) (Z1:=Z1) (Z2:=Z2) (Z4:=Z4) (Z3:=Z3) (Z0:=Z0) (c_law:=c_law) (P_law:=P_law) (t.ZU P w base) ((t.ZE P w base).none (fun _ _ _ _ h=>Z04 h)) ((t.ZM P w base).none (fun _ _ _ _ h=>Z04 h)) ((t.ZH P w base).none (fun _ _ _ _ h=>Z04 h)) ((t.ZN P w base).none (fun _ _ _ _ h=>Z04 h)) t.Zc t.Z9 t.Zg t.Ze t.Zi t.Za t.Zl t.Zj t.Zk t.Zb t.Zh t.Z8 t.Z7 t.Zf t.Zd,Z14 (g:=Gx.mk P w K mg base) (m:=0) (k:=1) (Z6:=Z6) (Z5:=Z5) (Z1:=Z1) (Z2:=Z2) (Z4:=Z4) (Z3:=Z3) (Z0:=Z0) (c_law:=c_law) (P_law:=P_law) (t.ZS P w base) (Z0r.mono (by omega)) t.b_max t.b_min t.Z8 t.Z7 t.Zf t.Zd,Z1w (g:=Gx.mk P w K mg base) (m:=0) (k:=1) (Z6:=Z6) (Z5:=Z5) (Z1:=Z1) (Z2:=Z2) (Z4:=Z4) (Z3:=Z3) (Z0:=Z0) (c_law:=c_law) (P_law:=P_law) (t.Z00 P w base) ((t.ZT P w base).none (fun _ _ _ _ h=>Ybt h)) t.Zi t.Za t.Zl t.Zj t.Zn t.Zo t.Zm,Z1y (g:=Gx.mk P w K mg base) (m:=0) (k:=1) (Z6:=Z6) (Z5:=Z5) (Z1:=Z1) (Z2:=Z2) (Z4:=Z4) (Z3:=Z3) (Z0:=Z0) (c_law:=c_law) (P_law:=P_law) (t.Z01 P w base) ((t.ZE P w base).none (fun _ _ _ _ h=>Z04 h)) ((t.ZM P w base).none (fun _ _ _ _ h=>Z04 h)) ((t.ZH P w base).none (fun _ _ _ _ h=>Z04 h)) ((t.ZN P w base).none (fun _ _ _ _ h=>Z04 h)) t.Zc t.Z9 t.Zg t.Ze t.Zi t.Za t.Zl t.Zj t.Zk t.Zb t.Zh t.Z8 t.Z7 t.Zf t.Zd,Z1m (g:=Gx.mk P w K mg base) (m:=0) (k:=1) (Z6:=Z6) (Z5:=Z5) (Z1:=Z1) (Z2:=Z2) (Z4:=Z4) (Z3:=Z3) (Z0:=Z0) (c_law:=c_law) (P_law:=P_law) (t.ZW P w base) (Z28.mono (by omega)) ((t.ZU P w base).none (fun _ _ _ _ h=>YcA h)) t.Zc t.Z9 t.Zg t.Ze⟩
  | succ i ih =>
   obtain ⟨Z0i,Z0O,Z0s,Z0P,Z2Y,Z3b,Z1N,Z2v,Z2w,Z3c,Z3d,Z2Z⟩:=ih
   exact ⟨Z13 (g:=Gx.mk P w K mg base) (m:=i+1) (k:=1+i+1) (Z6:=Z6) (Z5:=Z5) (Z1:=Z1) (Z2:=Z2) (Z4:=Z4) (Z3:=Z3) (Z0:=Z0) (c_law:=c_law) (P_law:=P_law) (t.ZE P w base) Z2w t.b_len t.Z8 t.Z7 t.Zf t.Zd,Z1s (g:=Gx.mk P w K mg base) (m:=i+1) (k:=1+i+1) (Z6:=Z6) (Z5:=Z5) (Z1:=Z1) (Z2:=Z2) (Z4:=Z4) (Z3:=Z3) (Z0:=Z0) (c_law:=c_law) (P_law:=P_law) (t.ZM P w base) Z3c t.b_len t.Zi t.Za t.Zl t.Zj,Z1k (g:=Gx.mk P w K mg base) (m:=i+1) (k:=1+i+1) (Z6:=Z6) (Z5:=Z5) (Z1:=Z1) (Z2:=Z2) (Z4:=Z4) (Z3:=Z3) (Z0:=Z0) (c_law:=c_law) (P_law:=P_law) (t.ZH P w base) Z2Z t.b_len t.Zc t.Z9 t.Zg t.Ze,Z1t (g:=Gx.mk P w K mg base) (m:=i+1) (k:=1+i+1) (Z6:=Z6) (Z5:=Z5) (Z1:=Z1) (Z2:=Z2) (Z4:=Z4) (Z3:=Z3) (Z0:=Z0) (c_law:=c_law) (P_law:=P_law) (t.ZN P w base) Z3d t.b_len t.Zk t.Zb t.Zh,Z1l (g:=Gx.mk P w K mg base) (m:=i+1) (k:=1+i+1) (Z6:=Z6) (Z5:=Z5) (Z1:=Z1) (Z2:=Z2) (Z4:=Z4) (Z3:=Z3) (Z0:=Z0) (c_law:=c_law) (P_law:=P_law) (t.ZV P w base) Z1N Z0i Z0O Z0s Z0P t.Zt t.Zc t.Z9 t.Zg t.Ze t.Zi t.Za t.Zl t.Zj t.Zn t.Zo t.Zm t.Zk t.Zb t.Zh t.Z8 t.Z7 t.Zf t.Zd,Z1v (g:=Gx.mk P w K mg base) (m:=i+1) (k:=1+i+1) (Z6:=Z6) (Z5:=Z5) (Z1:=Z1) (Z2:=Z2) (Z4:=Z4) (Z3:=Z3) (Z0:=Z0) (c_law:=c_law) (P_law:=P_law) (t.ZZ P w base) (Z28.mono (by omega)) Z2Y t.b_len t.Zt t.Zn t.Zo t.Zm,Z1E (g:=Gx.mk P w K mg base) (m:=i+1) (k:=1+i+1) (Z6:=Z6) (Z5:=Z5) (Z1:=Z1) (Z2:=Z2) (Z4:=Z4) (Z3:=Z3) (Z0:=Z0) (c_law:=c_law) (P_law:=P_law) (t.ZT P w base) Z3b t.b_len t.Zn t.Zo t.Zm,Z15 (g:=Gx.mk P w K mg base) (m:=i+1) (k:=1+i+1) (Z6:=Z6) (Z5:=Z5) (Z1:=Z1) (Z2:=Z2) (Z4:=Z4) (Z3:=Z3) (Z0:=Z0) (c_law:=c_law) (P_law:=P_law) (t.ZU P w base) Z0i Z0O Z0s Z0P t.Zc t.Z9 t.Zg t.Ze t.Zi t.Za t.Zl t.Zj t.Zk t.Zb t.Zh t.Z8 t.Z7 t.Zf t.Zd,Z14 (g:=Gx.mk P w K mg base) (m:=i+1) (k:=1+i+1) (Z6:=Z6) (Z5:=Z5) (Z1:=Z1) (Z2:=Z2) (Z4:=Z4) (Z3:=Z3) (Z0:=Z0) (c_law:=c_law) (P_law:=P_law) (t.ZS P w base) (Z0r.mono (by omega)) t.b_max t.b_min t.Z8 t.Z7 t.Zf t.Zd,Z1w (g:=Gx.mk P w K mg base) (m:=i+1) (k:=1+i+1) (Z6:=Z6) (Z5:=Z5) (Z1:=Z1) (Z2:=Z2) (Z4:=Z4) (Z3:=Z3) (Z0:=Z0) (c_law:=c_law) (P_law:=P_law) (t.Z00 P w base) Z1N t.Zi t.Za t.Zl t.Zj t.Zn t.Zo t.Zm,Z1y (g:=Gx.mk P w K mg base) (m:=i+1) (k:=1+i+1) (Z6:=Z6) (Z5:=Z5) (Z1:=Z1) (Z2:=Z2) (Z4:=Z4) (Z3:=Z3) (Z0:=Z0) (c_law:=c_law) (P_law:=P_law) (t.Z01 P w base) Z0i Z0O Z0s Z0P t.Zc t.Z9 t.Zg t.Ze t.Zi t.Za t.Zl t.Zj t.Zk t.Zb t.Zh t.Z8 t.Z7 t.Zf t.Zd,Z1m (g:=Gx.mk P w K mg base) (m:=i+1) (k:=1+i+1) (Z6:=Z6) (Z5:=Z5) (Z1:=Z1) (Z2:=Z2) (Z4:=Z4) (Z3:=Z3) (Z0:=Z0) (c_law:=c_law) (P_law:=P_law) (t.ZW P w base) (Z28.mono (by omega)) Z2v t.Zc t.Z9 t.Zg t.Ze⟩
 obtain ⟨Z1o,Z1G,Z1B,Z1H,Z1C,G_RowTable_add_size,G_RowTable_ways_at,Z1p,G_WholeMaker_reckoned,G_RowMaker_reckoned,G_UseMaker_reckoned,G_PickMaker_reckoned⟩:=Z2u 180
 have Z43:=Ya1 (g:=Gx.mk P w K mg base) (Z6:=Z6) (Z5:=Z5) (Z1:=Z1) (Z2:=Z2) (Z4:=Z4) (Z3:=Z3) (Z0:=Z0) (c_law:=c_law) (P_law:=P_law) (t.Z2T P w base) t.b_list
 have Z0t:=Z3z (g:=Gx.mk P w K mg base) (Z6:=Z6) (Z5:=Z5) (Z1:=Z1) (Z2:=Z2) (Z4:=Z4) (Z3:=Z3) (Z0:=Z0) (c_law:=c_law) (P_law:=P_law) (t.Z1f P w base) t.Zc t.Z9 t.Zg t.Ze t.Zi t.Za t.Zl t.Zj t.Zk t.Zb t.Zh t.Z8 t.Z7 t.Zf t.Zd
 have Z1q:=Z2i (g:=Gx.mk P w K mg base) (k:=1) (Z6:=Z6) (Z5:=Z5) (Z1:=Z1) (Z2:=Z2) (Z4:=Z4) (Z3:=Z3) (Z0:=Z0) (c_law:=c_law) (P_law:=P_law) (t.Z0h P w base) (Z0t.mono (by decide)) t.Z8 t.Z7 t.Zf t.Zd
 have Z1D:=Z2r (g:=Gx.mk P w K mg base) (k:=1) (Z6:=Z6) (Z5:=Z5) (Z1:=Z1) (Z2:=Z2) (Z4:=Z4) (Z3:=Z3) (Z0:=Z0) (c_law:=c_law) (P_law:=P_law) (t.Z0q P w base) (Z0t.mono (by decide)) t.Zc t.Z9 t.Zg t.Ze
 have Z1I:=Z2O (g:=Gx.mk P w K mg base) (k:=1) (Z6:=Z6) (Z5:=Z5) (Z1:=Z1) (Z2:=Z2) (Z4:=Z4) (Z3:=Z3) (Z0:=Z0) (c_law:=c_law) (P_law:=P_law) (t.Z0L P w base) (Z0t.mono (by decide)) t.Zk t.Zb t.Zh
 have Z3e:=Z2P (g:=Gx.mk P w K mg base) (Z6:=Z6) (Z5:=Z5) (Z1:=Z1) (Z2:=Z2) (Z4:=Z4) (Z3:=Z3) (Z0:=Z0) (c_law:=c_law) (P_law:=P_law) (t.Z0M P w base) t.b_len t.Zt t.Zn t.Zo t.Zm
 have Z1J:=Z2Q (g:=Gx.mk P w K mg base) (k:=2) (Z6:=Z6) (Z5:=Z5) (Z1:=Z1) (Z2:=Z2) (Z4:=Z4) (Z3:=Z3) (Z0:=Z0) (c_law:=c_law) (P_law:=P_law) (t.Z0N P w base) Z3e (by decide) (Z0t.mono (by decide)) t.Zi t.Za t.Zl t.Zj
 have Z3E:=Z3n (g:=Gx.mk P w K mg base) (Z6:=Z6) (Z5:=Z5) (Z1:=Z1) (Z2:=Z2) (Z4:=Z4) (Z3:=Z3) (Z0:=Z0) (c_law:=c_law) (P_law:=P_law) (t.Z10 P w base) t.Zr t.Zu t.Zp
 have Z44:=Ya2 (g:=Gx.mk P w K mg base) (Z6:=Z6) (Z5:=Z5) (Z1:=Z1) (Z2:=Z2) (Z4:=Z4) (Z3:=Z3) (Z0:=Z0) (c_law:=c_law) (P_law:=P_law) (t.Z2U P w base)
 have Z3s:∀ i:Nat,((Gx.mk P w K mg base).Me (4+i+1) Z5 "new_maker" ["self","shape"] (sp_new (Gx.mk P w K mg base).P (Gx.mk P w K mg base).w (Gx.mk P w K mg base).K (Cs.mk Z0 Z2 Z4 Z1 Z3) Z5 (i+1)))∧((Gx.mk P w K mg base).Me (4+i+1) Z5 "add_use" ["self","shape"] (Z1Z (Gx.mk P w K mg base).P (Gx.mk P w K mg base).w (Gx.mk P w K mg base).K (Cs.mk Z0 Z2 Z4 Z1 Z3) Z5 (i+1)))∧((Gx.mk P w K mg base).Me (4+i+1) Z5 "maker_of" ["self","shape"] (Z08 (Gx.mk P w K mg base).P (Gx.mk P w K mg base).w (Gx.mk P w K mg base).K (Cs.mk Z0 Z2 Z4 Z1 Z3) Z5 (i+1))):=by
  intro i
  induction i with
  | zero=>exact ⟨Z1F (g:=Gx.mk P w K mg base) (m:=0) (k:=4) (Z6:=Z6) (Z5:=Z5) (Z1:=Z1) (Z2:=Z2) (Z4:=Z4) (Z3:=Z3) (Z0:=Z0) (c_law:=c_law) (P_law:=P_law) (t.Z03 P w base) (Z43.mono (by omega)) ((t.ZY P w base).none (fun _ _ _ _ h=>Z3L h)) Z1q (by omega) Z1J (by omega) Z1D (by omega) t.Zr t.Zu t.Zp,Z1V (g:=Gx.mk P w K mg base) (m:=0) (k:=4) (Z6:=Z6) (Z5:=Z5) (Z1:=Z1) (Z2:=Z2) (Z4:=Z4) (Z3:=Z3) (Z0:=Z0) (c_law:=c_law) (P_law:=P_law) (t.Z07 P w base) (Z44.mono (by omega)) ((t.ZY P w base).none (fun _ _ _ _ h=>Z3L h)) Z1I (by omega) t.Zr t.Zu t.Zp t.Zk t.Zb t.Zh,Z1L (g:=Gx.mk P w K mg base) (m:=0) (k:=4) (Z6:=Z6) (Z5:=Z5) (Z1:=Z1) (Z2:=Z2) (Z4:=Z4) (Z3:=Z3) (Z0:=Z0) (c_law:=c_law) (P_law:=P_law) (t.ZY P w base) ((t.Z07 P w base).none (fun _ _ _ _ h=>YcD h)) ((t.Z03 P w base).none (fun _ _ _ _ h=>Ygh h)) t.Zr t.Zu t.Zp⟩
  | succ i ih =>
   obtain ⟨Z3t,Z3S,Z1W⟩:=ih
   exact ⟨Z1F (g:=Gx.mk P w K mg base) (m:=i+1) (k:=4+i+1) (Z6:=Z6) (Z5:=Z5) (Z1:=Z1) (Z2:=Z2) (Z4:=Z4) (Z3:=Z3) (Z0:=Z0) (c_law:=c_law) (P_law:=P_law) (t.Z03 P w base) (Z43.mono (by omega)) Z1W Z1q (by omega) Z1J (by omega) Z1D (by omega) t.Zr t.Zu t.Zp,Z1V (g:=Gx.mk P w K mg base) (m:=i+1) (k:=4+i+1) (Z6:=Z6) (Z5:=Z5) (Z1:=Z1) (Z2:=Z2) (Z4:=Z4) (Z3:=Z3) (Z0:=Z0) (c_law:=c_law) (P_law:=P_law) (t.Z07 P w base) (Z44.mono (by omega)) Z1W Z1I (by omega) t.Zr t.Zu t.Zp t.Zk t.Zb t.Zh,Z1L (g:=Gx.mk P w K mg base) (m:=i+1) (k:=4+i+1) (Z6:=Z6) (Z5:=Z5) (Z1:=Z1) (Z2:=Z2) (Z4:=Z4) (Z3:=Z3) (Z0:=Z0) (c_law:=c_law) (P_law:=P_law) (t.ZY P w base) Z3S Z3t t.Zr t.Zu t.Zp⟩
 obtain ⟨G_Lister_new_maker,G_Lister_add_use,Z3F⟩:=Z3s 59
 have G_maker_for:=Yay (g:=Gx.mk P w K mg base) (k:=64) (Z6:=Z6) (Z5:=Z5) (Z1:=Z1) (Z2:=Z2) (Z4:=Z4) (Z3:=Z3) (Z0:=Z0) (c_law:=c_law) (P_law:=P_law) (t.Z2k P w base) Z3E (by decide) (Z3F.mono (by decide)) t.Zr t.Zu t.Zp
 have Z3T:=Z3B (g:=Gx.mk P w K mg base) (Z6:=Z6) (Z5:=Z5) (Z1:=Z1) (Z2:=Z2) (Z4:=Z4) (Z3:=Z3) (Z0:=Z0) (c_law:=c_law) (P_law:=P_law) (t.Z1g P w base) t.ZC t.Zw t.Zz t.ZJ
 have Z20:=Ya4 (g:=Gx.mk P w K mg base) (k:=2) (Z6:=Z6) (Z5:=Z5) (Z1:=Z1) (Z2:=Z2) (Z4:=Z4) (Z3:=Z3) (Z0:=Z0) (c_law:=c_law) (P_law:=P_law) (t.Z2V P w base) Z3T (by decide)
 have Z30:∀ i:Nat,((Gx.mk P w K mg base).Me (182+i+1) Z0 "value_at" ["self","size","number"] (sp_val (Cs.mk Z0 Z2 Z4 Z1 Z3) 0 (i+1)))∧((Gx.mk P w K mg base).Me (182+i+1) Z2 "value_at" ["self","size","number"] (sp_val (Cs.mk Z0 Z2 Z4 Z1 Z3) 2 (i+1)))∧((Gx.mk P w K mg base).Me (182+i+1) Z1 "value_at" ["self","size","number"] (sp_val (Cs.mk Z0 Z2 Z4 Z1 Z3) 3 (i+1)))∧((Gx.mk P w K mg base).Me (182+i+1) Z3 "value_at" ["self","size","number"] (sp_val (Cs.mk Z0 Z2 Z4 Z1 Z3) 5 (i+1))):=by
  intro i
  induction i with
  | zero=>exact ⟨Z16 (g:=Gx.mk P w K mg base) (m:=0) (k:=182) (Z6:=Z6) (Z5:=Z5) (Z1:=Z1) (Z2:=Z2) (Z4:=Z4) (Z3:=Z3) (Z0:=Z0) (c_law:=c_law) (P_law:=P_law) (t.ZF P w base) (Z0r.mono (by omega)) t.Z8 t.Z7 t.Zf t.Zd,Z1A (g:=Gx.mk P w K mg base) (m:=0) (k:=182) (Z6:=Z6) (Z5:=Z5) (Z1:=Z1) (Z2:=Z2) (Z4:=Z4) (Z3:=Z3) (Z0:=Z0) (c_law:=c_law) (P_law:=P_law) (t.ZP P w base) (Z20.mono (by omega)) ((t.ZF P w base).none (fun _ _ _ _ h=>XB h)) (Z1C.mono (by omega)) ((t.ZP P w base).none (fun _ _ _ _ h=>XB h)) ((t.ZI P w base).none (fun _ _ _ _ h=>XB h)) ((t.ZO P w base).none (fun _ _ _ _ h=>XB h)) t.Z0z t.ZX t.ZC t.Zw t.Zz t.ZJ t.Zc t.Z9 t.Zg t.Ze t.Zi t.Za t.Zl t.Zj t.Zn t.Zo t.Zm t.Zk t.Zb t.Zh t.Z8 t.Z7 t.Zf t.Zd,Z1n (g:=Gx.mk P w K mg base) (m:=0) (k:=182) (Z6:=Z6) (Z5:=Z5) (Z1:=Z1) (Z2:=Z2) (Z4:=Z4) (Z3:=Z3) (Z0:=Z0) (c_law:=c_law) (P_law:=P_law) (t.ZI P w base) (Z20.mono (by omega)) ((t.ZF P w base).none (fun _ _ _ _ h=>XB h)) ((t.ZP P w base).none (fun _ _ _ _ h=>XB h)) (Z1p.mono (by omega)) ((t.ZI P w base).none (fun _ _ _ _ h=>XB h)) ((t.ZO P w base).none (fun _ _ _ _ h=>XB h)) t.ZC t.Zw t.Zz t.ZJ t.Zc t.Z9 t.Zg t.Ze t.Zi t.Za t.Zl t.Zj t.Zk t.Zb t.Zh t.Z8 t.Z7 t.Zf t.Zd,Z1z (g:=Gx.mk P w K mg base) (m:=0) (k:=182) (Z6:=Z6) (Z5:=Z5) (Z1:=Z1) (Z2:=Z2) (Z4:=Z4) (Z3:=Z3) (Z0:=Z0) (c_law:=c_law) (P_law:=P_law) (t.ZO P w base) ((t.ZF P w base).none (fun _ _ _ _ h=>XB h)) ((t.ZP P w base).none (fun _ _ _ _ h=>XB h)) ((t.ZI P w base).none (fun _ _ _ _ h=>XB h)) ((t.ZO P w base).none (fun _ _ _ _ h=>XB h)) t.Zc t.Z9 t.Zg t.Ze t.Zi t.Za t.Zl t.Zj t.Zk t.Zb t.Zh t.Z8 t.Z7 t.Zf t.Zd⟩
  | succ i ih =>
   obtain ⟨Z0j,Z0Q,Z0u,Z0R⟩:=ih
   exact ⟨Z16 (g:=Gx.mk P w K mg base) (m:=i+1) (k:=182+i+1) (Z6:=Z6) (Z5:=Z5) (Z1:=Z1) (Z2:=Z2) (Z4:=Z4) (Z3:=Z3) (Z0:=Z0) (c_law:=c_law) (P_law:=P_law) (t.ZF P w base) (Z0r.mono (by omega)) t.Z8 t.Z7 t.Zf t.Zd,Z1A (g:=Gx.mk P w K mg base) (m:=i+1) (k:=182+i+1) (Z6:=Z6) (Z5:=Z5) (Z1:=Z1) (Z2:=Z2) (Z4:=Z4) (Z3:=Z3) (Z0:=Z0) (c_law:=c_law) (P_law:=P_law) (t.ZP P w base) (Z20.mono (by omega)) Z0j (Z1C.mono (by omega)) Z0Q Z0u Z0R t.Z0z t.ZX t.ZC t.Zw t.Zz t.ZJ t.Zc t.Z9 t.Zg t.Ze t.Zi t.Za t.Zl t.Zj t.Zn t.Zo t.Zm t.Zk t.Zb t.Zh t.Z8 t.Z7 t.Zf t.Zd,Z1n (g:=Gx.mk P w K mg base) (m:=i+1) (k:=182+i+1) (Z6:=Z6) (Z5:=Z5) (Z1:=Z1) (Z2:=Z2) (Z4:=Z4) (Z3:=Z3) (Z0:=Z0) (c_law:=c_law) (P_law:=P_law) (t.ZI P w base) (Z20.mono (by omega)) Z0j Z0Q (Z1p.mono (by omega)) Z0u Z0R t.ZC t.Zw t.Zz t.ZJ t.Zc t.Z9 t.Zg t.Ze t.Zi t.Za t.Zl t.Zj t.Zk t.Zb t.Zh t.Z8 t.Z7 t.Zf t.Zd,Z1z (g:=Gx.mk P w K mg base) (m:=i+1) (k:=182+i+1) (Z6:=Z6) (Z5:=Z5) (Z1:=Z1) (Z2:=Z2) (Z4:=Z4) (Z3:=Z3) (Z0:=Z0) (c_law:=c_law) (P_law:=P_law) (t.ZO P w base) Z0j Z0Q Z0u Z0R t.Zc t.Z9 t.Zg t.Ze t.Zi t.Za t.Zl t.Zj t.Zk t.Zb t.Zh t.Z8 t.Z7 t.Zf t.Zd⟩
 obtain ⟨Z2x,Z3f,Z31,Z3g⟩:=Z30 35
 have G_all_made:=Ya5 (g:=Gx.mk P w K mg base) (k:=218) (Z6:=Z6) (Z5:=Z5) (Z1:=Z1) (Z2:=Z2) (Z4:=Z4) (Z3:=Z3) (Z0:=Z0) (c_law:=c_law) (P_law:=P_law) (t.Z2W P w base) (Z2x.mono (by decide)) (Z3f.mono (by decide)) (Z31.mono (by decide)) (Z3g.mono (by decide)) (Z1o.mono (by decide)) (Z1G.mono (by decide)) (Z1B.mono (by decide)) (Z1H.mono (by decide)) t.Zt t.Zc t.Z9 t.Zg t.Ze t.Zi t.Za t.Zl t.Zj t.Zk t.Zb t.Zh t.Z8 t.Z7 t.Zf t.Zd
 have Z3G:=Z3q (g:=Gx.mk P w K mg base) (Z6:=Z6) (Z5:=Z5) (Z1:=Z1) (Z2:=Z2) (Z4:=Z4) (Z3:=Z3) (Z0:=Z0) (c_law:=c_law) (P_law:=P_law) (t.Z11 P w base)
 have Z3u:=QH (g:=Gx.mk P w K mg base) (k:=219) (Z6:=Z6) (Z5:=Z5) (Z1:=Z1) (Z2:=Z2) (Z4:=Z4) (Z3:=Z3) (Z0:=Z0) (c_law:=c_law) (P_law:=P_law) (t.Z24 P w base) (G_maker_for.mono (by decide)) (Z3G.mono (by decide)) (G_all_made.mono (by decide)) (Z1o.mono (by decide)) (Z1G.mono (by decide)) (Z1B.mono (by decide)) (Z1H.mono (by decide)) t.Zc t.Z9 t.Zg t.Ze t.Zi t.Za t.Zl t.Zj t.Zk t.Zb t.Zh t.Z8 t.Z7 t.Zf t.Zd
 have G_law_name:=Ya6 (g:=Gx.mk P w K mg base) (Z6:=Z6) (Z5:=Z5) (Z1:=Z1) (Z2:=Z2) (Z4:=Z4) (Z3:=Z3) (Z0:=Z0) (c_law:=c_law) (P_law:=P_law) (t.Z2X P w base) t.Zt
 have G_law_cell_at:=Z46 (g:=Gx.mk P w K mg base) (Z6:=Z6) (Z5:=Z5) (Z1:=Z1) (Z2:=Z2) (Z4:=Z4) (Z3:=Z3) (Z0:=Z0) (c_law:=c_law) (P_law:=P_law) (t.Z1S P w base) t.b_len
 have Z3O:=YaJ (g:=Gx.mk P w K mg base) (Z6:=Z6) (Z5:=Z5) (Z1:=Z1) (Z2:=Z2) (Z4:=Z4) (Z3:=Z3) (Z0:=Z0) (c_law:=c_law) (P_law:=P_law) (t.Z2l P w base) t.b_bool t.b_int t.Zs
 have Z3U:=Z3D (g:=Gx.mk P w K mg base) (Z6:=Z6) (Z5:=Z5) (Z1:=Z1) (Z2:=Z2) (Z4:=Z4) (Z3:=Z3) (Z0:=Z0) (c_law:=c_law) (P_law:=P_law) (t.Z1h P w base) t.b_max t.b_min t.Zt
 have G_law_table:=YaM (g:=Gx.mk P w K mg base) (k:=1) (Z6:=Z6) (Z5:=Z5) (Z1:=Z1) (Z2:=Z2) (Z4:=Z4) (Z3:=Z3) (Z0:=Z0) (c_law:=c_law) (P_law:=P_law) (t.Z2m P w base) (Z3U.mono (by decide)) t.Zt
 have G_law_largest:=Z47 (g:=Gx.mk P w K mg base) (Z6:=Z6) (Z5:=Z5) (Z1:=Z1) (Z2:=Z2) (Z4:=Z4) (Z3:=Z3) (Z0:=Z0) (c_law:=c_law) (P_law:=P_law) (t.Z1T P w base) t.b_sum
 have Z48:∀ i:Nat,((Gx.mk P w K mg base).Fn (1+i+1) "_law_size_of" ["_law_value","_law_marks","_law_low","_law_span"] (sp_lsz (Gx.mk P w K mg base).K (i+1))):=by
  intro i
  induction i with
  | zero=>exact (Z2t (g:=Gx.mk P w K mg base) (m:=0) (k:=1) (Z6:=Z6) (Z5:=Z5) (Z1:=Z1) (Z2:=Z2) (Z4:=Z4) (Z3:=Z3) (Z0:=Z0) (c_law:=c_law) (P_law:=P_law) (t.Z0x P w base) (Z3O.mono (by omega)) ((t.Z0x P w base).none (fun _ _ _ _ h=>Ygs h)) t.Zs t.b_len t.b_str t.ZX)
  | succ i ih =>
   have I_law_size_of:=ih
   exact (Z2t (g:=Gx.mk P w K mg base) (m:=i+1) (k:=1+i+1) (Z6:=Z6) (Z5:=Z5) (Z1:=Z1) (Z2:=Z2) (Z4:=Z4) (Z3:=Z3) (Z0:=Z0) (c_law:=c_law) (P_law:=P_law) (t.Z0x P w base) (Z3O.mono (by omega)) I_law_size_of t.Zs t.b_len t.b_str t.ZX)
 have G_law_size_of:=Z48 8
 have GP_law_leaves:∀ i:Nat,((Gx.mk P w K mg base).Fn (0+i+1) "_law_leaves" ["_law_value","_law_marks"] (sp_llv (Gx.mk P w K mg base).K (i+1))):=by
  intro i
  induction i with
  | zero=>exact (Z33 (g:=Gx.mk P w K mg base) (m:=0) (k:=0) (Z6:=Z6) (Z5:=Z5) (Z1:=Z1) (Z2:=Z2) (Z4:=Z4) (Z3:=Z3) (Z0:=Z0) (c_law:=c_law) (P_law:=P_law) (t.Z0W P w base) ((t.Z0W P w base).none (fun _ _ _ _ h=>Ygt h)))
  | succ i ih =>
   have I_law_leaves:=ih
   exact (Z33 (g:=Gx.mk P w K mg base) (m:=i+1) (k:=0+i+1) (Z6:=Z6) (Z5:=Z5) (Z1:=Z1) (Z2:=Z2) (Z4:=Z4) (Z3:=Z3) (Z0:=Z0) (c_law:=c_law) (P_law:=P_law) (t.Z0W P w base) I_law_leaves)
 have G_law_leaves:=GP_law_leaves 8
 have GP_law_sum:∀ i:Nat,((Gx.mk P w K mg base).Fn (0+i+1) "_law_sum" ["_law_value","_law_marks"] (sp_lsm (Gx.mk P w K mg base).K (i+1))):=by
  intro i
  induction i with
  | zero=>exact (Z41 (g:=Gx.mk P w K mg base) (m:=0) (k:=0) (Z6:=Z6) (Z5:=Z5) (Z1:=Z1) (Z2:=Z2) (Z4:=Z4) (Z3:=Z3) (Z0:=Z0) (c_law:=c_law) (P_law:=P_law) (t.Z1M P w base) ((t.Z1M P w base).none (fun _ _ _ _ h=>Ygu h)))
  | succ i ih =>
   have I_law_sum:=ih
   exact (Z41 (g:=Gx.mk P w K mg base) (m:=i+1) (k:=0+i+1) (Z6:=Z6) (Z5:=Z5) (Z1:=Z1) (Z2:=Z2) (Z4:=Z4) (Z3:=Z3) (Z0:=Z0) (c_law:=c_law) (P_law:=P_law) (t.Z1M P w base) I_law_sum)
 have G_law_sum:=GP_law_sum 8
 have GP_copied:∀ i:Nat,((Gx.mk P w K mg base).Fn (0+i+1) "copied" ["thing"] (sp_cp (i+1))):=by
  intro i
  induction i with
  | zero=>exact (QC (g:=Gx.mk P w K mg base) (m:=0) (k:=0) (Z6:=Z6) (Z5:=Z5) (Z1:=Z1) (Z2:=Z2) (Z4:=Z4) (Z3:=Z3) (Z0:=Z0) (c_law:=c_law) (P_law:=P_law) (t.Z25 P w base) ((t.Z25 P w base).none (fun _ _ _ _ h=>YdN h)) t.b_dict t.Zs t.b_list t.ZX)
  | succ i ih =>
   have I_copied:=ih
   exact (QC (g:=Gx.mk P w K mg base) (m:=i+1) (k:=0+i+1) (Z6:=Z6) (Z5:=Z5) (Z1:=Z1) (Z2:=Z2) (Z4:=Z4) (Z3:=Z3) (Z0:=Z0) (c_law:=c_law) (P_law:=P_law) (t.Z25 P w base) I_copied t.b_dict t.Zs t.b_list t.ZX)
 have G_copied:=GP_copied 11
 have G_holds:=YeC (g:=Gx.mk P w K mg base) (k:=30) (Z6:=Z6) (Z5:=Z5) (Z1:=Z1) (Z2:=Z2) (Z4:=Z4) (Z3:=Z3) (Z0:=Z0) (c_law:=c_law) (P_law:=P_law) (t.f_holds P w base) (G_copied.mono (by decide)) (by decide)
 have G_sieved:=YdO (g:=Gx.mk P w K mg base) (k:=220) (Z6:=Z6) (Z5:=Z5) (Z1:=Z1) (Z2:=Z2) (Z4:=Z4) (Z3:=Z3) (Z0:=Z0) (c_law:=c_law) (P_law:=P_law) (t.f_sieved P w base) (Z3u.mono (by decide)) (G_holds.mono (by decide))
 exact YeD (g:=Gx.mk P w K mg base) (k:=221) (Z6:=Z6) (Z5:=Z5) (Z1:=Z1) (Z2:=Z2) (Z4:=Z4) (Z3:=Z3) (Z0:=Z0) (c_law:=c_law) (P_law:=P_law) hB hC_law (Z3u.mono (by decide)) (G_sieved.mono (by decide)) (G_law_cell_at.mono (by decide)) (G_law_name.mono (by decide)) (G_law_size_of.mono (by decide)) (G_law_leaves.mono (by decide)) (G_law_sum.mono (by decide)) (G_law_table.mono (by decide)) (G_law_largest.mono (by decide)) (by decide) t.Zs t.b_len t.b_list t.Zt t.b_repr t.b_set t.b_sum
end KW
theorem PySem.W.Fast.tw7133734508812644517:True:=trivial
theorem PySem.W.Fast.tw17559010841878522045:True:=trivial
theorem PySem.W.Fast.tw5005309784286272378:True:=trivial
theorem PySem.W.Fast.tw17551514122505477518:True:=trivial
theorem PySem.W.Fast.tw15788854840100130186:True:=trivial
theorem PySem.W.Fast.tw10471350833928682035:True:=trivial
theorem PySem.W.Fast.tw326278404392823623:True:=trivial
theorem PySem.W.Fast.tw6047588322531191117:True:=trivial
theorem PySem.W.Fast.tw15778151946222382305:True:=trivial
theorem PySem.W.Fast.tw11243391289601433553:True:=trivial
theorem PySem.W.Fast.tw18318202301790583329:True:=trivial
theorem PySem.W.Fast.tw10139470318744245860:True:=trivial
theorem PySem.W.Fast.tw14919129381822443588:True:=trivial
theorem PySem.W.Fast.tw9424995986537998060:True:=trivial
theorem PySem.W.Fast.tw11524602828354777177:True:=trivial
theorem PySem.W.Fast.tw10295245534980638570:True:=trivial
theorem PySem.W.Fast.tw292367161473012357:True:=trivial
theorem PySem.W.Fast.tw11722239892921537562:True:=trivial
theorem PySem.W.Fast.tw6090626467724537932:True:=trivial
theorem PySem.W.Fast.tw5617673596572780035:True:=trivial
theorem PySem.W.Fast.tw9612813424861181841:True:=trivial
theorem PySem.W.Fast.tw478149084351221341:True:=trivial
theorem PySem.W.Fast.tw7004664229310862322:True:=trivial
theorem PySem.W.Fast.tw4288424804182345676:True:=trivial
theorem PySem.W.Fast.tw16003125082328638362:True:=trivial
theorem PySem.W.Fast.tw14915789129811365402:True:=trivial
theorem PySem.W.Fast.tw5109137642472482224:True:=trivial
theorem PySem.W.Fast.tw8590965881591679512:True:=trivial
theorem PySem.W.Fast.tw12693197541904042931:True:=trivial
theorem PySem.W.Fast.tw81228265855378095:True:=trivial
theorem PySem.W.Fast.tw16078814785291745072:True:=trivial
theorem PySem.W.Fast.tw14092902118153044081:True:=trivial
theorem PySem.W.Fast.tw18321093475766390011:True:=trivial
theorem PySem.W.Fast.tw15792678278092797923:True:=trivial
theorem PySem.W.Fast.tw17384886927686849782:True:=trivial
theorem PySem.W.Fast.tw3923195077191306878:True:=trivial
theorem PySem.W.Fast.tw13396402190761248002:True:=trivial
theorem PySem.W.Fast.tw16385026837417526535:True:=trivial
theorem PySem.W.Fast.tw3177971476305267649:True:=trivial
theorem PySem.W.Fast.tw766568459864288065:True:=trivial
theorem PySem.W.Fast.tw12158541577432143712:True:=trivial
theorem PySem.W.Fast.tw13135603759293638172:True:=trivial
open PySem PySem.W PyProof.Rows
set_option maxRecDepth 100000 in
set_option maxHeartbeats 0 in
theorem PySem.Challenge.cw_countgen_k45_whole_trees_sieved_holds : PySem.Challenge.rw_countgen_k45_whole_trees_sieved.Holds := by
 w_on;o_law;k_head;(case hw=>w_witness2)
 k_fill
 refine' L2.Yel (l:=PySem.Challenge.rw_countgen_k45_whole_trees_sieved) (tabs:=[("law",756,754)]) 756 221 "_law_script" KW.V6 ["_law_script","_law_cell","_law_span","_law_times","_law_left","_law_low","_law_name_here","_law_marks","_law_node","_law_book","_law_table_here","_law_size","_law_found","_law_value","_law_some","_law_total","_law_due"] rfl rfl ⟨rfl,by decide,by decide,rfl⟩ KW.Y8 (fun w h Y=>by first | exact PySem.W.kIn_of Y | exact PySem.W.km_in_of Y) ?tR ?tT ?tN ?F
 case tR=>intro p hp;simp only [List.mem_cons,List.not_mem_nil,or_false] at hp;rcases hp with rfl<;>exact ⟨_,rfl⟩
 case tT=>intro w p hp;simp only [List.mem_cons,List.not_mem_nil,or_false] at hp;rcases hp with rfl<;>kernel_rfl
 case tN=>intro w p hp;simp only [List.mem_cons,List.not_mem_nil,or_false] at hp;rcases hp with rfl<;>kernel_rfl
 case F =>
  intro w mg h KX G
  refine' ⟨L2.Ycq KX G ?a ?l ?c ?k rfl (fun _ _ _ _ _ _ _ _ => .of_eq rfl),fun base hB hC=>KW.YeE ⟨?ZE,?ZM,?ZH,?ZN,?Z1e,?ZS,?Z3r,?ZV,?ZZ,?ZT,?Z00,?Z01,?ZU,?ZW,?Z2T,?Z1f,?Z0h,?Z0q,?Z0L,?Z0M,?Z0N,?Z10,?Z2U,?Z03,?Z07,?ZY,?Z2k,?Z1g,?Z2V,?ZF,?ZO,?ZI,?ZP,?Z2W,?Z11,?Z24,?Z2X,?Z1S,?Z2l,?Z1h,?Z2m,?Z1T,?Z0x,?Z0W,?Z1M,?Z25,?f_holds,?f_sieved,?ZC,?Zw,?Zz,?ZJ,?Zr,?Zu,?Zp,?Zc,?Z9,?Zg,?Ze,?Zi,?Za,?Zl,?Zj,?Zn,?Zo,?Zm,?Zk,?Zb,?Zh,?Z8,?Z7,?Zf,?Zd,?b_bool,?b_dict,?Z0z,?b_int,?Zs,?b_len,?b_list,?b_max,?b_min,?Zt,?b_repr,?b_set,?b_str,?b_sum,?ZX⟩ _ w base hB (hC _ (.head _))⟩
  (case a=>k_is)
  (case l=>k_is)
  (case c=>k_is)
  (case k=>k_is)
  case Z0h =>
   refine' L2.Wa KX G ["self","low","high"] ?aC ?mk ?kc ?a ?i ?l ?c ?k (fun _ _ _ _ _ _ us hl=>by obtain ⟨_,_,_,rfl⟩:=KW.us3 hl;rfl)
   (case aC=>k_is)
   (case mk=>k_is)
   (case kc=>k_is)
   (case a=>k_is)
   (case i=>k_is)
   (case l=>k_is)
   (case c=>k_is)
   (case k=>k_is)
  case Z0q =>
   refine' L2.Wa KX G ["self","marks","parts"] ?aC ?mk ?kc ?a ?i ?l ?c ?k (fun _ _ _ _ _ _ us hl=>by obtain ⟨_,_,_,rfl⟩:=KW.us3 hl;rfl)
   (case aC=>k_is)
   (case mk=>k_is)
   (case kc=>k_is)
   (case a=>k_is)
   (case i=>k_is)
   (case l=>k_is)
   (case c=>k_is)
   (case k=>k_is)
  case Z0L =>
   refine' L2.Wa KX G ["self"] ?aC ?mk ?kc ?a ?i ?l ?c ?k (fun _ _ _ _ _ _ us hl=>by obtain ⟨_,rfl⟩:=KW.us1 hl;rfl)
   (case aC=>k_is)
   (case mk=>k_is)
   (case kc=>k_is)
   (case a=>k_is)
   (case i=>k_is)
   (case l=>k_is)
   (case c=>k_is)
   (case k=>k_is)
  case Z0M =>
   refine' L2.Wa KX G ["self","parts"] ?aC ?mk ?kc ?a ?i ?l ?c ?k (fun _ _ _ _ _ _ us hl=>by obtain ⟨_,_,rfl⟩:=KW.us2 hl;rfl)
   (case aC=>k_is)
   (case mk=>k_is)
   (case kc=>k_is)
   (case a=>k_is)
   (case i=>k_is)
   (case l=>k_is)
   (case c=>k_is)
   (case k=>k_is)
  case Z0N =>
   refine' L2.Wa KX G ["self","parts"] ?aC ?mk ?kc ?a ?i ?l ?c ?k (fun _ _ _ _ _ _ us hl=>by obtain ⟨_,_,rfl⟩:=KW.us2 hl;rfl)
   (case aC=>k_is)
   (case mk=>k_is)
   (case kc=>k_is)
   (case a=>k_is)
   (case i=>k_is)
   (case l=>k_is)
   (case c=>k_is)
   (case k=>k_is)
  case Z10 =>
   refine' L2.Wa KX G ["self","book"] ?aC ?mk ?kc ?a ?i ?l ?c ?k (fun _ _ _ _ _ _ us hl=>by obtain ⟨_,_,rfl⟩:=KW.us2 hl;rfl)
   (case aC=>k_is)
   (case mk=>k_is)
   (case kc=>k_is)
   (case a=>k_is)
   (case i=>k_is)
   (case l=>k_is)
   (case c=>k_is)
   (case k=>k_is)
  case Z1g =>
   refine' L2.Wa KX G ["self","place","choice","rest"] ?aC ?mk ?kc ?a ?i ?l ?c ?k (fun _ _ _ _ _ _ us hl=>by obtain ⟨_,_,_,_,rfl⟩:=KW.us4 hl;rfl)
   (case aC=>k_is)
   (case mk=>k_is)
   (case kc=>k_is)
   (case a=>k_is)
   (case i=>k_is)
   (case l=>k_is)
   (case c=>k_is)
   (case k=>k_is)
  case ZE =>
   refine' L2.YW KX G ["self","size"] ?a ?i ?l ?c ?k (fun _ _ _ _ _ _ us hl=>by obtain ⟨_,_,rfl⟩:=KW.us2 hl;rfl)
   (case a=>k_is)
   (case i=>k_is)
   (case l=>k_is)
   (case c=>k_is)
   (case k=>k_is)
  case ZM =>
   refine' L2.YW KX G ["self","size"] ?a ?i ?l ?c ?k (fun _ _ _ _ _ _ us hl=>by obtain ⟨_,_,rfl⟩:=KW.us2 hl;rfl)
   (case a=>k_is)
   (case i=>k_is)
   (case l=>k_is)
   (case c=>k_is)
   (case k=>k_is)
  case ZH =>
   refine' L2.YW KX G ["self","size"] ?a ?i ?l ?c ?k (fun _ _ _ _ _ _ us hl=>by obtain ⟨_,_,rfl⟩:=KW.us2 hl;rfl)
   (case a=>k_is)
   (case i=>k_is)
   (case l=>k_is)
   (case c=>k_is)
   (case k=>k_is)
  case ZN =>
   refine' L2.YW KX G ["self","size"] ?a ?i ?l ?c ?k (fun _ _ _ _ _ _ us hl=>by obtain ⟨_,_,rfl⟩:=KW.us2 hl;rfl)
   (case a=>k_is)
   (case i=>k_is)
   (case l=>k_is)
   (case c=>k_is)
   (case k=>k_is)
  case Z1e =>
   refine' L2.Y0 KX G ["size"] ?a ?l ?c ?k (fun _ _ _ _ _ _ us hl=>by obtain ⟨_,rfl⟩:=KW.us1 hl;rfl)
   (case a=>k_is)
   (case l=>k_is)
   (case c=>k_is)
   (case k=>k_is)
  case ZS =>
   refine' L2.YW KX G ["self","size"] ?a ?i ?l ?c ?k (fun _ _ _ _ _ _ us hl=>by obtain ⟨_,_,rfl⟩:=KW.us2 hl;rfl)
   (case a=>k_is)
   (case i=>k_is)
   (case l=>k_is)
   (case c=>k_is)
   (case k=>k_is)
  case Z3r =>
   refine' L2.Y0 KX G ["blocks"] ?a ?l ?c ?k (fun _ _ _ _ _ _ us hl=>by obtain ⟨_,rfl⟩:=KW.us1 hl;rfl)
   (case a=>k_is)
   (case l=>k_is)
   (case c=>k_is)
   (case k=>k_is)
  case ZV =>
   refine' L2.YW KX G ["self","place","left"] ?a ?i ?l ?c ?k (fun _ _ _ _ _ _ us hl=>by obtain ⟨_,_,_,rfl⟩:=KW.us3 hl;rfl)
   (case a=>k_is)
   (case i=>k_is)
   (case l=>k_is)
   (case c=>k_is)
   (case k=>k_is)
  case ZZ =>
   refine' L2.YW KX G ["self","size"] ?a ?i ?l ?c ?k (fun _ _ _ _ _ _ us hl=>by obtain ⟨_,_,rfl⟩:=KW.us2 hl;rfl)
   (case a=>k_is)
   (case i=>k_is)
   (case l=>k_is)
   (case c=>k_is)
   (case k=>k_is)
  case ZT =>
   refine' L2.YW KX G ["self","place","left"] ?a ?i ?l ?c ?k (fun _ _ _ _ _ _ us hl=>by obtain ⟨_,_,_,rfl⟩:=KW.us3 hl;rfl)
   (case a=>k_is)
   (case i=>k_is)
   (case l=>k_is)
   (case c=>k_is)
   (case k=>k_is)
  case Z00 =>
   refine' L2.YW KX G ["self","size"] ?a ?i ?l ?c ?k (fun _ _ _ _ _ _ us hl=>by obtain ⟨_,_,rfl⟩:=KW.us2 hl;rfl)
   (case a=>k_is)
   (case i=>k_is)
   (case l=>k_is)
   (case c=>k_is)
   (case k=>k_is)
  case Z01 =>
   refine' L2.YW KX G ["self","size"] ?a ?i ?l ?c ?k (fun _ _ _ _ _ _ us hl=>by obtain ⟨_,_,rfl⟩:=KW.us2 hl;rfl)
   (case a=>k_is)
   (case i=>k_is)
   (case l=>k_is)
   (case c=>k_is)
   (case k=>k_is)
  case ZU =>
   refine' L2.YW KX G ["self","size"] ?a ?i ?l ?c ?k (fun _ _ _ _ _ _ us hl=>by obtain ⟨_,_,rfl⟩:=KW.us2 hl;rfl)
   (case a=>k_is)
   (case i=>k_is)
   (case l=>k_is)
   (case c=>k_is)
   (case k=>k_is)
  case ZW =>
   refine' L2.YW KX G ["self","size"] ?a ?i ?l ?c ?k (fun _ _ _ _ _ _ us hl=>by obtain ⟨_,_,rfl⟩:=KW.us2 hl;rfl)
   (case a=>k_is)
   (case i=>k_is)
   (case l=>k_is)
   (case c=>k_is)
   (case k=>k_is)
  case Z2T =>
   refine' L2.Y0 KX G ["shape"] ?a ?l ?c ?k (fun _ _ _ _ _ _ us hl=>by obtain ⟨_,rfl⟩:=KW.us1 hl;rfl)
   (case a=>k_is)
   (case l=>k_is)
   (case c=>k_is)
   (case k=>k_is)
  case Z1f =>
   refine' L2.Yfp KX G ["self"] ?aB ?ga ?rd ?a ?l ?c ?k (fun _ _ _ _ _ _ us hl=>by obtain ⟨_,rfl⟩:=KW.us1 hl;rfl)
   (case aB=>k_is)
   (case ga=>k_is)
   (case rd=>k_is)
   (case a=>k_is)
   (case l=>k_is)
   (case c=>k_is)
   (case k=>k_is)
  case Z2U =>
   refine' L2.Y0 KX G ["book","name"] ?a ?l ?c ?k (fun _ _ _ _ _ _ us hl=>by obtain ⟨_,_,rfl⟩:=KW.us2 hl;rfl)
   (case a=>k_is)
   (case l=>k_is)
   (case c=>k_is)
   (case k=>k_is)
  case Z03 =>
   refine' L2.YW KX G ["self","shape"] ?a ?i ?l ?c ?k (fun _ _ _ _ _ _ us hl=>by obtain ⟨_,_,rfl⟩:=KW.us2 hl;rfl)
   (case a=>k_is)
   (case i=>k_is)
   (case l=>k_is)
   (case c=>k_is)
   (case k=>k_is)
  case Z07 =>
   refine' L2.YW KX G ["self","shape"] ?a ?i ?l ?c ?k (fun _ _ _ _ _ _ us hl=>by obtain ⟨_,_,rfl⟩:=KW.us2 hl;rfl)
   (case a=>k_is)
   (case i=>k_is)
   (case l=>k_is)
   (case c=>k_is)
   (case k=>k_is)
  case ZY =>
   refine' L2.YW KX G ["self","shape"] ?a ?i ?l ?c ?k (fun _ _ _ _ _ _ us hl=>by obtain ⟨_,_,rfl⟩:=KW.us2 hl;rfl)
   (case a=>k_is)
   (case i=>k_is)
   (case l=>k_is)
   (case c=>k_is)
   (case k=>k_is)
  case Z2k =>
   refine' L2.Y0 KX G ["book","shape"] ?a ?l ?c ?k (fun _ _ _ _ _ _ us hl=>by obtain ⟨_,_,rfl⟩:=KW.us2 hl;rfl)
   (case a=>k_is)
   (case l=>k_is)
   (case c=>k_is)
   (case k=>k_is)
  case Z2V =>
   refine' L2.Y0 KX G ["blocks","number"] ?a ?l ?c ?k (fun _ _ _ _ _ _ us hl=>by obtain ⟨_,_,rfl⟩:=KW.us2 hl;rfl)
   (case a=>k_is)
   (case l=>k_is)
   (case c=>k_is)
   (case k=>k_is)
  case ZF =>
   refine' L2.YW KX G ["self","size","number"] ?a ?i ?l ?c ?k (fun _ _ _ _ _ _ us hl=>by obtain ⟨_,_,_,rfl⟩:=KW.us3 hl;rfl)
   (case a=>k_is)
   (case i=>k_is)
   (case l=>k_is)
   (case c=>k_is)
   (case k=>k_is)
  case ZO =>
   refine' L2.YW KX G ["self","size","number"] ?a ?i ?l ?c ?k (fun _ _ _ _ _ _ us hl=>by obtain ⟨_,_,_,rfl⟩:=KW.us3 hl;rfl)
   (case a=>k_is)
   (case i=>k_is)
   (case l=>k_is)
   (case c=>k_is)
   (case k=>k_is)
  case ZI =>
   refine' L2.YW KX G ["self","size","number"] ?a ?i ?l ?c ?k (fun _ _ _ _ _ _ us hl=>by obtain ⟨_,_,_,rfl⟩:=KW.us3 hl;rfl)
   (case a=>k_is)
   (case i=>k_is)
   (case l=>k_is)
   (case c=>k_is)
   (case k=>k_is)
  case ZP =>
   refine' L2.YW KX G ["self","size","number"] ?a ?i ?l ?c ?k (fun _ _ _ _ _ _ us hl=>by obtain ⟨_,_,_,rfl⟩:=KW.us3 hl;rfl)
   (case a=>k_is)
   (case i=>k_is)
   (case l=>k_is)
   (case c=>k_is)
   (case k=>k_is)
  case Z2W =>
   refine' L2.Y0 KX G ["maker","size"] ?a ?l ?c ?k (fun _ _ _ _ _ _ us hl=>by obtain ⟨_,_,rfl⟩:=KW.us2 hl;rfl)
   (case a=>k_is)
   (case l=>k_is)
   (case c=>k_is)
   (case k=>k_is)
  case Z11 =>
   refine' L2.Y0 KX G ["count","most"] ?a ?l ?c ?k (fun _ _ _ _ _ _ us hl=>by obtain ⟨_,_,rfl⟩:=KW.us2 hl;rfl)
   (case a=>k_is)
   (case l=>k_is)
   (case c=>k_is)
   (case k=>k_is)
  case Z24 =>
   refine' L2.Yeh KX G ["book","shape","size","most"] [.int 400] 3 ?a ?l ?c ?k ?t ?s ?v ?e ?b ?b0
   (case a=>k_is)
   (case l=>k_is)
   (case c=>k_is)
   (case k=>k_is)
   (case t=>k_is)
   (case s=>rfl)
   (case v=>exact .cons ⟨_,rfl⟩ (.nil))
   (case e=>rfl)
   (case b=>exact fun us hl=>match us,hl with | [_,_,_],_=>⟨_,rfl,rfl⟩)
   (case b0=>exact fun us hl=>match us,hl with | [_,_,_,_],_=>⟨_,rfl,rfl⟩)
  case Z2X =>
   refine' L2.Y0 KX G ["_law_cell","_law_k"] ?a ?l ?c ?k (fun _ _ _ _ _ _ us hl=>by obtain ⟨_,_,rfl⟩:=KW.us2 hl;rfl)
   (case a=>k_is)
   (case l=>k_is)
   (case c=>k_is)
   (case k=>k_is)
  case Z1S =>
   refine' L2.Y0 KX G ["_law_script","_law_k"] ?a ?l ?c ?k (fun _ _ _ _ _ _ us hl=>by obtain ⟨_,_,rfl⟩:=KW.us2 hl;rfl)
   (case a=>k_is)
   (case l=>k_is)
   (case c=>k_is)
   (case k=>k_is)
  case Z2l =>
   refine' L2.Y0 KX G ["_law_found"] ?a ?l ?c ?k (fun _ _ _ _ _ _ us hl=>by obtain ⟨_,rfl⟩:=KW.us1 hl;rfl)
   (case a=>k_is)
   (case l=>k_is)
   (case c=>k_is)
   (case k=>k_is)
  case Z1h =>
   refine' L2.Y0 KX G ["_law_span","_law_size"] ?a ?l ?c ?k (fun _ _ _ _ _ _ us hl=>by obtain ⟨_,_,rfl⟩:=KW.us2 hl;rfl)
   (case a=>k_is)
   (case l=>k_is)
   (case c=>k_is)
   (case k=>k_is)
  case Z2m =>
   refine' L2.Y0 KX G ["_law_span","_law_most","_law_times"] ?a ?l ?c ?k (fun _ _ _ _ _ _ us hl=>by obtain ⟨_,_,_,rfl⟩:=KW.us3 hl;rfl)
   (case a=>k_is)
   (case l=>k_is)
   (case c=>k_is)
   (case k=>k_is)
  case Z1T =>
   refine' L2.Y0 KX G ["_law_table_here","_law_want"] ?a ?l ?c ?k (fun _ _ _ _ _ _ us hl=>by obtain ⟨_,_,rfl⟩:=KW.us2 hl;rfl)
   (case a=>k_is)
   (case l=>k_is)
   (case c=>k_is)
   (case k=>k_is)
  case Z0x =>
   refine' L2.Y0 KX G ["_law_value","_law_marks","_law_low","_law_span"] ?a ?l ?c ?k (fun _ _ _ _ _ _ us hl=>by obtain ⟨_,_,_,_,rfl⟩:=KW.us4 hl;rfl)
   (case a=>k_is)
   (case l=>k_is)
   (case c=>k_is)
   (case k=>k_is)
  case Z0W =>
   refine' L2.Y0 KX G ["_law_value","_law_marks"] ?a ?l ?c ?k (fun _ _ _ _ _ _ us hl=>by obtain ⟨_,_,rfl⟩:=KW.us2 hl;rfl)
   (case a=>k_is)
   (case l=>k_is)
   (case c=>k_is)
   (case k=>k_is)
  case Z1M =>
   refine' L2.Y0 KX G ["_law_value","_law_marks"] ?a ?l ?c ?k (fun _ _ _ _ _ _ us hl=>by obtain ⟨_,_,rfl⟩:=KW.us2 hl;rfl)
   (case a=>k_is)
   (case l=>k_is)
   (case c=>k_is)
   (case k=>k_is)
  case Z25 =>
   refine' L2.Y0 KX G ["thing"] ?a ?l ?c ?k (fun _ _ _ _ _ _ us hl=>by obtain ⟨_,rfl⟩:=KW.us1 hl;rfl)
   (case a=>k_is)
   (case l=>k_is)
   (case c=>k_is)
   (case k=>k_is)
  case f_holds =>
   refine' L2.Y0 KX G ["judge","value"] ?a ?l ?c ?k (fun _ _ _ _ _ _ us hl=>by obtain ⟨_,_,rfl⟩:=KW.us2 hl;rfl)
   (case a=>k_is)
   (case l=>k_is)
   (case c=>k_is)
   (case k=>k_is)
  case f_sieved =>
   refine' L2.Yfq KX G ["book","shape","size","judge","most"] [.int 400] 4 ?a ?l ?c ?k ?t ?s ?v ?e ?b
   (case a=>k_is)
   (case l=>k_is)
   (case c=>k_is)
   (case k=>k_is)
   (case t=>k_is)
   (case s=>rfl)
   (case v=>exact .cons ⟨_,rfl⟩ (.nil))
   (case e=>rfl)
   (case b=>exact fun us hl=>match us,hl with | [_,_,_,_],_=>⟨_,rfl,rfl⟩)
  case ZC =>
   refine' ⟨?a,?b,?c,?d⟩
   (case a=>k_is)
   (case b=>k_is)
   (case c=>k_is)
   (case d=>k_is)
  case Zw =>
   refine' L2.YN ?a
   (case a=>k_is)
  case Zz =>
   refine' L2.YN ?a
   (case a=>k_is)
  case ZJ =>
   refine' L2.YN ?a
   (case a=>k_is)
  case Zr =>
   refine' ⟨?a,?b,?c,?d⟩
   (case a=>k_is)
   (case b=>k_is)
   (case c=>k_is)
   (case d=>k_is)
  case Zu =>
   refine' L2.YN ?a
   (case a=>k_is)
  case Zp =>
   refine' L2.YN ?a
   (case a=>k_is)
  case Zc =>
   refine' ⟨?a,?b,?c,?d⟩
   (case a=>k_is)
   (case b=>k_is)
   (case c=>k_is)
   (case d=>k_is)
  case Z9 =>
   refine' L2.YN ?a
   (case a=>k_is)
  case Zg =>
   refine' L2.YN ?a
   (case a=>k_is)
  case Ze =>
   refine' L2.YN ?a
   (case a=>k_is)
  case Zi =>
   refine' ⟨?a,?b,?c,?d⟩
   (case a=>k_is)
   (case b=>k_is)
   (case c=>k_is)
   (case d=>k_is)
  case Za =>
   refine' L2.YN ?a
   (case a=>k_is)
  case Zl =>
   refine' L2.YN ?a
   (case a=>k_is)
  case Zj =>
   refine' L2.YN ?a
   (case a=>k_is)
  case Zn =>
   refine' ⟨?a,?b,?c,?d⟩
   (case a=>k_is)
   (case b=>k_is)
   (case c=>k_is)
   (case d=>k_is)
  case Zo =>
   refine' L2.YN ?a
   (case a=>k_is)
  case Zm =>
   refine' L2.YN ?a
   (case a=>k_is)
  case Zk =>
   refine' ⟨?a,?b,?c,?d⟩
   (case a=>k_is)
   (case b=>k_is)
   (case c=>k_is)
   (case d=>k_is)
  case Zb =>
   refine' L2.YN ?a
   (case a=>k_is)
  case Zh =>
   refine' L2.YN ?a
   (case a=>k_is)
  case Z8 =>
   refine' ⟨?a,?b,?c,?d⟩
   (case a=>k_is)
   (case b=>k_is)
   (case c=>k_is)
   (case d=>k_is)
  case Z7 =>
   refine' L2.YN ?a
   (case a=>k_is)
  case Zf =>
   refine' L2.YN ?a
   (case a=>k_is)
  case Zd =>
   refine' L2.YN ?a
   (case a=>k_is)
  case b_bool =>
   refine' PySem.W.mg_none_of KX G ?a
   (case a=>k_is)
  case b_dict =>
   refine' PySem.W.mg_none_of KX G ?a
   (case a=>k_is)
  case Z0z =>
   refine' PySem.W.mg_none_of KX G ?a
   (case a=>k_is)
  case b_int =>
   refine' PySem.W.mg_none_of KX G ?a
   (case a=>k_is)
  case Zs =>
   refine' PySem.W.mg_none_of KX G ?a
   (case a=>k_is)
  case b_len =>
   refine' PySem.W.mg_none_of KX G ?a
   (case a=>k_is)
  case b_list =>
   refine' PySem.W.mg_none_of KX G ?a
   (case a=>k_is)
  case b_max =>
   refine' PySem.W.mg_none_of KX G ?a
   (case a=>k_is)
  case b_min =>
   refine' PySem.W.mg_none_of KX G ?a
   (case a=>k_is)
  case Zt =>
   refine' PySem.W.mg_none_of KX G ?a
   (case a=>k_is)
  case b_repr =>
   refine' PySem.W.mg_none_of KX G ?a
   (case a=>k_is)
  case b_set =>
   refine' PySem.W.mg_none_of KX G ?a
   (case a=>k_is)
  case b_str =>
   refine' PySem.W.mg_none_of KX G ?a
   (case a=>k_is)
  case b_sum =>
   refine' PySem.W.mg_none_of KX G ?a
   (case a=>k_is)
  case ZX =>
   refine' PySem.W.mg_none_of KX G ?a
   (case a=>k_is)
