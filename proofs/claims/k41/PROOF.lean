import PyProof.Rows.All
import Wide.All
import OpenK.AllK
import Wide.FinOn
import Lean
import PyProof.EqAt
import PyProof.EqKinds
import PyProof.TupleCall
import PyProof.NeData
import KE.KTryMore
import PyProof.ExcBaseAll.ValueError
import PyProof.ExcArgsOwn
import KE.KIntText
import PyProof.Rows.SetFrom
import PyProof.SetRoads
import PyProof.StrWalks
import PyProof.ListStr
import PyProof.Rows.StrSplitCount
import PyProof.MeetsStr
import PyProof.MeetsStr2
import PyProof.StrOps2
import KE.KTryOn
import OpenK.KMake
import PyProof.ReprRoads
import PyProof.ReprLen
import PyProof.StrLawsRepr
import PyProof.CallFns
import KE.KSortTup
import PySem.Challenge.RW_countgen_k41_too_many
set_option compiler.extract_closed false
set_option Elab.async false
set_option linter.all false
set_option maxRecDepth 100000
namespace L2
open PySem PySem.Spec PyProof.Rows
abbrev Key:=Sum Int Str
def WN:Key→Value→Bool
 | .inl k,v=>Value.isInt k v
 | .inr x,v=>Value.isStrOf x v
def keyH (w:World):Key→Int
 | .inl k=>hashInt k
 | .inr x=>hashStr w x
theorem YJ:∀ {k:Key} {v:Value},WN k v=true→(∃ i t,k=Sum.inl i∧v=Value.int i t)∨(∃ x t,k=Sum.inr x∧v=Value.str x t)
 | .inl i,v,h=>by
  obtain ⟨t,e⟩:=Value.isInt_shape (k:=i) (v:=v) h
  exact .inl ⟨i,t,rfl,e⟩
 | .inr x,v,h=>by
  obtain ⟨t,e⟩:=Value.isStrOf_shape (x:=x) (v:=v) h
  exact .inr ⟨x,t,rfl,e⟩
theorem QL (i:Int) (t:Tok):WN (.inl i) (.int i t)=true:=by simp [WN,Value.isInt]
theorem QM (x:Str) (t:Tok):WN (.inr x) (.str x t)=true:=by simp [WN,Value.isStrOf]
theorem Yb9 (a b:Int):decide ((Sum.inl a:Key)=Sum.inl b)=(a==b):=by
 by_cases e:a=b
 ·subst e;simp
 ·have h:¬ (Sum.inl a:Key)=Sum.inl b:=fun q=>e (Sum.inl.inj q)
  rw [decide_eq_false h]
  exact (beq_eq_false_iff_ne.mpr e).symm
theorem Yca (a b:Str):decide ((Sum.inr a:Key)=Sum.inr b)=decide (a=b):=by
 by_cases e:a=b
 ·subst e;simp
 ·have h:¬ (Sum.inr a:Key)=Sum.inr b:=fun q=>e (Sum.inr.inj q)
  rw [decide_eq_false h,decide_eq_false e]
theorem Ycb (a:Int) (b:Str):decide ((Sum.inl a:Key)=Sum.inr b)=false:=decide_eq_false (fun q=>nomatch q)
theorem Ycc (a:Str) (b:Int):decide ((Sum.inr a:Key)=Sum.inl b)=false:=decide_eq_false (fun q=>nomatch q)
def YH (prog:Program) (w:World):PySem.KeyKind prog w Key where
 is:=WN
 hash:=keyH w
 inj:=fun v a b ha hb=>by
  rcases YJ ha with ⟨i,t,rfl,rfl⟩ | ⟨x,t,rfl,rfl⟩
  ·rcases YJ hb with ⟨j,u,rfl,e⟩ | ⟨y,u,rfl,e⟩
   ·injection e with e1 _;rw [e1]
   ·exact nomatch e
  ·rcases YJ hb with ⟨j,u,rfl,e⟩ | ⟨y,u,rfl,e⟩
   ·exact nomatch e
   ·injection e with e1 _;rw [e1]
 byValue:=fun k v h=>by
  rcases YJ h with ⟨i,t,rfl,rfl⟩ | ⟨x,t,rfl,rfl⟩<;>rfl
 pyHash:=fun hv h=>by
  rcases YJ hv with ⟨i,t,rfl,rfl⟩ | ⟨x,t,rfl,rfl⟩
  ·exact wpAny_pyHash_int h
  ·exact wpAny_pyHash_str h
 eqBool:=fun hu hv h=>by
  rcases YJ hu with ⟨i,t,rfl,rfl⟩ | ⟨x,t,rfl,rfl⟩
  ·rcases YJ hv with ⟨j,u,rfl,rfl⟩ | ⟨y,u,rfl,rfl⟩
   ·rw [Yb9] at h;exact wpAny_eqBool_int h
   ·rw [Ycb] at h;exact SeqAt.EqAt.int_str i t y u _ _ _ _ h
  ·rcases YJ hv with ⟨j,u,rfl,rfl⟩ | ⟨y,u,rfl,rfl⟩
   ·rw [Ycc] at h;exact SeqAt.EqAt.str_int x t j u _ _ _ _ h
   ·rw [Yca] at h;exact wpAny_eqBool_str h
 «strs»:=fun k x t v h=>by
  rcases YJ h with ⟨i,u,rfl,e⟩ | ⟨y,u,rfl,e⟩
  ·exact nomatch e
  ·injection e with e1 _
   subst e1
   cases v<;>rfl
theorem UA (prog:Program) (w:World) (i:Int) (t:Tok):(YH prog w).is (.inl i) (.int i t)=true:=QL i t
theorem UB (prog:Program) (w:World) (x:Str) (t:Tok):(YH prog w).is (.inr x) (.str x t)=true:=QM x t
end L2
namespace L2
open PySem PySem.Spec PyProof.Rows
inductive V where
 | non | bl (b:Bool) | int (i:Int) | str (x:Str) | byt (b:Array UInt8) | flt (b:UInt64) | ref (a:Addr) | ty (n:String)
 deriving DecidableEq
def Ym:V→Value→Prop
 | .non,u=>u=Value.none
 | .bl b,u=>u=Value.bool b
 | .int i,u=>∃ t,u=Value.int i t
 | .str x,u=>∃ t,u=Value.str x t
 | .byt b,u=>∃ t,u=Value.bytes b t
 | .flt b,u=>∃ t,u=Value.float b t
 | .ref a,u=>u=Value.ref a
 | .ty n,u=>u=Value.type n
abbrev Yl:List V→List Value→Prop:=Paired Ym
theorem Yl.length {xs:List V} {us:List Value} (r:Yl xs us):xs.length=us.length:=Paired.length r
theorem Yl.get:∀ {xs:List V} {us:List Value} {i:Nat} {x:V},Yl xs us→xs[i]?=some x→∃ u,us[i]?=some u∧Ym x u
 | _,_,_,_,.nil,e=>by simp at e
 | _,_,0,_,.cons r _,e=>by simp at e;subst e;exact ⟨_,rfl,r⟩
 | _,_,i+1,x,.cons _ t,e=>by
  obtain ⟨u,h1,h2⟩:=Yl.get (i:=i) (x:=x) t (by simpa using e)
  exact ⟨u,by simpa using h1,h2⟩
theorem Yl.set {x:V} {u:Value} (r:Ym x u):∀ {xs:List V} {us:List Value} (i:Nat),Yl xs us→Yl (xs.set i x) (us.set i u)
 | _,_,_,.nil => .nil
 | _,_,0,.cons _ t => .cons r t
 | _,_,i+1,.cons q t => .cons q (Yl.set r i t)
theorem Yl.append:∀ {xs ys:List V} {us ws:List Value},Yl xs us→Yl ys ws→Yl (xs++ys) (us++ws)
 | _,_,_,_,.nil,s=>s
 | _,_,_,_,.cons r t,s => .cons r (Yl.append t s)
theorem Yl.take:∀ {xs:List V} {us:List Value} (n:Nat),Yl xs us→Yl (xs.take n) (us.take n)
 | _,_,0,_ => .nil
 | _,_,_+1,.nil => .nil
 | _,_,n+1,.cons r t => .cons r (Yl.take n t)
theorem Yl.drop:∀ {xs:List V} {us:List Value} (n:Nat),Yl xs us→Yl (xs.drop n) (us.drop n)
 | _,_,0,r=>r
 | _,_,_+1,.nil => .nil
 | _,_,n+1,.cons _ t=>Yl.drop n t
def YX:Option V→Option Value→Prop
 | some v,some u=>Ym v u
 | none,none=>True
 | _,_=>False
def KV {κ:Type}:List (κ×V)→List (κ×Value)→Prop:=Paired fun (p:κ×V) (q:κ×Value)=>p.1=q.1∧Ym p.2 q.2
def kV:Key→V
 | .inl i => .int i
 | .inr x => .str x
inductive HO where
 /-- a list -/
 | lst (xs:List V)
 /-- a tuple (never changes) -/
 | tup (xs:List V)
 /-- a dict whose keys are ints and texts;one whose keys are tuples of ints and texts (the empty one is both) -/
 | dK (kvs:List (Key×V)) | dT (kvs:List (List Key×V))
 /-- a set of ints: its members,its size -/
 | set (S:Int→Bool) (n:Nat)
 /-- an instance of the class at C,its dict at dx,its attributes -/
 | ins (C dx:Addr) (fs:List (Str×V))
 /-- the dict of the instance at x -/
 | own (x:Addr)
 /-- the dict of an exception -/
 | xd (fs:List (Str×V))
 /-- a bound method,f of x -/
 | met (f x:Addr)
 /-- a range object lo,lo+1,.. below hi -/
 | rng (lo hi:Int)
 /-- a thing that is known to the object (the script;a dict while a loop walks it): read,never written while it is so -/
 | frz (o:Obj) (u:HO)
 /-- a code object's table -/
 | tbl (ps:Array Value)
 /-- any other thing,by what is true of its one object (a def of one's own: SetO a S n:=HO.ext fun h => ..) -/
 | ext (φ:Heap→Prop)
abbrev Hp:=Addr→Option HO
def upd (H:Hp) (a:Addr) (o:HO):Hp:=fun b=>if b=a then some o else H b
theorem Ye {H:Hp} {a:Addr} {o:HO}:upd H a o a=some o:=by unfold upd;rw [if_pos rfl]
theorem Yb {H:Hp} {a b:Addr} {o:HO} (h:b≠a):upd H a o b=H b:=by unfold upd;rw [if_neg h]
theorem YN {H:Hp} {a b:Addr} {o u:HO} (h:H a=some o) (h':H b=some u) (d:o≠u):a≠b:=by
 intro e;subst e;rw [h] at h';exact d (Option.some.inj h')
theorem Yg {H:Hp} {a b:Addr} {o:HO} (h:H a=some o) (h':H b=none):a≠b:=by
 intro e;subst e;rw [h] at h';cases h'
section
variable (P:Program) (w:World)
def Yu (H:Hp) (h:Heap) (a:Addr):HO→Prop
 | .lst xs=>xs.length≤sizeLine∧∃ (its:List Value) (n:Nat),Yl xs its∧h.get? a=some { cls := .type "list",data := .seq its.toArray n }
 | .tup xs=>xs.length≤sizeLine∧∃ its:List Value,Yl xs its∧IsTup h a its.toArray
 | .dK kvs=>kvs.length≤sizeLine∧(a==sysModules)=false∧∃ vs,KV kvs vs∧h.DictOf (YH P w) a vs
 | .dT kvs=>kvs.length≤sizeLine∧(a==sysModules)=false∧∃ xs:List (List Key×Addr×Value),
   Paired (fun (p:List Key×V) (q:List Key×Addr×Value)=>p.1=q.1∧H q.2.1=some (.tup (p.1.map kV))∧Ym p.2 q.2.2) kvs xs ∧
   ∃ o es ep,h.get? a=some o∧o.ExactDict∧o.data = .dict es ep∧es.toList=xs.map (entryOfKey (tupleKind (YH P w)))∧(xs.map (·.1)).Nodup
 | .set S n=>h.SetOf (intKind P w) a S n
 | .ins C dx fs=>H dx=some (.own a)∧fs.length≤1000∧dx≠a∧h.get? a=some (PySem.W.instObj C dx) ∧
   ∃ mA,h.Ns1 dx mA∧(∀ f,YX (fs.lookup f) (mA f))∧PySem.Within mA (fs.map (·.1))
 | .own _=>∃ o,h.get? a=some o
 | .xd fs=>∃ mA,h.Ns1 a mA∧∀ f,YX (fs.lookup f) (mA f)
 | .rng lo hi=>∃ t u v,h.get? a=some { cls := .type "range",data := .fields #[.int lo t,.int hi u,.int 1 v] }
 | .frz o u=>h.get? a=some o∧Yu H h a u
 | .tbl ps=>h.get? a=some { cls := .none,data := .fields ps }
 | .met f x=>h.get? a=some (PySem.W.methodObj (.ref f) (.ref x))
 | .ext φ=>φ h∧(∃ o,h.get? a=some o)∧∀ h1 h2:Heap,φ h1→(∀ o,h1.get? a=some o→h2.get? a=some o)→φ h2
def HOk (H:Hp) (h:Heap):Prop:=∀ a o,H a=some o→Yu P w H h a o
end
section
variable {P:Program} {w:World} {H H':Hp} {h h':Heap} {a:Addr} {o:HO}
theorem Yu.lt (x:Yu P w H h a o):a<h.objs.size:=by
 cases o with
 | lst xs=>obtain ⟨_,_,_,_,e⟩:=x;exact Heap.lt_size e
 | tup xs=>obtain ⟨_,_,_,p⟩:=x;exact p.lt
 | dK kvs=>obtain ⟨_,_,_,_,o,_,_,e,_⟩:=x;exact Heap.lt_size e
 | dT kvs=>obtain ⟨_,_,_,_,o,_,_,e,_⟩:=x;exact Heap.lt_size e
 | set S n=>obtain ⟨o,_,_,_,e,_⟩:=x;exact Heap.lt_size e
 | ins C dx fs=>obtain ⟨_,_,_,e,_⟩:=x;exact Heap.lt_size e
 | own y=>obtain ⟨_,e⟩:=x;exact Heap.lt_size e
 | xd fs=>obtain ⟨_,⟨_,_,_,e,_⟩,_⟩:=x;exact Heap.lt_size e
 | rng lo hi=>obtain ⟨_,_,_,e⟩:=x;exact Heap.lt_size e
 | frz ob u=>obtain ⟨e,_⟩:=x;exact Heap.lt_size e
 | tbl ps=>exact Heap.lt_size (show h.get? a=some _ from x)
 | met f y=>exact Heap.lt_size (show h.get? a=some _ from x)
 | ext φ=>obtain ⟨_,⟨_,e⟩,_⟩:=x;exact Heap.lt_size e
theorem Paired.mapP {α β:Type} {F G:α→β→Prop}:∀ {l₁:List α} {l₂:List β},Paired F l₁ l₂→(∀ a b,F a b→G a b)→Paired G l₁ l₂
 | _,_,.nil,_ => .nil
 | _,_,.cons r t,f => .cons (f _ _ r) (Paired.mapP t f)
theorem Yu.stay (x:Yu P w H h a o) (k:∀ b u,(b=a∨H b=some (.own a))→h.get? b=some u→h'.get? b=some u)
  (ho:∀ b,H b=some (.own a)→H' b=some (.own a)) (ht:∀ b xs,H b=some (.tup xs)→H' b=some (.tup xs)):Yu P w H' h' a o:=by
 induction o with
 | lst xs=>obtain ⟨z,its,n,r,e⟩:=x;exact ⟨z,its,n,r,k _ _ (.inl rfl) e⟩
 | tup xs=>obtain ⟨z,its,r,ob,e,c⟩:=x;exact ⟨z,its,r,ob,k _ _ (.inl rfl) e,c⟩
 | dK kvs=>obtain ⟨z,y,vs,r,ob,es,ep,e,c⟩:=x;exact ⟨z,y,vs,r,ob,es,ep,k _ _ (.inl rfl) e,c⟩
 | dT kvs =>
  obtain ⟨z,y,xs,r,ob,es,ep,e,c⟩:=x
  exact ⟨z,y,xs,Paired.mapP r fun p q z=>⟨z.1,ht _ _ z.2.1,z.2.2⟩,ob,es,ep,k _ _ (.inl rfl) e,c⟩
 | set S n=>obtain ⟨ob,es,ep,t,e,c⟩:=x;exact ⟨ob,es,ep,t,k _ _ (.inl rfl) e,c⟩
 | ins C dx fs =>
  obtain ⟨d,z,ne,e,mA,⟨od,es,ep,e2,c⟩,r⟩:=x
  exact ⟨ho _ d,z,ne,k _ _ (.inl rfl) e,mA,⟨od,es,ep,k _ _ (.inr d) e2,c⟩,r⟩
 | own y=>obtain ⟨ob,e⟩:=x;exact ⟨ob,k _ _ (.inl rfl) e⟩
 | xd fs=>obtain ⟨mA,⟨od,es,ep,e,c⟩,r⟩:=x;exact ⟨mA,⟨od,es,ep,k _ _ (.inl rfl) e,c⟩,r⟩
 | rng lo hi=>obtain ⟨t,u,v,e⟩:=x;exact ⟨t,u,v,k _ _ (.inl rfl) e⟩
 | frz ob u ih=>obtain ⟨e,q⟩:=x;exact ⟨k _ _ (.inl rfl) e,ih q⟩
 | tbl ps =>
  have e:h.get? a=some { cls := .none,data := .fields ps }:=x
  show h'.get? a=some { cls := .none,data := .fields ps }
  exact k a _ (.inl rfl) e
 | met f y =>
  have e:h.get? a=some (PySem.W.methodObj (.ref f) (.ref y)):=x
  show h'.get? a=some (PySem.W.methodObj (.ref f) (.ref y))
  exact k a _ (.inl rfl) e
 | ext φ=>obtain ⟨p,⟨o,e⟩,st⟩:=x;exact ⟨st _ _ p fun o q=>k _ _ (.inl rfl) q,⟨o,k _ _ (.inl rfl) e⟩,st⟩
theorem HOk.lt (x:HOk P w H h) (e:H a=some o):a<h.objs.size:=(x a o e).lt
theorem HOk.fresh (x:HOk P w H h) (e:h.objs.size≤a):H a=none:=by
 cases q:H a with
 | none=>rfl
 | some u=>exact absurd (Nat.lt_of_lt_of_le (x.lt q) e) (Nat.lt_irrefl _)
theorem HOk.kept (x:HOk P w H h) (k:∀ b u,h.get? b=some u→h'.get? b=some u):HOk P w H h':=fun a o e =>
 (x a o e).stay (fun b u _ q=>k b u q) (fun _ q=>q) fun _ _ q=>q
theorem HOk.laid (x:HOk P w H h) (k:∀ b u,h.get? b=some u→h'.get? b=some u) (hp:h.objs.size≤a) (new:Yu P w (upd H a o) h' a o):HOk P w (upd H a o) h':=fun b u e=>by
 have hn:=x.fresh hp
 by_cases hb:b=a
 ·subst hb;rw [Ye] at e;cases e;exact new
 ·rw [Yb hb] at e
  exact (x b u e).stay (fun c v _ q=>k c v q) (fun c q=>by rw [Yb (Yg q hn)];exact q) fun c xs q=>by rw [Yb (Yg q hn)];exact q
end
def Rd (H:Hp) (a:Addr) (u:HO):Prop:=H a=some u∨∃ o,H a=some (.frz o u)
theorem Rd.of {H:Hp} {a:Addr} {u:HO} (h:H a=some u):Rd H a u := .inl h
theorem Rd.ok {P:Program} {w:World} {H:Hp} {h:Heap} {a:Addr} {u:HO} (r:Rd H a u) (x:HOk P w H h):Yu P w H h a u:=by
 rcases r with r | ⟨o,r⟩
 ·exact x a u r
 ·obtain ⟨_,q⟩:=x a _ r
  exact q
def Mut:Option HO→Prop
 | some (.lst _)=>True
 | some (.dK _)=>True
 | some (.dT _)=>True
 | some (.set _ _)=>True
 | some (.ins _ _ _)=>True
 | some (.ext _)=>True
 | _=>False
section
variable {P:Program} {w:World} {H:Hp} {h h':Heap} {x e:Addr} {o':HO}
theorem HOk.write (ok:HOk P w H h) (mu:Mut (H x)) (he:e=x∨H e=some (.own x)) (k:∀ b u,b≠e→h.get? b=some u→h'.get? b=some u) (heo:∃ u,h'.get? e=some u)
  (new:Yu P w (upd H x o') h' x o'):HOk P w (upd H x o') h':=fun b u q=>by
 have nown:∀ c y,H c=some (.own y)→c≠x:=fun c y r z=>by subst z;rw [r] at mu;exact mu
 have ntup:∀ c xs,H c=some (.tup xs)→c≠x:=fun c xs r z=>by subst z;rw [r] at mu;exact mu
 by_cases hb:b=x
 ·subst hb;rw [Ye] at q;cases q;exact new
 ·rw [Yb hb] at q
  by_cases hbe:b=e
  ·have q':H b=some (.own x):=by
    rcases he with z | z
    ·exact absurd (hbe.trans z) hb
    ·rw [hbe];exact z
   rw [q] at q';cases q'
   obtain ⟨v,hv⟩:=heo
   exact ⟨v,by rw [hbe];exact hv⟩
  ·refine (ok b u q).stay (fun c v hc r=>k c v ?_ r) (fun c r=>by rw [Yb (nown c b r)];exact r) fun c xs r=>by rw [Yb (ntup c xs r)];exact r
   rcases hc with rfl | hc
   ·exact hbe
   ·rintro rfl
    rcases he with z | z
    ·exact nown c b hc z
    ·rw [hc] at z;cases z;exact hb rfl
end
structure Un (fs ex:List Addr) (H H':Hp) (h h':Heap):Prop where
 keep:∀ b o,h.get? b=some o→H b=none→b∉fs→b∉ex→h'.get? b=some o
 slot:∀ b o,h.get? b=some o→H b=none→b∈fs→b∉ex→∃ sl,h'.get? b=some { o with slots:=sl }
 free:∀ b o,h.get? b=some o→H b=none→b∉ex→H' b=none
 there:∀ b o,h.get? b=some o→b∉ex→∃ o',h'.get? b=some o'
 tups:∀ b xs,H b=some (.tup xs)→H' b=some (.tup xs)
 frzs:∀ b o u,H b=some (.frz o u)→H' b=some (.frz o u)
 tbls:∀ b ps,H b=some (.tbl ps)→∃ more,H' b=some (.tbl (ps++more))
section
variable {fs fs' ex ex':List Addr} {H H1 H2:Hp} {h h1 h2 h':Heap} {a x e:Addr} {o:HO}
theorem Un.any (u:Un fs ex H H1 h h1) {b:Addr} {ob:Obj} (q:h.get? b=some ob) (n:H b=none) (hx:b∉ex):∃ sl,h1.get? b=some { ob with slots:=sl }:=by
 by_cases hb:b∈fs
 ·exact u.slot b ob q n hb hx
 ·exact ⟨ob.slots,u.keep b ob q n hb hx⟩
theorem Un.trans (a:Un fs ex H H1 h h1) (b:Un fs ex H1 H2 h1 h2):Un fs ex H H2 h h2 where
 keep:=fun c ob q n hc hx=>b.keep c ob (a.keep c ob q n hc hx) (a.free c ob q n hx) hc hx
 slot:=fun c ob q n hc hx=>by
  obtain ⟨sl,e1⟩:=a.slot c ob q n hc hx
  obtain ⟨sl',e2⟩:=b.slot c _ e1 (a.free c ob q n hx) hc hx
  exact ⟨sl',e2⟩
 free:=fun c ob q n hx=>by
  obtain ⟨o',e1⟩:=a.there c ob q hx
  exact b.free c o' e1 (a.free c ob q n hx) hx
 there:=fun c ob q hx=>by
  obtain ⟨o',e1⟩:=a.there c ob q hx
  exact b.there c o' e1 hx
 tups:=fun c xs q=>b.tups c xs (a.tups c xs q)
 frzs:=fun c ob xs q=>b.frzs c ob xs (a.frzs c ob xs q)
 tbls:=fun c ps q=>by
  obtain ⟨m1,e1⟩:=a.tbls c ps q
  obtain ⟨m2,e2⟩:=b.tbls c _ e1
  exact ⟨m1++m2,by rw [e2,Array.append_assoc]⟩
theorem Un.kept (k:∀ b u,h.get? b=some u→h'.get? b=some u):Un fs ex H H h h' :=
 ⟨fun b ob q _ _ _=>k b ob q,fun b ob q _ _ _=>⟨ob.slots,k b ob q⟩,fun _ _ _ n _=>n,fun b ob q _=>⟨ob,k b ob q⟩,fun _ _ q=>q,fun _ _ _ q=>q,fun _ ps q=>⟨#[],by rw [q];simp⟩⟩
theorem Un.refl:Un fs ex H H h h:=Un.kept fun _ _ q=>q
theorem Un.laid (k:∀ b u,h.get? b=some u→h'.get? b=some u) (hp:h.objs.size≤a) (hn:H a=none):Un fs ex H (upd H a o) h h' where
 keep:=fun b u q _ _ _=>k b u q
 slot:=fun b u q _ _ _=>⟨u.slots,k b u q⟩
 free:=fun b u q n _=>by rw [Yb (Nat.ne_of_lt (Nat.lt_of_lt_of_le (Heap.lt_size q) hp))];exact n
 there:=fun b u q _=>⟨u,k b u q⟩
 tups:=fun b xs q=>by rw [Yb (Yg q hn)];exact q
 frzs:=fun b u xs q=>by rw [Yb (Yg q hn)];exact q
 tbls:=fun b ps q=>⟨#[],by rw [Yb (Yg q hn),q];simp⟩
theorem Un.write (mu:Mut (H x)) (he:e=x∨H e=some (.own x)) (k:∀ b u,b≠e→h.get? b=some u→h'.get? b=some u) (heo:∃ u,h'.get? e=some u):Un fs ex H (upd H x o) h h':=by
 have hx:∀ b,H b=none→b≠x:=fun b n z=>by subst z;rw [n] at mu;exact mu
 have hb:∀ b,H b=none→b≠e:=fun b n z=>by
  subst z
  rcases he with r | r
  ·exact hx b n r
  ·rw [n] at r;cases r
 have hm:∀ b u,H b=some u→¬ Mut (some u)→b≠x:=fun b u q nm z=>by subst z;rw [q] at mu;exact nm mu
 refine ⟨fun b u q n _ _=>k b u (hb b n) q,fun b u q n _ _=>⟨u.slots,k b u (hb b n) q⟩,fun b u q n _=>by rw [Yb (hx b n)];exact n,fun b u q _=>?_,
  fun b xs q=>by rw [Yb (hm b _ q fun z=>z)];exact q,fun b u xs q=>by rw [Yb (hm b _ q fun z=>z)];exact q,fun b ps q=>⟨#[],by rw [Yb (hm b _ q fun z=>z),q];simp⟩⟩
 by_cases hbe:b=e
 ·subst hbe;exact heo
 ·exact ⟨u,k b u hbe q⟩
end
def trk (h:Heap) (H:Hp):List Addr:=(List.range h.objs.size).filter fun a=>(H a).isSome
def XL (h:Heap) (H:Hp):Heap:=PySem.W.hideAll h (trk h H)
theorem QN (h:Heap) (H:Hp):(XL h H).objs.size=h.objs.size:=PySem.W.hideAll_size _ _
theorem Yav {h:Heap} {H:Hp} {b:Addr} {o:Obj} (e:h.get? b=some o) (n:H b=none):(XL h H).get? b=some o :=
 PySem.W.hideAll_get _ e fun hm=>by
  have q:(H b).isSome=true:=(List.mem_filter.mp hm).2
  rw [n] at q;simp at q
theorem Ybs {h:Heap} {H:Hp} {b:Addr} {o:Obj} (e:(XL h H).get? b=some o):h.get? b=some o∧H b=none:=by
 have e':h.get? b=some o:=PySem.W.of_hideAll (trk h H) e
 refine ⟨e',?_⟩
 cases q:H b with
 | none=>rfl
 | some x =>
  have hm:b∈trk h H:=List.mem_filter.mpr ⟨List.mem_range.mpr (Heap.lt_size e'),by simp [q]⟩
  have z:(XL h H).get? b=none:=PySem.W.hideAll_none (trk h H) hm
  rw [z] at e;cases e
def Ybt (g h:Heap) (L:Addr):List (Addr×Obj):=(List.range h.objs.size).filterMap fun a=>if a=L∨(g.get? a).isSome=true then none else (h.get? a).map fun o=>(a,o)
def YD (g h:Heap) (L d:Addr):List (Addr×Obj):=(Ybt g h L).filter fun p=>decide (p.1≠d)
end L2
namespace L2
open PySem PySem.Spec PyProof.Rows
structure Mod (K:PySem.W.Frag) (mg:Str→Option Value) (base:Heap):Prop where
 kin:K.In base
 glob:base.Ns mainGlobals mg
 blt:∃ mb,base.Ns builtinsNs mb∧∀ x:Str,x≠"__name__"→mb x=bootBuiltins x
 nolimit:base.NoLimit
structure Cx where
 prog:Program
 w:World
 K:PySem.W.Frag
 mg:Str→Option Value
 base:Heap
 A:Around
 N:List Str
 s₀:Shared
 H₀:Hp
 env:Env
 outer:List Env
 stack:List Env
 ex:List Addr
 fn:Str→Bool
 calm:Bool
 pn:List (Addr×Obj)
 xe:Value→Shared→Prop
def frs (l:List Env):List Addr:=l.filterMap (·.frame)
abbrev Cx.fs (X:Cx):List Addr:=frs X.outer
def Vis (sc:Scope) (x:Str):Prop:=sc.names.lookup x=some .local∨sc.names.lookup x=some .cell∨sc.names.lookup x=some .free
def Loc (sc:Scope) (x:Str):Prop:=sc.names.lookup x=some .local∨sc.names.lookup x=some .cell
def Look (env:Env) (h:Heap) (m:Str→Option Value) (x:Str) (u:Value):Prop :=
 (env.kindOf x=some .local∧m x=some u)∨((env.kindOf x=some .cell∨env.kindOf x=some .free)∧∃ c,env.cells.lookup x=some c∧h.IsCell c (some u))
structure Cx.Ok (X:Cx):Prop where
 mod:Mod X.K X.mg X.base
 kind:X.env.scope.kind = .function
 glob:X.env.globals=mainGlobals
 blt:X.env.builtins=builtinsNs
 above:X.s₀.heap.objs.size≤X.env.locals
 inj:∀ x y c,X.env.cells.lookup x=some c→X.env.cells.lookup y=some c→x=y
 has:∀ x,(X.env.kindOf x=some .cell∨X.env.kindOf x=some .free)→∃ c,X.env.cells.lookup x=some c
 cab:∀ x c,X.fn x=true→X.env.cells.lookup x=some c→X.s₀.heap.objs.size≤c
 hd:X.calm=true→X.A.handled=none
 frames:X.A.frames=some X.stack
 stk:X.stack=X.outer∨(X.stack=X.env::X.outer∧X.env.frame=some X.env.locals)
 exf:∀ b∈X.ex,b≠X.env.locals∧∀ x c,X.env.cells.lookup x=some c→c≠b
 bs:∀ b o,X.base.get? b=some o→X.s₀.heap.get? b=some o∧X.H₀ b=none
 bsz:X.base.objs.size≤X.s₀.heap.objs.size
 noex:∀ b o,X.base.get? b=some o→b∉X.ex
 exfs:∀ b∈X.ex,b∉X.fs
 funs:X.s₀.heap.FunFrames X.base X.outer
 frf:∀ b∈X.fs,X.H₀ b=none
structure Inv (X:Cx) (pins:List (Addr×Obj)) (σ:List (Option V)) (H:Hp) (s:Shared):Prop where
 ok:X.Ok
 os:s.os=X.s₀.os
 bare:AllBare s.gens
 base:Un X.fs X.ex X.H₀ H X.s₀.heap s.heap
 loc:∃ m,s.heap.Ns X.env.locals m∧∀ (i:Nat) (x:Str) (v:V),X.N[i]?=some x→σ[i]?=some (some v)→Vis X.env.scope x→∃ u,Ym v u∧Look X.env s.heap m x u
 cell:∀ x c,X.env.cells.lookup x=some c→∃ v,s.heap.IsCell c v
 free:H X.env.locals=none
 freeC:∀ x c,X.env.cells.lookup x=some c→H c=none
 pin:∀ p∈X.pn++pins,s.heap.get? p.1=some p.2∧H p.1=none∧p.1≠X.env.locals∧p.1∉X.fs∧∀ v,p.2.data ≠ .cell v
 hok:HOk X.prog X.w H s.heap
 len:σ.length=X.N.length
section
variable {X:Cx} {pins:List (Addr×Obj)} {σ:List (Option V)} {H H':Hp} {s:Shared} {h':Heap}
theorem Cx.Ok.nofr (ok:X.Ok) {b:Addr} {o:Obj} (e:X.base.get? b=some o):b∉X.fs:=fun hb=>by
 have:=(ok.funs.mem hb).1
 rw [e] at this;cases this
theorem Inv.bs (I:Inv X pins σ H s):∀ b o,X.base.get? b=some o→s.heap.get? b=some o∧H b=none:=fun b o e =>
 ⟨I.base.keep b o (I.ok.bs b o e).1 (I.ok.bs b o e).2 (I.ok.nofr e) (I.ok.noex b o e),I.base.free b o (I.ok.bs b o e).1 (I.ok.bs b o e).2 (I.ok.noex b o e)⟩
theorem Inv.bk (I:Inv X pins σ H s):∀ b o,X.base.get? b=some o→s.heap.get? b=some o:=fun b o e=>(I.bs b o e).1
theorem Inv.mod (I:Inv X pins σ H s):Mod X.K X.mg X.base:=I.ok.mod
theorem Inv.kIn (I:Inv X pins σ H s):X.K.In s.heap:=I.ok.mod.kin.keeps I.bk
theorem Inv.lt (I:Inv X pins σ H s):X.env.locals<s.heap.objs.size:=let ⟨_,hn,_⟩:=I.loc;hn.lt
theorem Inv.sz (I:Inv X pins σ H s):X.s₀.heap.objs.size≤s.heap.objs.size:=Nat.le_trans I.ok.above (Nat.le_of_lt I.lt)
theorem Inv.nofs (I:Inv X pins σ H s) {a:Addr} (h:s.heap.objs.size≤a):a∉X.fs:=fun hb=>by
 obtain ⟨_,o,ho,_⟩:=I.ok.funs.mem hb
 exact absurd (Nat.lt_of_lt_of_le (Heap.lt_size ho) (Nat.le_trans I.sz h)) (Nat.lt_irrefl _)
theorem Inv.cne (I:Inv X pins σ H s):∀ x c,X.env.cells.lookup x=some c→c≠X.env.locals:=fun x c e z=>by
 obtain ⟨v,o,ho,hd⟩:=I.cell x c e
 obtain ⟨m,⟨o',es,ep,ho',hd',_⟩,_⟩:=I.loc
 rw [z,ho'] at ho;cases ho;rw [hd'] at hd;cases hd
theorem Inv.funs (I:Inv X pins σ H s):s.heap.FunFrames X.base X.outer:=by
 have all:∀ (l:List Env),(∀ b∈frs l,b∈X.fs)→X.s₀.heap.FunFrames X.base l→s.heap.FunFrames X.base l:=by
  intro l
  induction l with
  | nil=>intro _ _;trivial
  | cons env r ih =>
   intro hs hl
   obtain ⟨hk,⟨L,o,hf,hn,ho,hd⟩,hr⟩:=hl
   have hL:L∈X.fs:=hs L (by unfold frs;rw [List.filterMap_cons,hf];exact List.mem_cons_self)
   obtain ⟨sl,e⟩:=I.base.slot L o ho (I.ok.frf L hL) hL fun z=>I.ok.exfs L z hL
   exact ⟨hk,⟨L,_,hf,hn,e,hd⟩,ih (fun b hb=>hs b (by unfold frs;rw [List.filterMap_cons,hf];exact List.mem_cons_of_mem _ hb)) hr⟩
 exact all X.outer (fun _ hb=>hb) I.ok.funs
theorem Inv.stack (I:Inv X pins σ H s):s.heap.FunFrames X.base X.stack:=by
 rcases I.ok.stk with e | ⟨e,hf⟩
 ·rw [e];exact I.funs
 ·rw [e]
  obtain ⟨m,hn,_⟩:=I.loc
  refine .cons (by rw [I.ok.kind];decide) hf hn ?_ I.funs
  exact Heap.get?_none_of_le (Nat.le_trans I.ok.bsz I.ok.above)
theorem Inv.stkSub (I:Inv X pins σ H s):∀ b∈frs X.stack,b∈X.env.locals::X.fs:=fun b hb=>by
 rcases I.ok.stk with e | ⟨e,hf⟩
 ·rw [e] at hb;exact List.mem_cons_of_mem _ hb
 ·rw [e] at hb
  unfold frs at hb
  rw [List.filterMap_cons,hf] at hb
  exact hb
theorem Inv.stkFree (I:Inv X pins σ H s):∀ b∈frs X.stack,H b=none:=fun b hb=>by
 rcases List.mem_cons.mp (I.stkSub b hb) with e | hb
 ·rw [e];exact I.free
 ·obtain ⟨_,o,ho,_⟩:=I.ok.funs.mem hb
  exact I.base.free b o ho (I.ok.frf b hb) fun z=>I.ok.exfs b z hb
theorem Inv.step {g':Array GenState} {t':Nat} {d':Drawn} {ch:List Addr} (I:Inv X pins σ H s)
  (hch:∀ b∈ch,(b∈X.ex∨X.s₀.heap.objs.size≤b)∧b≠X.env.locals∧(∀ x c,X.env.cells.lookup x=some c→c≠b)∧∀ p∈X.pn++pins,p.1≠b)
  (keep:∀ b o,b≠X.env.locals→b∉X.fs→b∉ch→s.heap.get? b=some o→H b=none→h'.get? b=some o)
  (slot:∀ b o,b≠X.env.locals→b∈X.fs→b∉ch→s.heap.get? b=some o→H b=none→∃ sl,h'.get? b=some { o with slots:=sl }) (free:∀ b o,b∉ch→s.heap.get? b=some o→H b=none→H' b=none)
  (there:∀ b o,b∉ch→s.heap.get? b=some o→∃ o',h'.get? b=some o')
  (tups:∀ b xs,H b=some (.tup xs)→H' b=some (.tup xs)) (frzs:∀ b o u,H b=some (.frz o u)→H' b=some (.frz o u)) (tbls:∀ b ps,H b=some (.tbl ps)→∃ more,H' b=some (.tbl (ps++more)))
  (ns:∀ m,s.heap.Ns X.env.locals m→h'.Ns X.env.locals m) (hok:HOk X.prog X.w H' h') (hg:AllBare g') :
  Inv X pins σ H' { s with heap:=h',gens:=g',drawn:=d',toks:=t' }:=by
 have neL:∀ b o,X.s₀.heap.get? b=some o→b≠X.env.locals:=fun b o e=>Nat.ne_of_lt (Nat.lt_of_lt_of_le (Heap.lt_size e) I.ok.above)
 have neC:∀ b o,X.s₀.heap.get? b=some o→b∉X.ex→b∉ch:=fun b o e hx hb=>by
  rcases (hch b hb).1 with z | z
  ·exact hx z
  ·exact absurd (Nat.lt_of_lt_of_le (Heap.lt_size e) z) (Nat.lt_irrefl _)
 have cellK:∀ x c,X.env.cells.lookup x=some c→∀ v,s.heap.IsCell c v→h'.IsCell c v:=fun x c e v ⟨o,ho,hd⟩=>by
  have nch:c∉ch:=fun z=>(hch c z).2.2.1 x c e rfl
  by_cases hc:c∈X.fs
  ·obtain ⟨sl,q⟩:=slot c o (I.cne x c e) hc nch ho (I.freeC x c e)
   exact ⟨_,q,hd⟩
  ·exact ⟨o,keep c o (I.cne x c e) hc nch ho (I.freeC x c e),hd⟩
 refine ⟨I.ok,I.os,hg,⟨fun b o e n hb hx=>?_,fun b o e n hb hx=>?_,fun b o e n hx=>?_,fun b o e hx=>?_,fun b xs e=>tups b xs (I.base.tups b xs e),fun b o xs e=>frzs b o xs (I.base.frzs b o xs e),fun b ps e=>?_⟩,?_,fun x c e=>?_,?_,fun x c e=>?_,fun p hp=>?_,hok,I.len⟩
 ·exact keep b o (neL b o e) hb (neC b o e hx) (I.base.keep b o e n hb hx) (I.base.free b o e n hx)
 ·obtain ⟨sl,e1⟩:=I.base.slot b o e n hb hx
  obtain ⟨sl',e2⟩:=slot b _ (neL b o e) hb (neC b o e hx) e1 (I.base.free b o e n hx)
  exact ⟨sl',e2⟩
 ·obtain ⟨o',e1⟩:=I.base.there b o e hx
  exact free b o' (neC b o e hx) e1 (I.base.free b o e n hx)
 ·obtain ⟨o',e1⟩:=I.base.there b o e hx
  exact there b o' (neC b o e hx) e1
 ·obtain ⟨m1,e1⟩:=I.base.tbls b ps e
  obtain ⟨m2,e2⟩:=tbls b _ e1
  exact ⟨m1++m2,by rw [e2,Array.append_assoc]⟩
 ·obtain ⟨m,hn,hl⟩:=I.loc
  refine ⟨m,ns m hn,fun i x v e1 e2 e3=>?_⟩
  obtain ⟨u,r,l⟩:=hl i x v e1 e2 e3
  refine ⟨u,r,?_⟩
  rcases l with l | ⟨k,c,e,z⟩
  ·exact .inl l
  ·exact .inr ⟨k,c,e,cellK x c e _ z⟩
 ·obtain ⟨v,z⟩:=I.cell x c e
  exact ⟨v,cellK x c e v z⟩
 ·obtain ⟨m,⟨o,_,_,ho,_⟩,_⟩:=I.loc
  exact free _ o (fun z=>(hch _ z).2.1 rfl) ho I.free
 ·obtain ⟨v,o,ho,hd⟩:=I.cell x c e
  exact free c o (fun z=>(hch c z).2.2.1 x c e rfl) ho (I.freeC x c e)
 ·obtain ⟨e,n,ne,nf,d⟩:=I.pin p hp
  have nch:p.1∉ch:=fun z=>(hch p.1 z).2.2.2 p hp rfl
  exact ⟨keep p.1 p.2 ne nf nch e n,free p.1 p.2 nch e n,ne,nf,d⟩
theorem Inv.un {t':Nat} (I:Inv X pins σ H s) (u:Un X.fs [] H H' s.heap h') (hok:HOk X.prog X.w H' h'):Inv X pins σ H' { s with heap:=h',toks:=t' }:=by
 obtain ⟨m,⟨o,es,ep,ho,r⟩,_⟩:=id I.loc
 obtain ⟨sl,hL⟩:=u.any ho I.free (by simp)
 exact I.step (g':=s.gens) (d':=s.drawn) (ch:=[]) (fun _ z=>nomatch z) (fun b o _ hb _ e n=>u.keep b o e n hb (by simp)) (fun b o _ hb _ e n=>u.slot b o e n hb (by simp)) (fun b o _ e n=>u.free b o e n (by simp)) (fun b o _ e=>u.there b o e (by simp)) u.tups u.frzs u.tbls (fun m' hm=>by
  obtain ⟨o',es',ep',ho',r'⟩:=hm
  rw [ho] at ho';cases ho'
  exact ⟨_,es',ep',hL,r'⟩) hok I.bare
theorem Inv.call {g':Array GenState} {t':Nat} {d':Drawn} {ch:List Addr} (I:Inv X pins σ H s) (u:Un (frs X.stack) ch H H' s.heap h') (hok:HOk X.prog X.w H' h') (hg:AllBare g')
  (hch:∀ b∈ch,(b∈X.ex∨X.s₀.heap.objs.size≤b)∧b≠X.env.locals∧(∀ x c,X.env.cells.lookup x=some c→c≠b)∧∀ p∈X.pn++pins,p.1≠b) :
  Inv X pins σ H' { s with heap:=h',gens:=g',drawn:=d',toks:=t' }:=by
 obtain ⟨m,⟨o,es,ep,ho,r⟩,_⟩:=id I.loc
 obtain ⟨sl,hL⟩:=u.any ho I.free fun z=>(hch _ z).2.1 rfl
 exact I.step (ch:=ch) hch (fun b o hL hb hc e n=>u.keep b o e n (fun z=>(List.mem_cons.mp (I.stkSub b z)).elim hL hb) hc) (fun b o _ _ hc e n=>u.any e n hc) (fun b o hc e n=>u.free b o e n hc) (fun b o hc e=>u.there b o e hc) u.tups u.frzs u.tbls (fun m' hm=>by
  obtain ⟨o',es',ep',ho',r'⟩:=hm
  rw [ho] at ho';cases ho'
  exact ⟨_,es',ep',hL,r'⟩) hok hg
theorem Inv.turned {t':Nat} {it:Addr} (I:Inv X pins σ H s) (k:∀ b o,b≠it→s.heap.get? b=some o→h'.get? b=some o) (hn:H it=none) (hL:it≠X.env.locals)
  (h1:it∈X.ex∨X.s₀.heap.objs.size≤it) (h2:∀ x c,X.env.cells.lookup x=some c→c≠it) (h3:∀ p∈X.pn++pins,p.1≠it):Inv X pins σ H { s with heap:=h',toks:=t' }:=by
 have nit:∀ b u,H b=some u→b≠it:=fun b u e z=>by rw [z,hn] at e;cases e
 refine I.step (g':=s.gens) (d':=s.drawn) (ch:=[it]) (fun b hb=>?_) (fun b o _ _ hc e _=>k b o (fun z=>hc (by simp [z])) e) (fun b o _ _ hc e _=>⟨o.slots,k b o (fun z=>hc (by simp [z])) e⟩) (fun _ _ _ _ n=>n)
  (fun b o hc e=>⟨o,k b o (fun z=>hc (by simp [z])) e⟩) (fun _ _ e=>e) (fun _ _ _ e=>e) (fun b ps e=>⟨#[],by rw [e];simp⟩) (fun m hm=>?_) (fun b u e=>?_) I.bare
 ·have e:b=it:=by simpa using hb
  subst e
  exact ⟨h1,hL,h2,h3⟩
 ·obtain ⟨o,es,ep,ho,r⟩:=hm
  exact ⟨o,es,ep,k _ o (Ne.symm hL) ho,r⟩
 ·refine (I.hok b u e).stay (fun c v hc q=>k c v ?_ q) (fun _ q=>q) fun _ _ q=>q
  rcases hc with z | z
  ·rw [z];exact nit b u e
  ·exact nit c _ z
theorem Inv.tok (I:Inv X pins σ H s) (t:Nat):Inv X pins σ H { s with toks:=t }:=I.un (h':=s.heap) (t':=t) Un.refl I.hok
theorem Inv.kept {t':Nat} (I:Inv X pins σ H s) (k:∀ b u,s.heap.get? b=some u→h'.get? b=some u):Inv X pins σ H { s with heap:=h',toks:=t' }:=I.un (Un.kept k) (I.hok.kept k)
theorem Inv.laid {a:Addr} {o:HO} {t':Nat} (I:Inv X pins σ H s) (k:∀ b u,s.heap.get? b=some u→h'.get? b=some u) (hp:s.heap.objs.size≤a) (new:Yu X.prog X.w (upd H a o) h' a o) :
  Inv X pins σ (upd H a o) { s with heap:=h',toks:=t' }:=I.un (Un.laid k hp (I.hok.fresh hp)) (I.hok.laid k hp new)
theorem Inv.write {x e:Addr} {o:HO} {t':Nat} (I:Inv X pins σ H s) (mu:Mut (H x)) (he:e=x∨H e=some (.own x)) (k:∀ b u,b≠e→s.heap.get? b=some u→h'.get? b=some u) (heo:∃ u,h'.get? e=some u)
  (new:Yu X.prog X.w (upd H x o) h' x o):Inv X pins σ (upd H x o) { s with heap:=h',toks:=t' }:=I.un (Un.write mu he k heo) (I.hok.write mu he k heo new)
theorem Inv.pins_of {pins':List (Addr×Obj)} (I:Inv X pins σ H s) (h:∀ p∈pins',s.heap.get? p.1=some p.2∧H p.1=none∧p.1≠X.env.locals∧p.1∉X.fs∧∀ v,p.2.data ≠ .cell v):Inv X pins' σ H s :=
 ⟨I.ok,I.os,I.bare,I.base,I.loc,I.cell,I.free,I.freeC,fun p hp=>(List.mem_append.mp hp).elim (fun z=>I.pin p (List.mem_append_left _ z)) (h p),I.hok,I.len⟩
theorem WX {N:List Str} (hN:N.Nodup) {i j:Nat} {x:Str} (a:N[i]?=some x) (b:N[j]?=some x):i=j:=by
 obtain ⟨h1,e1⟩:=List.getElem?_eq_some_iff.mp a
 obtain ⟨h2,e2⟩:=List.getElem?_eq_some_iff.mp b
 exact (List.getElem_inj hN).mp (e1.trans e2.symm)
theorem QO {M:Model} {A:Around} {E:Value→Shared→Prop} {i:Nat} {x:Str} {v:V} {u:Value} {Q:Unit→Shared→Prop} (I:Inv X pins σ H s) (hN:X.N.Nodup) (hi:X.N[i]?=some x) (hx:Loc X.env.scope x) (r:Ym v u)
  (h:∀ s',Inv X pins (σ.set i (some v)) H s'→(∃ a,Heap.SameBut a s.heap s'.heap∧(a=X.env.locals∨X.env.cells.lookup x=some a))→Q () s') (hf:X.fn x=true∨X.env.scope.names.lookup x=some .local:=by first | exact .inl rfl | exact .inr rfl | assumption):wpAny M A (storeName X.env x u) Q E s:=by
 obtain ⟨m,hn,hl⟩:=id I.loc
 have hcls:(X.env.scope.kind == .class||(X.env.scope.kind == .module&&X.env.locals != X.env.globals))=false:=by rw [I.ok.kind];rfl
 have hiσ:i<σ.length:=by rw [I.len];exact (List.getElem?_eq_some_iff.mp hi).1
 have cne:=I.cne
 have tracked:∀ {a:Addr} {h':Heap},(∃ o,s.heap.get? a=some o∧H a=none)→Heap.SameBut a s.heap h'→HOk X.prog X.w H h':=fun {a h'} ha hs b ob e=>by
  obtain ⟨_,_,hfree⟩:=ha
  refine (I.hok b ob e).stay (fun c w' hc q=>(hs.2 c ?_).trans q) (fun _ q=>q) fun _ _ q=>q
  rintro rfl
  rcases hc with rfl | hc
  ·rw [hfree] at e;cases e
  ·rw [hfree] at hc;cases hc
 rcases hx with hk | hk
 ·refine wpAny_storeName_local hk hn (fun h' hn' hs=>?_) hcls
  obtain ⟨oL,_,_,hoL,_⟩:=id hn
  refine h _ ⟨I.ok,I.os,I.bare,⟨fun b o e n hb hx=>?_,fun b o e n hb hx=>?_,I.base.free,fun b o e hx=>?_,I.base.tups,I.base.frzs,I.base.tbls⟩,⟨_,hn',fun j y v' e1 e2 e3=>?_⟩,fun y c e=>?_,I.free,I.freeC,fun p hp=>?_,tracked ⟨oL,hoL,I.free⟩ hs,by simpa using I.len⟩ ⟨_,hs,.inl rfl⟩
  ·exact (hs.2 b (Nat.ne_of_lt (Nat.lt_of_lt_of_le (Heap.lt_size e) I.ok.above))).trans (I.base.keep b o e n hb hx)
  ·obtain ⟨sl,e1⟩:=I.base.slot b o e n hb hx
   exact ⟨sl,(hs.2 b (Nat.ne_of_lt (Nat.lt_of_lt_of_le (Heap.lt_size e) I.ok.above))).trans e1⟩
  ·obtain ⟨o',e1⟩:=I.base.there b o e hx
   exact ⟨o',(hs.2 b (Nat.ne_of_lt (Nat.lt_of_lt_of_le (Heap.lt_size e) I.ok.above))).trans e1⟩
  ·by_cases hj:j=i
   ·subst hj
    rw [hi] at e1;cases e1
    rw [List.getElem?_set_self hiσ] at e2
    cases e2
    exact ⟨u,r,.inl ⟨hk,by simp⟩⟩
   ·rw [List.getElem?_set_ne (Ne.symm hj)] at e2
    obtain ⟨u',r',q⟩:=hl j y v' e1 e2 e3
    refine ⟨u',r',?_⟩
    rcases q with ⟨k,e⟩ | ⟨k,c,e,z⟩
    ·refine .inl ⟨k,?_⟩
     have:y≠x:=fun e=>hj (WX hN e1 (e▸hi))
     simp [this,e]
    ·exact .inr ⟨k,c,e,z.sameBut hs (cne y c e)⟩
  ·obtain ⟨w',z⟩:=I.cell y c e
   exact ⟨w',z.sameBut hs (cne y c e)⟩
  ·obtain ⟨e,n,ne,nf,d⟩:=I.pin p hp
   exact ⟨(hs.2 p.1 ne).trans e,n,ne,nf,d⟩
 ·have hfn:X.fn x=true:=by
   rcases hf with z | z
   ·exact z
   ·rw [z] at hk;cases hk
  obtain ⟨c,hc⟩:=I.ok.has x (.inl hk)
  obtain ⟨w',z⟩:=I.cell x c hc
  refine wpAny_storeName_cell I.ok.kind hk hc z (fun h' hc' hs=>?_)
  obtain ⟨oc,hoc,hocd⟩:=id z
  refine h { s with heap:=h' } ⟨I.ok,I.os,I.bare,⟨fun b o e n hb hx=>?_,fun b o e n hb hx=>?_,I.base.free,fun b o e hx=>?_,I.base.tups,I.base.frzs,I.base.tbls⟩,⟨m,hn.sameBut hs (Ne.symm (cne x c hc)),fun j y v' e1 e2 e3=>?_⟩,fun y c' e=>?_,I.free,I.freeC,fun p hp=>?_,tracked ⟨oc,hoc,I.freeC x c hc⟩ hs,by simpa using I.len⟩ ⟨c,hs,.inr hc⟩
  ·exact (hs.2 b (Nat.ne_of_lt (Nat.lt_of_lt_of_le (Heap.lt_size e) (I.ok.cab x c hfn hc)))).trans (I.base.keep b o e n hb hx)
  ·obtain ⟨sl,e1⟩:=I.base.slot b o e n hb hx
   exact ⟨sl,(hs.2 b (Nat.ne_of_lt (Nat.lt_of_lt_of_le (Heap.lt_size e) (I.ok.cab x c hfn hc)))).trans e1⟩
  ·obtain ⟨o',e1⟩:=I.base.there b o e hx
   exact ⟨o',(hs.2 b (Nat.ne_of_lt (Nat.lt_of_lt_of_le (Heap.lt_size e) (I.ok.cab x c hfn hc)))).trans e1⟩
  ·by_cases hj:j=i
   ·subst hj
    rw [hi] at e1;cases e1
    rw [List.getElem?_set_self hiσ] at e2
    cases e2
    exact ⟨u,r,.inr ⟨.inl hk,c,hc,hc'⟩⟩
   ·rw [List.getElem?_set_ne (Ne.symm hj)] at e2
    obtain ⟨u',r',q⟩:=hl j y v' e1 e2 e3
    refine ⟨u',r',?_⟩
    rcases q with q | ⟨k,c',e,z'⟩
    ·exact .inl q
    ·refine .inr ⟨k,c',e,z'.sameBut hs ?_⟩
     rintro rfl
     exact hj (WX hN e1 (I.ok.inj _ _ _ e hc▸hi))
  ·by_cases hcc:c'=c
   ·subst hcc;exact ⟨_,hc'⟩
   ·obtain ⟨w2,z2⟩:=I.cell y c' e
    exact ⟨w2,z2.sameBut hs hcc⟩
  ·obtain ⟨e,n,ne,nf,d⟩:=I.pin p hp
   refine ⟨(hs.2 p.1 ?_).trans e,n,ne,nf,d⟩
   intro q
   rw [q,hoc] at e
   have q':oc=p.2:=Option.some.inj e
   exact d w' (by rw [← q'];exact hocd)
theorem Xt {M:Model} {A:Around} {E:Value→Shared→Prop} {i:Nat} {x:Str} {v:V} {u:Value} {Q:Unit→Shared→Prop} (I:Inv X pins σ H s) (hN:X.N.Nodup) (hi:X.N[i]?=some x) (hx:Loc X.env.scope x) (r:Ym v u)
  (h:∀ s',Inv X pins (σ.set i (some v)) H s'→Q () s') (hf:X.fn x=true∨X.env.scope.names.lookup x=some .local:=by first | exact .inl rfl | exact .inr rfl | assumption):wpAny M A (storeName X.env x u) Q E s :=
 QO I hN hi hx r (fun s' I' _=>h s' I') hf
theorem Inv.call' {s':Shared} {ch:List Addr} (I:Inv X pins σ H s) (ho:s'.os=s.os) (u:Un (frs X.stack) ch H H' s.heap s'.heap) (hok:HOk X.prog X.w H' s'.heap) (hg:AllBare s'.gens)
  (hch:∀ b∈ch,(b∈X.ex∨X.s₀.heap.objs.size≤b)∧b≠X.env.locals∧(∀ x c,X.env.cells.lookup x=some c→c≠b)∧∀ p∈X.pn++pins,p.1≠b):Inv X pins σ H' s':=by
 obtain ⟨h',g',d',t',o'⟩:=s'
 have e:o'=s.os:=ho
 subst e
 exact I.call (g':=g') (t':=t') (d':=d') u hok hg hch
end
abbrev XK:=Value→Option Addr→Hp→Prop
abbrev St:=List (Option V)
abbrev VK:=V→Hp→Prop
abbrev TE:=St→Hp→VK→Prop
abbrev TT:=St→Hp→(Bool→Hp→Prop)→Prop
abbrev TA:=St→Hp→(List V→Hp→Prop)→Prop
structure Ends where
 nx:St→Hp→Prop
 rt:VK
 bk:St→Hp→Prop:=fun _ _=>False
 ct:St→Hp→Prop:=fun _ _=>False
abbrev TS:=Ends→St→Hp→Prop
def EP (X:Cx) (pins:List (Addr×Obj)) (σ:St) (Q:VK) (u:Value) (s':Shared):Prop:=∃ v H',Inv X pins σ H' s'∧Ym v u∧Q v H'
def TP (X:Cx) (pins:List (Addr×Obj)) (σ:St) (Q:Bool→Hp→Prop) (b:Bool) (s':Shared):Prop:=∃ H',Inv X pins σ H' s'∧Q b H'
def AP (X:Cx) (pins:List (Addr×Obj)) (σ:St) (Q:List V→Hp→Prop) (us:List Value) (s':Shared):Prop:=∃ vs H',Inv X pins σ H' s'∧Yl vs us∧Q vs H'
def SP (X:Cx) (pins:List (Addr×Obj)) (D:Ends) (f:Flow) (s':Shared):Prop :=
 match f with
 | .next=>∃ σ' H',Inv X pins σ' H' s'∧D.nx σ' H'
 | .brk=>∃ σ' H',Inv X pins σ' H' s'∧D.bk σ' H'
 | .cont=>∃ σ' H',Inv X pins σ' H' s'∧D.ct σ' H'
 | .ret u=>∃ v σ' H',Inv X pins σ' H' s'∧Ym v u∧D.rt v H'
def PE (X:Cx) (e:Expr) (t:TE):Prop :=
 ∀ (pins:List (Addr×Obj)) (s:Shared) (σ:St) (H:Hp) (Q:VK),Inv X pins σ H s→t σ H Q→wpAny (model X.prog X.w) X.A (eval e X.env) (EP X pins σ Q) X.xe s
def PT (X:Cx) (e:Expr) (t:TT):Prop :=
 ∀ (pins:List (Addr×Obj)) (s:Shared) (σ:St) (H:Hp) (Q:Bool→Hp→Prop),Inv X pins σ H s→t σ H Q→wpAny (model X.prog X.w) X.A (isTrue e X.env (eval e X.env)) (TP X pins σ Q) X.xe s
def PW (X:Cx) (e:Expr) (t:TT):Prop :=
 ∀ (whole:Sem Value) (pins:List (Addr×Obj)) (s:Shared) (σ:St) (H:Hp) (Q:Bool→Hp→Prop),Inv X pins σ H s→t σ H Q→wpAny (model X.prog X.w) X.A (isTrue e X.env whole) (TP X pins σ Q) X.xe s
theorem PW.pt {X:Cx} {e:Expr} {t:TT} (h:PW X e t):PT X e t:=h _
def PA (X:Cx) (es:List Expr) (t:TA):Prop :=
 ∀ (pos:Pos) (pins:List (Addr×Obj)) (s:Shared) (σ:St) (H:Hp) (Q:List V→Hp→Prop),Inv X pins σ H s→t σ H Q→wpAny (model X.prog X.w) X.A (spliced (backTo pos (starEach es X.env))) (AP X pins σ Q) X.xe s
def PS (X:Cx) (st:Stmt) (t:TS):Prop :=
 ∀ (pins:List (Addr×Obj)) (s:Shared) (σ:St) (H:Hp) (D:Ends),Inv X pins σ H s→t D σ H→wpAny (model X.prog X.w) X.A (exec st X.env) (SP X pins D) X.xe s
def PSs (X:Cx) (st:List Stmt) (t:TS):Prop :=
 ∀ (pins:List (Addr×Obj)) (s:Shared) (σ:St) (H:Hp) (D:Ends),Inv X pins σ H s→t D σ H→wpAny (model X.prog X.w) X.A (execs st X.env) (SP X pins D) X.xe s
theorem thn {α:Type} {t:Sem α} {Q Q':α→Shared→Prop} {M:Model} {A:Around} {E:Value→Shared→Prop} {s:Shared} (h:wpAny M A t Q E s) (hQ:∀ a s,Q a s→Q' a s):wpAny M A t Q' E s:=wpAny_mono h hQ fun _ _ x=>x
end L2
namespace L2
open PySem PySem.Spec PyProof.Rows
section
variable {X:Cx}
def Wq (i:Nat):TE:=fun σ H Q=>∃ v,σ[i]?=some (some v)∧Q v H
def tC (v:V):TE:=fun _ H Q=>Q v H
theorem QP {i:Nat} {x:Str} {pos:Pos} (hN:X.N[i]?=some x) (hv:Vis X.env.scope x) (hd:(x==("__debug__":Str))=false:=by decide) (hcd:(x==("__classdict__":Str))=false:=by decide):PE X (.Name x pos) (Wq i):=by
 intro pins s σ H Q I h
 obtain ⟨v,e,h⟩:=h
 obtain ⟨m,hn,hl⟩:=I.loc
 obtain ⟨u,r,l⟩:=hl i x v hN e hv
 have fin:EP X pins σ Q u s:=⟨v,H,I,r,h⟩
 rcases l with ⟨hk,hm⟩ | ⟨hk,c,hc,hcell⟩
 ·exact wpAny_Name (wpAny_loadName_local I.ok.kind hk hn hm fin) hd
 ·rcases hk with hk | hk
  ·exact wpAny_Name (wpAny_loadName_cell I.ok.kind hk hc hcell fin) hd
  ·exact wpAny_Name (wpAny_loadName_free I.ok.kind hk hc hcell fin hcd) hd
theorem Yi {i j pos}:PE X (.Constant (.int i) j pos) (tC (.int i)):=fun _ _ _ H _ I h=>wpAny_Constant_int ⟨.int i,H,I.tok _,⟨_,rfl⟩,h⟩
theorem Wg {b j pos}:PE X (.Constant (.bool b) j pos) (tC (.bl b)):=fun _ _ _ H _ I h=>Constant_bool ⟨.bl b,H,I,rfl,h⟩
theorem Y8 {j pos}:PE X (.Constant .none j pos) (tC .non):=fun _ _ _ H _ I h=>Constant_none ⟨.non,H,I,rfl,h⟩
theorem Xf {x j pos}:PE X (.Constant (.str x) j pos) (tC (.str x)):=fun _ _ _ H _ I h=>Calls.Constant_str ⟨.str x,H,I.tok _,⟨_,rfl⟩,h⟩
def Gl (X:Cx) (x:Str):Prop:=X.env.kindOf x=some .globalImplicit
theorem Xk {E:Value→Shared→Prop} {pins:List (Addr×Obj)} {s:Shared} {σ:St} {H:Hp} {x:Str} {u:Value} {pos:Pos} {Q:Value→Shared→Prop} (I:Inv X pins σ H s) (hg:Gl X x) (hm:X.mg x=some u) (h:Q u s)
  (hd:(x==("__debug__":Str))=false:=by decide):wpAny (model X.prog X.w) X.A (eval (.Name x pos) X.env) Q E s :=
 Calls.Name_function_global I.ok.kind hg (Calls.loadGlobal_global (by rw [I.ok.glob];exact I.mod.glob.keeps I.bk) hm h) hd
theorem VY {E:Value→Shared→Prop} {pins:List (Addr×Obj)} {s:Shared} {σ:St} {H:Hp} {x:Str} {u:Value} {pos:Pos} {Q:Value→Shared→Prop} (I:Inv X pins σ H s) (hg:Gl X x) (hm:X.mg x=none) (hv:bootBuiltins x=some u) (h:Q u s)
  (hn:x≠"__name__":=by decide) (hd:(x==("__debug__":Str))=false:=by decide):wpAny (model X.prog X.w) X.A (eval (.Name x pos) X.env) Q E s:=by
 obtain ⟨mb,h1,h2⟩:=I.mod.blt
 exact Calls.Name_function_global I.ok.kind hg (Calls.loadGlobal_builtin (by rw [I.ok.glob];exact I.mod.glob.keeps I.bk) hm (by rw [I.ok.blt];exact h1.keeps I.bk) ((h2 x hn).trans hv) h) hd
theorem Ybu {x:Str} {v:V} {u:Value} {pos:Pos} (hg:Gl X x) (hm:X.mg x=some u) (r:Ym v u) (hd:(x==("__debug__":Str))=false:=by decide):PE X (.Name x pos) (tC v) :=
 fun _ _ _ H _ I h=>Xk I hg hm ⟨v,H,I,r,h⟩ hd
theorem Ybv {x:Str} {v:V} {u:Value} {pos:Pos} (hg:Gl X x) (hm:X.mg x=none) (hv:bootBuiltins x=some u) (r:Ym v u) (hn:x≠"__name__":=by decide) (hd:(x==("__debug__":Str))=false:=by decide):PE X (.Name x pos) (tC v) :=
 fun _ _ _ H _ I h=>VY I hg hm hv ⟨v,H,I,r,h⟩ hn hd
variable {a b:Expr} {ta tb:TE} {pos:Pos}
def tB (t:TE):TT:=fun σ H Q=>t σ H fun x H1=>∃ c,x = .bl c∧Q c H1
theorem YI {e:Expr} {t:TE} (h:PE X e t) (he:∀ whole,isTrue e X.env whole=(do let v ← whole;standAt e.pos;holding [v] (truthy v))):PT X e (tB t):=by
 intro pins s σ H Q I hw
 refine isTrue_plain (thn (h pins s σ H _ I hw) fun v s1 ⟨x,H1,I1,r1,q1⟩=>?_) (he _)
 obtain ⟨d,rfl,q⟩:=q1
 cases r1
 exact wpAny_truthy_bool ⟨H1,I1,q⟩
variable {tA tB':TT} {YD:List Expr}
def tAnd (t u:TT):TT:=fun σ H Q=>t σ H fun c H1=>if c=true then u σ H1 Q else Q false H1
def tOr (t u:TT):TT:=fun σ H Q=>t σ H fun c H1=>if c=true then Q true H1 else u σ H1 Q
def tNot (t:TT):TT:=fun σ H Q=>t σ H fun c H1=>Q (!c) H1
theorem Ybw (ha:PT X a tA):PW X (.BoolOp .And [a] pos) tA:=by
 intro wh pins s σ H Q I h
 refine isTrue_and (thn (ha pins s σ H Q I h) fun c s1 e=>?_)
 cases c with
 | true=>exact isTrue_and_nil e
 | false=>exact e
theorem Wr (ha:PT X a tA):PW X (.BoolOp .Or [a] pos) tA:=by
 intro wh pins s σ H Q I h
 refine isTrue_or (thn (ha pins s σ H Q I h) fun c s1 e=>?_)
 cases c with
 | false=>exact isTrue_or_nil e
 | true=>exact e
theorem Ycd (ha:PT X a tA) (hb:PW X (.BoolOp .And (b::YD) pos) tB'):PW X (.BoolOp .And (a::b::YD) pos) (tAnd tA tB'):=by
 intro wh pins s σ H Q I h
 refine isTrue_and (thn (ha pins s σ H _ I h) fun c s1 ⟨H1,I1,q1⟩=>?_)
 cases c with
 | true=>exact hb wh pins s1 σ H1 Q I1 q1
 | false=>exact ⟨H1,I1,q1⟩
theorem Xn (ha:PT X a tA) (hb:PW X (.BoolOp .Or (b::YD) pos) tB'):PW X (.BoolOp .Or (a::b::YD) pos) (tOr tA tB'):=by
 intro wh pins s σ H Q I h
 refine isTrue_or (thn (ha pins s σ H _ I h) fun c s1 ⟨H1,I1,q1⟩=>?_)
 cases c with
 | true=>exact ⟨H1,I1,q1⟩
 | false=>exact hb wh pins s1 σ H1 Q I1 q1
theorem Ws (ha:PT X a tA):PT X (.UnaryOp .Not a pos) (tNot tA):=by
 intro pins s σ H Q I h
 exact isTrue_not (ha pins s σ H (fun c H1=>Q (!c) H1) I h)
def Ya4 (ta tb:TE):TE:=fun σ H Q=>ta σ H fun x H1=>∃ c,x = .bl c∧if c=true then tb σ H1 Q else Q (.bl false) H1
def tOrV (ta tb:TE):TE:=fun σ H Q=>ta σ H fun x H1=>∃ c,x = .bl c∧if c=true then Q (.bl true) H1 else tb σ H1 Q
def Ya5 (ta:TE):TE:=fun σ H Q=>ta σ H fun x H1=>∃ c,x = .bl c∧Q (.bl (!c)) H1
theorem VZ {op} {t:TE} (h:PE X a t):PE X (.BoolOp op [a] pos) t:=fun pins s σ H Q I hw=>BoolOp_one (h pins s σ H Q I hw)
theorem V0 (ha:PE X a ta) (hb:PE X (.BoolOp .And (b::YD) pos) tb):PE X (.BoolOp .And (a::b::YD) pos) (Ya4 ta tb):=by
 intro pins s σ H Q I h
 refine BoolOp_and (thn (ha pins s σ H _ I h) fun v s1 ⟨x,H1,I1,r1,q1⟩=>?_)
 obtain ⟨c,rfl,q1⟩:=q1
 cases r1
 refine wpAny_truthy_bool ?_
 cases c with
 | true=>exact hb pins s1 σ H1 Q I1 q1
 | false=>exact ⟨.bl false,H1,I1,rfl,q1⟩
theorem pe_or (ha:PE X a ta) (hb:PE X (.BoolOp .Or (b::YD) pos) tb):PE X (.BoolOp .Or (a::b::YD) pos) (tOrV ta tb):=by
 intro pins s σ H Q I h
 refine BoolOp_or (thn (ha pins s σ H _ I h) fun v s1 ⟨x,H1,I1,r1,q1⟩=>?_)
 obtain ⟨c,rfl,q1⟩:=q1
 cases r1
 refine wpAny_truthy_bool ?_
 cases c with
 | false=>exact hb pins s1 σ H1 Q I1 q1
 | true=>exact ⟨.bl true,H1,I1,rfl,q1⟩
theorem Yce (ha:PE X a ta):PE X (.UnaryOp .Not a pos) (Ya5 ta):=by
 intro pins s σ H Q I h
 refine UnaryOp_ (thn (ha pins s σ H _ I h) fun v s1 ⟨x,H1,I1,r1,q1⟩=>?_)
 obtain ⟨c,rfl,q1⟩:=q1
 cases r1
 exact not_of (wpAny_truthy_bool ⟨.bl (!c),H1,I1,rfl,q1⟩)
def tIf (t:TT) (ta tb:TE):TE:=fun σ H Q=>t σ H fun c H1=>if c=true then ta σ H1 Q else tb σ H1 Q
theorem Yaw {c:Expr} (hc:PT X c tA) (ha:PE X a ta) (hb:PE X b tb):PE X (.IfExp c a b pos) (tIf tA ta tb):=by
 intro pins s σ H Q I h
 refine wpAny_IfExp (thn (hc pins s σ H _ I h) fun d s1 ⟨H1,I1,q1⟩=>?_)
 cases d with
 | true=>exact ha pins s1 σ H1 Q I1 q1
 | false=>exact hb pins s1 σ H1 Q I1 q1
end
end L2
namespace L2
open PySem PySem.Spec PyProof.Rows
def SqL (K:PySem.W.Frag) (H:Hp) (a:Addr) (xs:List V):Prop :=
 Rd H a (.lst xs) ∨
  ∃ (o:Obj) (its:Array Value) (n:Nat),K.lookup a=some o∧o.cls = .type "list"∧o.dict=none∧o.data = .seq its n∧its.size≤sizeLine∧Yl xs its.toList
def SqT (K:PySem.W.Frag) (H:Hp) (a:Addr) (xs:List V):Prop :=
 Rd H a (.tup xs) ∨
  ∃ (o:Obj) (its:Array Value) (n:Nat),K.lookup a=some o∧o.cls = .type "tuple"∧o.data = .seq its n∧its.size≤sizeLine∧Yl xs its.toList
def absV:Value→Option V
 | .none=>some .non
 | .bool b=>some (.bl b)
 | .int i _=>some (.int i)
 | .str x _=>some (.str x)
 | .bytes b _=>some (.byt b)
 | .float b _=>some (.flt b)
 | .ref a=>some (.ref a)
 | .type n=>some (.ty n)
 | _=>none
theorem Ym.abs {x:V} {u:Value} (r:Ym x u):absV u=some x:=by
 cases x with
 | non=>cases r;rfl
 | bl _=>cases r;rfl
 | int _=>obtain ⟨t,rfl⟩:=r;rfl
 | str _=>obtain ⟨t,rfl⟩:=r;rfl
 | byt _=>obtain ⟨t,rfl⟩:=r;rfl
 | flt _=>obtain ⟨t,rfl⟩:=r;rfl
 | ref _=>cases r;rfl
 | ty _=>cases r;rfl
theorem Ym.inj {x y:V} {u:Value} (r:Ym x u) (q:Ym y u):x=y:=Option.some.inj (r.abs.symm.trans q.abs)
theorem Yl.inj:∀ {xs ys:List V} {us:List Value},Yl xs us→Yl ys us→xs=ys
 | _,_,_,.nil,.nil=>rfl
 | _,_,_,.cons r t,.cons r' t'=>by rw [r.inj r',Yl.inj t t']
section
variable {X:Cx} {pins:List (Addr×Obj)} {σ:St} {H:Hp} {s:Shared} {a:Addr} {xs ys:List V}
theorem SqL.of {K:PySem.W.Frag} (h:H a=some (.lst xs)):SqL K H a xs := .inl (.inl h)
theorem SqT.of {K:PySem.W.Frag} (h:H a=some (.tup xs)):SqT K H a xs := .inl (.inl h)
theorem Inv.list (I:Inv X pins σ H s) (h:SqL X.K H a xs):∃ its:List Value,Yl xs its∧PlainL s.heap a its.toArray∧xs.length≤sizeLine:=by
 rcases h with h | ⟨o,its,n,hk,hc,hd,hs,hz,r⟩
 ·obtain ⟨z,its,n,r,e⟩:=h.ok I.hok
  exact ⟨its,r,⟨_,n,e,rfl,rfl,rfl⟩,z⟩
 ·refine ⟨its.toList,r,⟨o,n,I.kIn a o hk,hc,hd,by simpa using hs⟩,?_⟩
  have e:=r.length
  simp only [Array.length_toList] at e
  omega
theorem Inv.tuple (I:Inv X pins σ H s) (h:SqT X.K H a xs):∃ its:List Value,Yl xs its∧IsTup s.heap a its.toArray∧xs.length≤sizeLine:=by
 rcases h with h | ⟨o,its,n,hk,hc,hs,hz,r⟩
 ·obtain ⟨z,its,r,p⟩:=h.ok I.hok
  exact ⟨its,r,p,z⟩
 ·refine ⟨its.toList,r,⟨o,I.kIn a o hk,hc,n,by simpa using hs⟩,?_⟩
  have e:=r.length
  simp only [Array.length_toList] at e
  omega
theorem Inv.list_inj (I:Inv X pins σ H s) (h:SqL X.K H a xs) (h':SqL X.K H a ys):xs=ys:=by
 obtain ⟨its,r,⟨o,n,e,_,_,d⟩,_⟩:=I.list h
 obtain ⟨its',r',⟨o',n',e',_,_,d'⟩,_⟩:=I.list h'
 rw [e] at e';cases e'
 rw [d] at d'
 injection d' with d1 _
 have:its=its':=by simpa using congrArg Array.toList d1
 subst this
 exact r.inj r'
end
abbrev Cx.wish (X:Cx) (E:Value→Shared→Prop):Cx:={ X with xe:=E }
abbrev Cx.nox (X:Cx):Cx:=X.wish fun _ _=>False
theorem Cx.Ok.wish {X:Cx} (ok:X.Ok) (E:Value→Shared→Prop):(X.wish E).Ok :=
 ⟨ok.mod,ok.kind,ok.glob,ok.blt,ok.above,ok.inj,ok.has,ok.cab,ok.hd,ok.frames,ok.stk,ok.exf,ok.bs,ok.bsz,ok.noex,ok.exfs,ok.funs,ok.frf⟩
theorem Cx.Ok.unwish {X:Cx} {E:Value→Shared→Prop} (ok:(X.wish E).Ok):X.Ok :=
 ⟨ok.mod,ok.kind,ok.glob,ok.blt,ok.above,ok.inj,ok.has,ok.cab,ok.hd,ok.frames,ok.stk,ok.exf,ok.bs,ok.bsz,ok.noex,ok.exfs,ok.funs,ok.frf⟩
section
variable {X:Cx} {pins:List (Addr×Obj)} {σ:St} {H:Hp} {s:Shared} {E:Value→Shared→Prop}
theorem Inv.wish (I:Inv X pins σ H s) (E:Value→Shared→Prop):Inv (X.wish E) pins σ H s:=⟨I.ok.wish E,I.os,I.bare,I.base,I.loc,I.cell,I.free,I.freeC,I.pin,I.hok,I.len⟩
theorem Inv.unwish (I:Inv (X.wish E) pins σ H s):Inv X pins σ H s:=⟨I.ok.unwish,I.os,I.bare,I.base,I.loc,I.cell,I.free,I.freeC,I.pin,I.hok,I.len⟩
theorem SP.unwish {D:Ends} {f:Flow} {s':Shared} (h:SP (X.wish E) pins D f s'):SP X pins D f s':=by
 cases f with
 | next=>obtain ⟨σ',H',I,q⟩:=h;exact ⟨σ',H',I.unwish,q⟩
 | brk=>obtain ⟨σ',H',I,q⟩:=h;exact ⟨σ',H',I.unwish,q⟩
 | cont=>obtain ⟨σ',H',I,q⟩:=h;exact ⟨σ',H',I.unwish,q⟩
 | ret u=>obtain ⟨v,σ',H',I,r,q⟩:=h;exact ⟨v,σ',H',I.unwish,r,q⟩
theorem PE.nox {e:Expr} {t:TE} (h:PE X.nox e t):PE X e t:=fun pins s σ H Q I hw =>
 wpAny_mono (h pins s σ H Q (I.wish _) hw) (fun _ _ ⟨v,H',I',r,q⟩=>⟨v,H',I'.unwish,r,q⟩) fun _ _ z=>False.elim z
theorem PT.nox {e:Expr} {t:TT} (h:PT X.nox e t):PT X e t:=fun pins s σ H Q I hw =>
 wpAny_mono (h pins s σ H Q (I.wish _) hw) (fun _ _ ⟨H',I',q⟩=>⟨H',I'.unwish,q⟩) fun _ _ z=>False.elim z
theorem PSs.nox {st:List Stmt} {t:TS} (h:PSs X.nox st t):PSs X st t:=fun pins s σ H D I hw =>
 wpAny_mono (h pins s σ H D (I.wish _) hw) (fun _ _ q=>q.unwish) fun _ _ z=>False.elim z
end
section
variable {X:Cx} {st:Stmt} {YD:List Stmt} {t u:TS} {e:Expr} {te:TE} {pos:Pos}
def Ya6:TS:=fun D σ H=>D.nx σ H
def Y9 (t u:TS):TS:=fun D σ H=>t { D with nx:=u D } σ H
theorem Yy:PSs X [] Ya6:=fun _ _ σ H _ I h=>wpAny_execs_nil ⟨σ,H,I,h⟩
theorem Yf (h1:PS X st t) (h2:PSs X YD u):PSs X (st::YD) (Y9 t u):=by
 intro pins s σ H D I h
 refine wpAny_execs_cons (thn (h1 pins s σ H { D with nx:=u D } I h) fun f s1 q=>?_)
 cases f with
 | next =>
  obtain ⟨σ',H',I',q⟩:=q
  exact h2 pins s1 σ' H' D I' q
 | ret v=>exact q
 | brk=>exact q
 | cont=>exact q
theorem Yh (h1:PS X st t):PSs X [st] t:=by
 intro pins s σ H D I h
 refine wpAny_execs_cons (thn (h1 pins s σ H D I h) fun f s1 q=>?_)
 cases f with
 | next=>exact wpAny_execs_nil q
 | ret v=>exact q
 | brk=>exact q
 | cont=>exact q
def Ycf:TS:=fun D σ H=>D.bk σ H
def tCont:TS:=fun D σ H=>D.ct σ H
theorem Inv.quiet {pins:List (Addr×Obj)} {σ:St} {H:Hp} {s:Shared} (I:Inv X pins σ H s):interactive X.env=false:=by simp [interactive,I.ok.kind]
def Qb (te:TE):TS:=fun D σ H=>te σ H fun _ H1=>D.nx σ H1
theorem Xd (he:PE X e te) (hs:swapsWith e none pos.line X.env=pure false:=by rfl):PS X (.Expr e pos) (Qb te):=by
 intro pins s σ H D I h
 exact wpAny_Expr_any (thn (he pins s σ H _ I h) fun v s1 ⟨x,H1,I1,r1,q1⟩=>⟨σ,H1,I1,q1⟩) I.quiet hs
def tRet (te:TE):TS:=fun D σ H=>te σ H D.rt
theorem Yo (he:PE X e te):PS X (.Return (some e) pos) (tRet te):=by
 intro pins s σ H D I h
 exact wpAny_Return_some (thn (he pins s σ H _ I h) fun v s1 ⟨x,H1,I1,r1,q1⟩=>⟨x,σ,H1,I1,r1,q1⟩)
def tRetN:TS:=fun D _ H=>D.rt .non H
def tIfS (c:TT) (t u:TS):TS:=fun D σ H=>c σ H fun b H1=>if b=true then t D σ H1 else u D σ H1
theorem YK {c:Expr} {a b:List Stmt} {tc:TT} (hc:PT X c tc) (ha:PSs X a t) (hb:PSs X b u):PS X (.If c a b pos) (tIfS tc t u):=by
 intro pins s σ H D I h
 refine wpAny_If (thn (hc pins s σ H _ I h) fun d s1 ⟨H1,I1,q1⟩=>?_)
 cases d with
 | true=>exact ha pins s1 σ H1 D I1 q1
 | false=>exact hb pins s1 σ H1 D I1 q1
def QQ:TS:=fun _ _ _=>False
theorem YZ:PS X st QQ:=fun _ _ _ _ _ _ h=>h.elim
end
abbrev TG:=V→St→Hp→(St→Hp→Prop)→Prop
abbrev TGs:=List V→St→Hp→(St→Hp→Prop)→Prop
def PG (X:Cx) (target:Expr) (t:TG):Prop :=
 ∀ (pins:List (Addr×Obj)) (s:Shared) (σ:St) (H:Hp) (v:V) (u:Value) (Q:St→Hp→Prop),Inv X pins σ H s→Ym v u→t v σ H Q →
  wpAny (model X.prog X.w) X.A (assign target X.env u) (fun _ s'=>∃ σ' H',Inv X pins σ' H' s'∧Q σ' H') X.xe s
abbrev TSet:=V→V→V→Hp→(Hp→Prop)→Prop
abbrev TIp:=V→V→Hp→VK→Prop
section
variable {X:Cx} {pos:Pos}
def Xi (i:Nat):TG:=fun v σ H Q=>Q (σ.set i (some v)) H
theorem WO {i:Nat} {x:Str} (hN:X.N.Nodup) (hi:X.N[i]?=some x) (hx:Loc X.env.scope x) (hf:X.fn x=true∨X.env.scope.names.lookup x=some .local):PG X (.Name x pos) (Xi i):=by
 intro pins s σ H v u Q I r h
 exact wpAny_assign_Name (Xt I hN hi hx r (fun s' I'=>⟨_,H,I',h⟩) hf)
def gNil:TGs:=fun vs σ H Q=>vs=[]∧Q σ H
def gCons (t:TG) (u:TGs):TGs:=fun vs σ H Q=>∃ v r,vs=v::r∧t v σ H fun σ' H'=>u r σ' H' Q
def gTup (K:PySem.W.Frag) (n:Nat) (t:TGs):TG:=fun v σ H Q=>∃ a xs,v = .ref a∧SqT K H a xs∧xs.length=n∧t xs σ H Q
def gSub (to ti:TE) (t:TSet):TG:=fun v σ H Q=>to σ H fun o H1=>ti σ H1 fun i H2=>t o i v H2 fun H3=>Q σ H3
def tAsg (te:TE) (g:TG):TS:=fun D σ H=>te σ H fun x H1=>g x σ H1 D.nx
theorem YB {i:Nat} {x:Str} {e:Expr} {te:TE} {pos':Pos} (hN:X.N.Nodup) (hi:X.N[i]?=some x) (hx:Loc X.env.scope x) (he:PE X e te) (hs:swapsWith e (some (.Name x pos')) pos.line X.env=pure false) (hf:X.fn x=true∨X.env.scope.names.lookup x=some .local) :
  PS X (.Assign [.Name x pos'] e pos) (tAsg te (Xi i)):=by
 intro pins s σ H D I h
 refine wpAny_Assign_Name (thn (he pins s σ H _ I h) fun v s1 ⟨y,H1,I1,r1,q1⟩=>?_) hs
 exact Xt I1 hN hi hx r1 (fun s2 I2=>⟨_,H1,I2,q1⟩) hf
def tAug (i:Nat) (te:TE) (ti:TIp):TS:=fun D σ H=>∃ x,σ[i]?=some (some x)∧te σ H fun y H1=>ti x y H1 fun z H2=>D.nx (σ.set i (some z)) H2
def ipI (f:Int→Int→Int):TIp:=fun x y H Q=>∃ i j,x = .int i∧y = .int j∧Q (.int (f i j)) H
end
section
variable {X:Cx} {pos:Pos}
def QR (c:TT) (tb:TS):TS:=fun D σ H=>∃ W:Nat→St→Hp→Prop,(∃ m,W m σ H)∧∀ m σ H,W m σ H →
 c σ H fun b H1=>if b=true then ∃ N:St→Hp→Prop,(∀ σ' H',N σ' H'→∃ m',m'<m∧W m' σ' H')∧tb { D with nx:=N,ct:=N,bk:=D.nx } σ H1 else D.nx σ H1
theorem V1 {c:Expr} {body:List Stmt} {tc:TT} {tb:TS} (hp:PassesOwn (model X.prog X.w) X.A X.env X.xe) (hc:PT X c tc) (hb:PSs X body tb):PS X (.While c body [] pos) (QR tc tb):=by
 intro pins s σ H D I h
 obtain ⟨W,⟨m0,w0⟩,turn⟩:=h
 refine wpAny_While (codeAny_whileLoop (fun n s'=>∃ σ' H',Inv X pins σ' H' s'∧W n σ' H') ?_ m0 ⟨σ,H,I,w0⟩)
 rintro n s1 ⟨σ1,H1,I1,w1⟩
 refine wpAny_passesOwn hp (thn (hc pins s1 σ1 H1 _ I1 (turn n σ1 H1 w1)) fun b s2 ⟨H2,I2,q2⟩=>?_)
 cases b with
 | true =>
  obtain ⟨N,hN,q2⟩:=q2
  rw [if_pos rfl]
  refine wpAny_passesOwn hp (thn (hb pins s2 σ1 H2 _ I2 q2) fun f s3 q3=>?_)
  cases f with
  | next =>
   obtain ⟨σ3,H3,I3,n3⟩:=q3
   obtain ⟨m',hm,w3⟩:=hN σ3 H3 n3
   exact ⟨m',hm,σ3,H3,I3,w3⟩
  | cont =>
   obtain ⟨σ3,H3,I3,n3⟩:=q3
   obtain ⟨m',hm,w3⟩:=hN σ3 H3 n3
   exact ⟨m',hm,σ3,H3,I3,w3⟩
  | brk=>exact q3
  | ret v=>exact q3
 | false =>
  rw [if_neg Bool.false_ne_true]
  exact wpAny_execs_nil ⟨σ1,H2,I2,q2⟩
end
structure It where
 go:Nat→Hp→Prop
 yld:Nat→Hp→V→Hp→Prop
 stop:Nat→Hp→Prop
def Wh (X:Cx) (pins:List (Addr×Obj)) (H:Hp) (b:Addr):Prop :=
 H b=none∧b≠X.env.locals∧b∉X.fs∧(b∈X.ex∨X.s₀.heap.objs.size≤b)∧(∀ x c,X.env.cells.lookup x=some c→c≠b)∧∀ p∈X.pn++pins,p.1≠b
theorem Inv.fpOk {X:Cx} {pins:List (Addr×Obj)} {σ:St} {H H':Hp} {s:Shared} {b:Addr} (I:Inv X pins σ H s) (hb:s.heap.objs.size≤b) (hn:H' b=none):Wh X pins H' b:=by
 refine ⟨hn,Nat.ne_of_gt (Nat.lt_of_lt_of_le I.lt hb),I.nofs hb,.inr (Nat.le_trans I.sz hb),fun x c e z=>?_,fun p hp z=>?_⟩
 ·obtain ⟨v,q⟩:=I.cell x c e
  exact absurd (Nat.lt_of_lt_of_le q.lt (by rw [z];exact hb)) (Nat.lt_irrefl _)
 ·exact absurd (Nat.lt_of_lt_of_le (Heap.lt_size (I.pin p hp).1) (by rw [z];exact hb)) (Nat.lt_irrefl _)
structure Turn (P:Program) (w:World) (K:PySem.W.Frag) (tg:Expr) (J:It) (fp:List Addr) (it:Addr) (tn:Nat→Heap→Prop):Prop where
 mem:it∈fp
 obj:∀ i h,tn i h→∀ b∈fp,∃ o,h.get? b=some o∧∀ v,o.data ≠ .cell v
 keep:∀ i h h',tn i h→(∀ b∈fp,∀ o,h.get? b=some o→h'.get? b=some o)→tn i h'
 item:∀ (X:Cx),X.prog=P→X.w=w→X.K=K→X.calm=true→∀ (i:Nat) (pins:List (Addr×Obj)) (s:Shared) (σ:St) (H:Hp) (E:Value→Shared→Prop),Inv X pins σ H s→(∀ b∈fp,Wh X pins H b)→tn i s.heap→J.go i H →
  wpAny (model P w) X.A (pyNext (.ref it)) (fun r s1=>∃ u,r=some u ∧
   wpAny (model P w) X.A (letOwnedTupleGo tg (.ref it) u) (fun _ s2=>∃ x H',Inv X pins σ H' s2∧Ym x u∧J.yld i H x H'∧tn (i+1) s2.heap∧∀ b∈fp,H' b=none) E s1) E s
 done:∀ (X:Cx),X.prog=P→X.w=w→X.K=K→X.calm=true→∀ (i:Nat) (pins:List (Addr×Obj)) (s:Shared) (σ:St) (H:Hp) (E:Value→Shared→Prop),Inv X pins σ H s→(∀ b∈fp,Wh X pins H b)→tn i s.heap→J.stop i H →
  wpAny (model P w) X.A (pyNext (.ref it)) (fun r s1=>r=none∧Inv X pins σ H s1) E s
 self:∀ (A:Around) (i:Nat) (s:Shared) (Q:Value→Shared→Prop) (E:Value→Shared→Prop),tn i s.heap→Q (.ref it) s→wpAny (model P w) A (pyIter (.ref it)) Q E s
abbrev TI:=St→Hp→(It→Hp→Prop)→Prop
def PIE (X:Cx) (pins:List (Addr×Obj)) (σ:St) (tg:Expr) (R:It→Hp→Prop) (itv:Value) (s2:Shared):Prop :=
 ∃ (it:Addr) (fp:List Addr) (tn:Nat→Heap→Prop) (J:It) (H':Hp),itv = .ref it∧Inv X pins σ H' s2∧Turn X.prog X.w X.K tg J fp it tn∧tn 0 s2.heap∧(∀ b∈fp,Wh X pins H' b)∧R J H'
def PI (X:Cx) (tg iter:Expr) (wi:TI):Prop :=
 ∀ (pins:List (Addr×Obj)) (s:Shared) (σ:St) (H:Hp) (R:It→Hp→Prop),Inv X pins σ H s→wi σ H R →
  wpAny (model X.prog X.w) X.A (eval iter X.env) (fun v s1=>wpAny (model X.prog X.w) X.A (pyIter v) (PIE X pins σ tg R) X.xe s1) X.xe s
theorem Ya7 {M:Model} {A:Around} {E:Value→Shared→Prop} {s:Shared} {tg:Expr} {it:Addr} {u:Value} {o:Obj} {n:String} {vs:Array Value} {Q:Unit→Shared→Prop} (ho:s.heap.get? it=some o) (hc:o.cls = .type n) (hd:o.data = .fields vs)
  (hn:["enumerate","zip","dict_itemiterator","dict_reverseitemiterator","odict_iterator","itertools.zip_longest","itertools.pairwise"].contains n=false) (hQ:Q () s):wpAny M A (letOwnedTupleGo tg (.ref it) u) Q E s:=by
 unfold letOwnedTupleGo
 cases tg<;>first
  | exact wpAny_pure hQ
  | (cases u<;>first
    | exact wpAny_pure hQ
    | (refine wpAny_bind (wpAny_load ho ?_)
       rw [hc,hd]
       show wpAny M A (if (["enumerate","zip","dict_itemiterator","dict_reverseitemiterator","odict_iterator","itertools.zip_longest","itertools.pairwise"].contains n&&vs[0]?==some (rawInt _))=true then _ else _) Q E s
       rw [if_neg (by intro h;rw [hn,Bool.false_and] at h;cases h)]
       exact wpAny_pure hQ))
def Itl (K:PySem.W.Frag) (a:Addr):It :=
 ⟨fun i H=>∃ xs x,SqL K H a xs∧xs[i]?=some x,fun i H x H'=>H'=H∧∀ xs,SqL K H a xs→xs[i]?=some x,fun i H=>∃ xs,SqL K H a xs∧xs.length≤i⟩
def Itr (lo:Int) (n:Nat):It:=⟨fun i _=>i<n,fun i H x H'=>H'=H∧x = .int (lo+i),fun i _=>n≤i⟩
theorem QS {P:Program} {w:World} {K:PySem.W.Frag} {tg:Expr} (a it:Addr):Turn P w K tg (Itl K a) [it] it (fun i h=>h.IsListIter it a i) where
 mem:=by simp
 obj:=fun i h st b hb=>by
  have e:b=it:=by simpa using hb
  subst e
  obtain ⟨o,e,c,d⟩:=st
  exact ⟨o,e,fun v z=>by rw [d] at z;cases z⟩
 keep:=fun i h h' st k=>st.at fun o e=>k it (by simp) o e
 item:=by
  intro X hP hw hK hc i pins s σ H E I hf st hg
  subst hP hw hK
  obtain ⟨xs,x,hq,hx⟩:=hg
  obtain ⟨its,rv,p,hz⟩:=I.list hq
  obtain ⟨u,hu,ru⟩:=rv.get hx
  obtain ⟨f0,f1,f2,f3,f4,f5⟩:=hf it (by simp)
  refine wpAny_pyNext_list_item st p.isList (x:=u) (by simpa using hu) fun h' st' sb=>?_
  have I1:Inv X pins σ H { s with heap:=h' }:=I.turned (t':=s.toks) (fun b o hb e=>(sb.2 b hb).trans e) f0 f1 f3 f4 f5
  obtain ⟨o,e,c,d⟩:=id st'
  exact ⟨u,rfl,Ya7 (s:={ s with heap:=h' }) e c d (by decide) ⟨x,H,I1,ru,⟨rfl,fun ys hy=>by rw [I.list_inj hy hq];exact hx⟩,st',fun b hb=>(hf b hb).1⟩⟩
 done:=by
  intro X hP hw hK hc i pins s σ H E I hf st hg
  subst hP hw hK
  obtain ⟨xs,hq,hx⟩:=hg
  obtain ⟨its,rv,p,hz⟩:=I.list hq
  obtain ⟨f0,f1,f2,f3,f4,f5⟩:=hf it (by simp)
  have hl:=rv.length
  exact wpAny_pyNext_list_end (I.ok.hd hc) st p.isList (by simp;omega) fun h' eb=>⟨rfl,I.turned (t':=s.toks) (fun b o hb e=>eb b o hb e) f0 f1 f3 f4 f5⟩
 self:=fun _ _ _ _ _ st h=>wpAny_pyIter_listiter st h
theorem Qc {P:Program} {w:World} {K:PySem.W.Frag} {tg:Expr} (it:Addr) (lo:Int) (n:Nat):Turn P w K tg (Itr lo n) [it] it (fun i h=>IsRangeIter h it (lo+(i:Nat)*1) ((n:Int) - (i:Nat)) 1) where
 mem:=by simp
 obj:=fun i h st b hb=>by
  have e:b=it:=by simpa using hb
  subst e
  exact ⟨_,st,fun v z=>by
   have z':Data.fields _=Data.cell v:=z
   cases z'⟩
 keep:=fun i h h' st k=>k it (by simp) _ st
 item:=by
  intro X hP hw hK hc i pins s σ H E I hf st hg
  subst hP hw hK
  obtain ⟨f0,f1,f2,f3,f4,f5⟩:=hf it (by simp)
  have W:=Walks.range (prog:=X.prog) (w:=X.w) (I.ok.hd hc) it lo 1 n
  refine W.item i s _ _ hg st fun v h' tk hv st' kk=>?_
  obtain ⟨t,rfl⟩:=hv
  have I1:Inv X pins σ H { s with heap:=h',toks:=tk }:=I.turned (fun b o hb e=>kk b o (by simpa using hb) e) f0 f1 f3 f4 f5
  refine ⟨_,rfl,Ya7 (s:={ s with heap:=h',toks:=tk }) (n:="range_iterator") st' rfl rfl (by decide) ⟨.int (lo+i),H,I1,⟨t,?_⟩,⟨rfl,rfl⟩,st',fun b hb=>(hf b hb).1⟩⟩
  rw [Int.mul_one]
 done:=by
  intro X hP hw hK hc i pins s σ H E I hf st hg
  subst hP hw hK
  obtain ⟨f0,f1,f2,f3,f4,f5⟩:=hf it (by simp)
  exact wpAny_pyNext_range_end (I.ok.hd hc) st (by have:n≤i:=hg;omega) fun h' eb=>⟨rfl,I.turned (t':=s.toks) (fun b o hb e=>eb b o hb e) f0 f1 f3 f4 f5⟩
 self:=fun _ _ _ _ _ st h=>wpAny_pyIter_rangeiter st h
end L2
namespace L2
open PySem PySem.Spec PyProof.Rows
section
variable {X:Cx} {tg:Expr}
def Qd (K:PySem.W.Frag) (tl:TE):TI:=fun σ H R=>tl σ H fun x H1=>∃ a,x = .ref a∧(∃ xs,SqL K H1 a xs)∧R (Itl K a) H1
theorem Ybx {l:Expr} {tl:TE} (hl:PE X l tl):PI X tg l (Qd X.K tl):=by
 intro pins s σ H R I h
 refine thn (hl pins s σ H _ I h) fun v s1 ⟨x,H1,I1,r1,q1⟩=>?_
 obtain ⟨a,e,⟨xs,hq⟩,q⟩:=q1
 subst e
 cases r1
 obtain ⟨its,rv,p,hz⟩:=I1.list hq
 refine wpAny_pyIter_list p.isList ?_
 refine ⟨s1.heap.objs.size,[s1.heap.objs.size],_,_,H1,rfl,I1.kept (t':=s1.toks) fun b o e=>Heap.get?_push_of_some _ e,QS a _,⟨_,Heap.get?_push_size _ rfl,rfl,rfl⟩,fun b hb=>?_,q⟩
 have e:b=s1.heap.objs.size:=by simpa using hb
 subst e
 exact I1.fpOk (Nat.le_refl _) (I1.hok.fresh (Nat.le_refl _))
theorem Yax {pins:List (Addr×Obj)} {σ:St} {H:Hp} {s:Shared} {R:It→Hp→Prop} {E:Value→Shared→Prop} {lo hi:Int} {t u v:Tok} {tk:Nat} (I:Inv X pins σ H s) (h1 : -(2^62)≤lo) (h2:lo<2^62) (h3 : -(2^62)≤hi) (h4:hi<2^62)
  (q:R (Itr lo (hi - lo).toNat) H):wpAny (model X.prog X.w) X.A (pyIter (.ref s.heap.objs.size)) (PIE X pins σ tg R) E { s with heap:=s.heap.push { cls := .type "range",data := .fields #[.int lo t,.int hi u,.int 1 v] },toks:=tk }:=by
 refine wpAny_pyIter_range (IsRange.new ..) (small_one h1 h2 h3 h4) ?_
 have I1:Inv X pins σ H { s with heap:=s.heap.push { cls := .type "range",data := .fields #[.int lo t,.int hi u,.int 1 v] },toks:=tk }:=I.kept fun b o e=>Heap.get?_push_of_some _ e
 refine ⟨(s.heap.push { cls := .type "range",data := .fields #[.int lo t,.int hi u,.int 1 v] }).objs.size,[(s.heap.push { cls := .type "range",data := .fields #[.int lo t,.int hi u,.int 1 v] }).objs.size],_,_,H,rfl,
  I1.kept (t':=tk) fun b o e=>Heap.get?_push_of_some _ e,Qc _ lo (hi - lo).toNat,?_,fun b hb=>?_,q⟩
 ·have e1:lo+((0:Nat):Int)*1=lo:=by simp
  have e2:(((hi - lo).toNat:Nat):Int) - ((0:Nat):Int)=Builtin.Range.rangeSize lo hi 1:=by rw [rangeSize_one];split<;>omega
  show IsRangeIter _ _ (lo+((0:Nat):Int)*1) ((((hi - lo).toNat:Nat):Int) - ((0:Nat):Int)) 1
  rw [e1,e2]
  exact Heap.get?_push_size _ rfl
 ·have e:b=(s.heap.push { cls := .type "range",data := .fields #[.int lo t,.int hi u,.int 1 v] }).objs.size:=by simpa using hb
  subst e
  exact I1.fpOk (Nat.le_refl _) (I1.hok.fresh (Nat.le_refl _))
def VO (ta:TA):TI:=fun σ H R=>ta σ H fun vs H1=>∃ j:Int,vs=[.int j] ∧ -(2^62)≤j∧j<2^62∧R (Itr 0 j.toNat) H1
theorem Wt {a:Expr} {ta:TA} {p pos:Pos} (hg:Gl X "range") (hm:X.mg "range"=none) (ha:PA X [a] ta) (hs:starEach [a] X.env=[(false,eval a X.env)]):PI X tg (.Call (.Name "range" p) [a] [] pos) (VO ta):=by
 intro pins s σ H R I h
 refine Call_ (VY I hg hm boot_range (PyProof.Rows.callWith_type1 (thn (ha pos pins s σ H _ I h) fun us s1 ⟨vs,H1,I1,r1,q1⟩=>?_) hs rfl))
 obtain ⟨j,e,q1,q2,q⟩:=q1
 subst e
 cases r1 with
 | cons r rr =>
  cases rr
  obtain ⟨t,rfl⟩:=r
  exact call_range_1 (Yax I1 (by omega) (by omega) q1 q2 (by simpa using q))
def tFor (wi:TI) (g:TG) (tb:TS):TS:=fun D σ H=>wi σ H fun J H1=>∃ W:Nat→Nat→St→Hp→Prop,(∃ m,W 0 m σ H1)∧∀ i m σ H,W i m σ H →
 (J.stop i H∧D.nx σ H)∨(J.go i H∧∃ N:St→Hp→Prop,(∀ σ' H',N σ' H'→∃ m',m'<m∧W (i+1) m' σ' H')∧∀ x H',J.yld i H x H'→g x σ H' fun σ2 H2=>tb { D with nx:=N,ct:=N,bk:=D.nx } σ2 H2)
def Wu (fp:List Addr) (h:Heap):List (Addr×Obj):=fp.filterMap fun b=>(h.get? b).map fun o=>(b,o)
theorem XF {fp:List Addr} {h:Heap} {b:Addr} {o:Obj} (hb:b∈fp) (e:h.get? b=some o):(b,o)∈Wu fp h:=List.mem_filterMap.mpr ⟨b,hb,by rw [e];rfl⟩
theorem QT {fp:List Addr} {h:Heap} {p:Addr×Obj} (hp:p∈Wu fp h):p.1∈fp∧h.get? p.1=some p.2:=by
 obtain ⟨b,hb,e⟩:=List.mem_filterMap.mp hp
 cases q:h.get? b with
 | none=>rw [q] at e;cases e
 | some o =>
  rw [q] at e
  have e':(b,o)=p:=Option.some.inj e
  subst e'
  exact ⟨hb,q⟩
theorem Inv.pinned {pins:List (Addr×Obj)} {σ:St} {H:Hp} {s:Shared} {fp:List Addr} (I:Inv X pins σ H s) (hf:∀ b∈fp,Wh X pins H b) (ho:∀ b∈fp,∃ o,s.heap.get? b=some o∧∀ v,o.data ≠ .cell v):Inv X (pins++Wu fp s.heap) σ H s :=
 I.pins_of fun p hp=>(List.mem_append.mp hp).elim (fun z=>I.pin p (List.mem_append_right _ z)) fun z=>by
  obtain ⟨hb,e⟩:=QT z
  obtain ⟨f0,f1,f2,_⟩:=hf p.1 hb
  obtain ⟨o,e',d⟩:=ho p.1 hb
  rw [e] at e';cases e'
  exact ⟨e,f0,f1,f2,d⟩
theorem Inv.unpinned {pins pl:List (Addr×Obj)} {σ:St} {H:Hp} {s:Shared} (I:Inv X (pins++pl) σ H s):Inv X pins σ H s:=I.pins_of fun p hp=>I.pin p (List.mem_append_right _ (List.mem_append_left _ hp))
theorem QU {iter:Expr} {body:List Stmt} {wi:TI} {g:TG} {tb:TS} {pos:Pos} (hp:PassesOwn (model X.prog X.w) X.A X.env X.xe) (hc:X.calm=true) (hi:PI X tg iter wi) (hg:PG X tg g) (hb:PSs X body tb)
  (hs:∀ x,foldedSetIterable iter X.env x=pure x):PS X (.For tg iter body [] pos) (tFor wi g tb):=by
 intro pins s σ H D I h
 refine wpAny_For (thn (hi pins s σ H _ I h) fun v s1 h1=>thn h1 fun itv s2 h2=>?_) hs
 obtain ⟨it,fp,tn,J,H2,e,I2,T,st2,f2,W,⟨m0,w0⟩,turn⟩:=h2
 subst e
 -- what stays true of the iterator's objects through the loop
 have stat:∀ {H':Hp},(∀ b∈fp,H' b=none)→∀ b∈fp,Wh X pins H' b:=fun hn b hb=>⟨hn b hb,(f2 b hb).2⟩
 refine codeAny_forLoop_any (fun n s'=>∃ i σ' H',Inv X pins σ' H' s'∧tn i s'.heap∧(∀ b∈fp,H' b=none)∧W i n σ' H') ?_ m0 ⟨0,σ,H2,I2,st2,fun b hb=>(f2 b hb).1,w0⟩
 rintro n s3 ⟨i,σ3,H3,I3,st3,fr3,w3⟩
 rcases turn i n σ3 H3 w3 with ⟨stop,qn⟩ | ⟨go,N,hN,step⟩
 ·refine wpAny_passesOwn hp (thn (T.done X rfl rfl rfl hc i pins s3 σ3 H3 X.xe I3 (stat fr3) st3 stop) fun r s4 ⟨hr,I4⟩=>?_)
  subst hr
  exact wpAny_execs_nil ⟨σ3,H3,I4,qn⟩
 ·refine wpAny_passesOwn hp (thn (T.item X rfl rfl rfl hc i pins s3 σ3 H3 X.xe I3 (stat fr3) st3 go) fun r s4 ⟨u,hr,h4⟩=>?_)
  subst hr
  refine wpAny_passesOwn hp (thn h4 fun _ s5 ⟨x,H5,I5,r5,y5,st5,fr5⟩=>?_)
  have I5':=I5.pinned (stat fr5) (T.obj _ _ st5)
  refine wpAny_passesOwn hp (thn (hg _ s5 σ3 H5 x u _ I5' r5 (step x H5 y5)) fun _ s6 ⟨σ6,H6,I6,q6⟩=>?_)
  refine wpAny_passesOwn hp (thn (hb _ s6 σ6 H6 _ I6 q6) fun f s7 q7=>?_)
  have again:∀ {σ7:St} {H7:Hp},Inv X (pins++Wu fp s5.heap) σ7 H7 s7→N σ7 H7→∃ m,m<n∧∃ i σ' H',Inv X pins σ' H' s7∧tn i s7.heap∧(∀ b∈fp,H' b=none)∧W i m σ' H':=fun {σ7 H7} I7 n7=>by
   obtain ⟨m',hm,w7⟩:=hN σ7 H7 n7
   refine ⟨m',hm,i+1,σ7,H7,I7.unpinned,T.keep _ _ _ st5 fun b hb o e=>(I7.pin (b,o) (List.mem_append_right _ (List.mem_append_right _ (XF hb e)))).1,fun b hb=>?_,w7⟩
   obtain ⟨o,e,d⟩:=T.obj _ _ st5 b hb
   exact (I7.pin (b,o) (List.mem_append_right _ (List.mem_append_right _ (XF hb e)))).2.1
  cases f with
  | next=>obtain ⟨σ7,H7,I7,n7⟩:=q7;exact again I7 n7
  | cont=>obtain ⟨σ7,H7,I7,n7⟩:=q7;exact again I7 n7
  | brk=>obtain ⟨σ7,H7,I7,q7⟩:=q7;exact ⟨σ7,H7,I7.unpinned,q7⟩
  | ret v=>obtain ⟨x7,σ7,H7,I7,r7,q7⟩:=q7;exact ⟨x7,σ7,H7,I7.unpinned,r7,q7⟩
end
theorem Vs {lo:Int} {n:Nat} {g:TG} {tb:TS} {D:Ends} {σ:St} {H:Hp} (Pv:Nat→St→Hp→Prop) (h0:Pv 0 σ H)
  (hs:∀ i σ H,i<n→Pv i σ H→g (.int (lo+i)) σ H fun σ2 H2=>tb { D with nx:=Pv (i+1),ct:=Pv (i+1),bk:=D.nx } σ2 H2) (hd:∀ σ H,Pv n σ H→D.nx σ H) :
  ∃ W:Nat→Nat→St→Hp→Prop,(∃ m,W 0 m σ H)∧∀ i m σ H,W i m σ H →
   ((Itr lo n).stop i H∧D.nx σ H)∨((Itr lo n).go i H∧∃ N:St→Hp→Prop,(∀ σ' H',N σ' H'→∃ m',m'<m∧W (i+1) m' σ' H')∧∀ x H',(Itr lo n).yld i H x H'→g x σ H' fun σ2 H2=>tb { D with nx:=N,ct:=N,bk:=D.nx } σ2 H2):=by
 refine ⟨fun i m σ H=>m=n - i∧i≤n∧Pv i σ H,⟨n,by simp,Nat.zero_le _,h0⟩,?_⟩
 rintro i m σ H ⟨rfl,hi,p⟩
 by_cases hlt:i<n
 ·refine .inr ⟨hlt,Pv (i+1),fun σ' H' p'=>⟨n - (i+1),by omega,rfl,hlt,p'⟩,fun x H' y=>?_⟩
  obtain ⟨e,y⟩:=y
  subst e y
  exact hs i σ _ hlt p
 ·have e:i=n:=by omega
  subst e
  exact .inl ⟨Nat.le_refl _,hd σ H p⟩
end L2
namespace L2
open PySem PySem.Spec PyProof.Rows
abbrev R2:=V→V→Hp→VK→Prop
def OpR (X:Cx) (f:Value→Value→Sem Value) (r:R2):Prop :=
 ∀ (pins:List (Addr×Obj)) (s:Shared) (σ:St) (H:Hp) (x y:V) (v u:Value) (Q:VK),Inv X pins σ H s→Ym x v→Ym y u→r x y H Q →
  wpAny (model X.prog X.w) X.A (f v u) (EP X pins σ Q) X.xe s
def UnR (X:Cx) (f:Value→Sem Value) (r:V→Hp→VK→Prop):Prop :=
 ∀ (pins:List (Addr×Obj)) (s:Shared) (σ:St) (H:Hp) (x:V) (v:Value) (Q:VK),Inv X pins σ H s→Ym x v→r x H Q →
  wpAny (model X.prog X.w) X.A (f v) (EP X pins σ Q) X.xe s
def X0 (X:Cx) (f:Value) (r:List V→Hp→VK→Prop):Prop :=
 ∀ (pins:List (Addr×Obj)) (s:Shared) (σ:St) (H:Hp) (xs:List V) (us:List Value) (Q:VK),Inv X pins σ H s→Yl xs us→r xs H Q →
  wpAny (model X.prog X.w) X.A (call f us) (EP X pins σ Q) X.xe s
def tOp (r:R2) (ta tb:TE):TE:=fun σ H Q=>ta σ H fun x H1=>tb σ H1 fun y H2=>r x y H2 Q
def tUn (r:V→Hp→VK→Prop) (ta:TE):TE:=fun σ H Q=>ta σ H fun x H1=>r x H1 Q
def rI (C:Int→Int→Prop) (g:Int→Int→V):R2:=fun x y H Q=>∃ i j,x = .int i∧y = .int j∧C i j∧Q (g i j) H
def rI0 (g:Int→Int→V):R2:=fun x y H Q=>∃ i j,x = .int i∧y = .int j∧Q (g i j) H
def rU (g:Int→V):V→Hp→VK→Prop:=fun x H Q=>∃ i,x = .int i∧Q (g i) H
section
variable {X:Cx} {a b c:Expr} {ta tb tc:TE} {pos:Pos}
theorem binT (ha:PE X a ta) (hb:PE X b tb) {pins:List (Addr×Obj)} {s:Shared} {σ:St} {H:Hp} {R:V→V→Hp→Prop} (I:Inv X pins σ H s)
  (h:ta σ H fun x H1=>tb σ H1 fun y H2=>R x y H2) {Q:Value→Shared→Prop} {f:Value→Value→Sem Value}
  (hf:∀ v u s2 x y H2,Inv X pins σ H2 s2→Ym x v→Ym y u→R x y H2→wpAny (model X.prog X.w) X.A (f v u) Q X.xe s2) :
  wpAny (model X.prog X.w) X.A (eval a X.env) (fun v s₁=>wpAny (model X.prog X.w) X.A (eval b X.env) (fun u s₂=>wpAny (model X.prog X.w) X.A (f v u) Q X.xe s₂) X.xe s₁) X.xe s:=by
 refine thn (ha pins s σ H _ I h) fun v s1 ⟨x,H1,I1,r1,q1⟩=>?_
 refine thn (hb pins s1 σ H1 _ I1 q1) fun u s2 ⟨y,H2,I2,r2,q2⟩=>?_
 exact hf v u s2 x y H2 I2 r1 r2 q2
theorem Yq {op:Operator} {r:R2} (ho:OpR X (binaryOp op) r) (ha:PE X a ta) (hb:PE X b tb):PE X (.BinOp a op b pos) (tOp r ta tb):=by
 intro pins s σ H Q I h
 exact wpAny_BinOp (binT ha hb I h fun v u s2 x y H2 I2 rx ry q=>ho pins s2 σ H2 x y v u Q I2 rx ry q)
theorem pe_un {op:UnaryOp} {r:V→Hp→VK→Prop} (ho:UnR X (unaryOp op) r) (ha:PE X a ta):PE X (.UnaryOp op a pos) (tUn r ta):=by
 intro pins s σ H Q I h
 exact UnaryOp_ (thn (ha pins s σ H _ I h) fun v s1 ⟨x,H1,I1,r1,q1⟩=>ho pins s1 σ H1 x v Q I1 r1 q1)
theorem opI {f:Value→Value→Sem Value} {C:Int→Int→Prop} {g:Int→Int→Int}
  (rule:∀ (i j:Int) (t u:Tok) (s:Shared) (Q:Value→Shared→Prop) (E:Value→Shared→Prop),C i j→Q (.int (g i j) s.toks) { s with toks:=s.toks+1 }→wpAny (model X.prog X.w) X.A (f (.int i t) (.int j u)) Q E s) :
  OpR X f (rI C fun i j => .int (g i j)):=by
 intro pins s σ H x y v u Q I rx ry h
 obtain ⟨i,j,rfl,rfl,hc,q⟩:=h
 obtain ⟨t,rfl⟩:=rx
 obtain ⟨t',rfl⟩:=ry
 exact rule i j t t' s _ _ hc ⟨.int (g i j),H,I.tok _,⟨_,rfl⟩,q⟩
theorem opI0 {f:Value→Value→Sem Value} {g:Int→Int→Int}
  (rule:∀ (i j:Int) (t u:Tok) (s:Shared) (Q:Value→Shared→Prop) (E:Value→Shared→Prop),Q (.int (g i j) s.toks) { s with toks:=s.toks+1 }→wpAny (model X.prog X.w) X.A (f (.int i t) (.int j u)) Q E s) :
  OpR X f (rI0 fun i j => .int (g i j)):=by
 intro pins s σ H x y v u Q I rx ry h
 obtain ⟨i,j,rfl,rfl,q⟩:=h
 obtain ⟨t,rfl⟩:=rx
 obtain ⟨t',rfl⟩:=ry
 exact rule i j t t' s _ _ ⟨.int (g i j),H,I.tok _,⟨_,rfl⟩,q⟩
theorem opB0 {f:Value→Value→Sem Value} {g:Int→Int→Bool}
  (rule:∀ (i j:Int) (t u:Tok) (s:Shared) (Q:Value→Shared→Prop) (E:Value→Shared→Prop),Q (.bool (g i j)) s→wpAny (model X.prog X.w) X.A (f (.int i t) (.int j u)) Q E s) :
  OpR X f (rI0 fun i j => .bl (g i j)):=by
 intro pins s σ H x y v u Q I rx ry h
 obtain ⟨i,j,rfl,rfl,q⟩:=h
 obtain ⟨t,rfl⟩:=rx
 obtain ⟨t',rfl⟩:=ry
 exact rule i j t t' s _ _ ⟨.bl (g i j),H,I,rfl,q⟩
def CPow (i j:Int):Prop:=0≤j∧j≤1000000∧i.natAbs<2^64
def CMul (i j:Int):Prop:=(-(2^64)<i∧i<2^64)∨(-(2^64)<j∧j<2^64)
theorem CMul.ok {i j:Int} (h:CMul i j):IntMulOk i j:=by
 rcases h with ⟨h1,h2⟩ | ⟨h1,h2⟩
 ·exact .of_left (intBits_le_64 h1 h2)
 ·exact .of_right (intBits_le_64 h1 h2)
theorem Qe (k:Nat):(0:Int)≤2^k:=by
 rw [two_pow_cast]
 exact Int.natCast_nonneg _
theorem XM:OpR X (binaryOp .Add) (rI0 fun i j => .int (i+j)):=opI0 fun _ _ _ _ _ _ _ q=>add_int q
theorem XN:OpR X (binaryOp .Sub) (rI0 fun i j => .int (i - j)):=opI0 fun _ _ _ _ _ _ _ q=>sub_int q
theorem Xa:OpR X (binaryOp .Mod) (rI (fun _ j=>0<j) fun i j => .int (i%j)):=opI fun i j _ _ _ _ _ hc q=>by
 have h1:(0:Int)<j:=hc
 exact mod_int' (by omega) (by rw [Int.fmod_eq_emod_of_nonneg i (by omega)];exact q)
theorem V2:OpR X (binaryOp .Pow) (rI CPow fun i j => .int (i^j.toNat)):=opI fun _ _ _ _ _ _ _ hc q=>pow_int_small hc.1 hc.2.1 hc.2.2 q
theorem QV:OpR X (binaryOp .LShift) (rI CPow fun i j => .int (i*2^j.toNat)):=opI fun _ _ _ _ _ _ _ hc q=>lshift_int_small hc.1 hc.2.1 hc.2.2 q
theorem Ycg:OpR X (binaryOp .RShift) (rI (fun _ j=>0≤j) fun i j => .int (i / 2^j.toNat)):=opI fun i j _ _ _ _ _ hc q =>
 rshift_int hc (by rw [Int.fdiv_eq_ediv_of_nonneg i (Qe _)];exact q)
theorem unI {f:Value→Sem Value} {g:Int→Int}
  (rule:∀ (i:Int) (t:Tok) (s:Shared) (Q:Value→Shared→Prop) (E:Value→Shared→Prop),Q (.int (g i) s.toks) { s with toks:=s.toks+1 }→wpAny (model X.prog X.w) X.A (f (.int i t)) Q E s) :
  UnR X f (rU fun i => .int (g i)):=by
 intro pins s σ H x v Q I rx h
 obtain ⟨i,rfl,q⟩:=h
 obtain ⟨t,rfl⟩:=rx
 exact rule i t s _ _ ⟨.int (g i),H,I.tok _,⟨_,rfl⟩,q⟩
theorem Ych:UnR X (unaryOp .USub) (rU fun i => .int (-i)):=unI fun _ _ _ _ _ q=>neg_int q
end
def Qf:V→V→Bool
 | .non,.non=>true | .non,.int _=>true | .int _,.non=>true | .non,.bl _=>true | .bl _,.non=>true | .non,.str _=>true | .str _,.non=>true
 | .int _,.int _=>true | .bl _,.bl _=>true | .str _,.str _=>true | .byt _,.byt _=>true
 | .int _,.str _=>true | .str _,.int _=>true | .bl _,.str _=>true | .str _,.bl _=>true
 | _,_=>false
def rEq:R2:=fun x y H Q=>Qf x y=true∧Q (.bl (decide (x=y))) H
def rNe:R2:=fun x y H Q=>Qf x y=true∧Q (.bl (!decide (x=y))) H
theorem Yby {i j:Int}:decide (V.int i=V.int j)=(i==j):=by
 rw [Bool.eq_iff_iff]
 simp
theorem Yci {i j:Bool}:decide (V.bl i=V.bl j)=(i==j):=by
 rw [Bool.eq_iff_iff]
 simp
theorem Ybz {i j:Str}:decide (V.str i=V.str j)=(i==j):=by
 rw [Bool.eq_iff_iff]
 simp
theorem YbA {i j:Array UInt8}:decide (V.byt i=V.byt j)=(i.toList==j.toList):=by
 rw [Bool.eq_iff_iff]
 cases i
 cases j
 simp
section
variable {X:Cx} {a b c:Expr} {ta tb tc:TE} {pos:Pos}
theorem YM {pins:List (Addr×Obj)} {σ:St} {H:Hp} {s:Shared} {Q:VK} {k k':Bool} (I:Inv X pins σ H s) (q:Q (.bl k) H) (e:k=k'):EP X pins σ Q (.bool k') s:=by
 subst e
 exact ⟨.bl k,H,I,rfl,q⟩
theorem Wi:OpR X (compareOp .Eq) rEq:=by
 intro pins s σ H x y v u Q I rx ry h
 obtain ⟨hs,q⟩:=h
 cases x with
 | non =>
  cases rx
  cases y with
  | non=>cases ry;exact PySem.EqNone.eq_none_none (YM I q (by simp))
  | bl j=>cases ry;exact PySem.EqNone.eq_none_bool (YM I q (by simp))
  | int j=>obtain ⟨t',rfl⟩:=ry;exact PySem.EqNone.eq_none_int (YM I q (by simp))
  | str j=>obtain ⟨t',rfl⟩:=ry;exact PySem.EqNone.eq_none_str (YM I q (by simp))
  | _=>exact absurd (show false=true from hs) Bool.false_ne_true
 | bl i =>
  cases rx
  cases y with
  | non=>cases ry;exact PySem.EqNone.eq_bool_none (YM I q (by simp))
  | bl j=>cases ry;exact eq_bool (YM I q Yci)
  | str j=>obtain ⟨t',rfl⟩:=ry;exact PySem.EqMixed.eq_bool_str (YM I q (by simp))
  | _=>exact absurd (show false=true from hs) Bool.false_ne_true
 | int i =>
  obtain ⟨t,rfl⟩:=rx
  cases y with
  | non=>cases ry;exact PySem.EqNone.eq_int_none (YM I q (by simp))
  | int j=>obtain ⟨t',rfl⟩:=ry;exact eq_int (YM I q Yby)
  | str j=>obtain ⟨t',rfl⟩:=ry;exact PySem.EqMixed.eq_int_str (YM I q (by simp))
  | _=>exact absurd (show false=true from hs) Bool.false_ne_true
 | str i =>
  obtain ⟨t,rfl⟩:=rx
  cases y with
  | non=>cases ry;exact PySem.EqNone.eq_str_none (YM I q (by simp))
  | bl j=>cases ry;exact PySem.EqMixed.eq_str_bool (YM I q (by simp))
  | int j=>obtain ⟨t',rfl⟩:=ry;exact PySem.EqMixed.eq_str_int (YM I q (by simp))
  | str j=>obtain ⟨t',rfl⟩:=ry;exact eq_str (YM I q Ybz)
  | _=>exact absurd (show false=true from hs) Bool.false_ne_true
 | byt i =>
  obtain ⟨t,rfl⟩:=rx
  cases y with
  | byt j=>obtain ⟨t',rfl⟩:=ry;exact PySem.W.eq_bytes (YM I q YbA)
  | _=>exact absurd (show false=true from hs) Bool.false_ne_true
 | _=>cases y<;>exact absurd (show false=true from hs) Bool.false_ne_true
theorem op_lt:OpR X (compareOp .Lt) (rI0 fun i j => .bl (decide (i<j))):=opB0 fun _ _ _ _ _ _ _ q=>lt_int q
theorem Qg:OpR X (compareOp .LtE) (rI0 fun i j => .bl (decide (i≤j))):=opB0 fun _ _ _ _ _ _ _ q=>le_int q
theorem Ya8:OpR X (compareOp .Gt) (rI0 fun i j => .bl (decide (j<i))):=opB0 fun _ _ _ _ _ _ _ q=>gt_int q
theorem Wv:OpR X (compareOp .Is) (fun x y H Q=>y = .non∧Q (.bl (decide (x = .non))) H):=by
 intro pins s σ H x y v u Q I rx ry h
 obtain ⟨rfl,q⟩:=h
 cases ry
 refine is_none_gen (YM I q ?_)
 cases x<;>first
  | (cases rx;rfl)
  | (obtain ⟨t,rfl⟩:=rx;rfl)
theorem YC (b:Expr) {op:CmpOp} (h:op ≠ .In:=by decide) (h2:op ≠ .NotIn:=by decide):behindInMarks op b=false:=by
 have e1:(op==CmpOp.In)=false:=by cases op<;>first | rfl | exact absurd rfl h
 have e2:(op==CmpOp.NotIn)=false:=by cases op<;>first | rfl | exact absurd rfl h2
 cases b<;>simp [behindInMarks,e1,e2]
theorem Vh {op:CmpOp} {r:R2} (ho:OpR X (compareOp op) r) (ha:PE X a ta) (hb:PE X b tb) (hm:behindInMarks op b=false):PE X (.Compare a [op] [b] pos) (tOp r ta tb):=by
 intro pins s σ H Q I h
 exact wpAny_Compare1 (binT ha hb I h fun v u s2 x y H2 I2 rx ry q=>ho pins s2 σ H2 x y v u Q I2 rx ry q) hm
def Ya9 (t:TE):TT:=fun σ H Q=>t σ H fun x H'=>∃ k,x = .bl k∧Q k H'
theorem Yz {op:CmpOp} {r:R2} (ho:OpR X (compareOp op) r) (ha:PE X a ta) (hb:PE X b tb) (hm:behindInMarks op b=false):PT X (.Compare a [op] [b] pos) (Ya9 (tOp r ta tb)):=by
 intro pins s σ H Q I h
 refine wpAny_isTrue_Compare1 (thn (ha pins s σ H _ I h) fun v s1 ⟨x,H1,I1,r1,q1⟩=>thn (hb pins s1 σ H1 _ I1 q1) fun u s2 ⟨y,H2,I2,r2,q2⟩ =>
  thn (ho pins s2 σ H2 x y v u _ I2 r1 r2 q2) fun c s3 ⟨z,H3,I3,r3,k,e,q3⟩=>?_) hm
 subst e
 cases r3
 exact wpAny_truthy_bool ⟨H3,I3,q3⟩
def Ycj (r r':R2) (ta tb tc:TE):TE:=fun σ H Q=>ta σ H fun x H1=>tb σ H1 fun y H2=>r x y H2 fun z H3=>∃ k,z = .bl k ∧
 (if k=true then tc σ H3 fun w' H4=>r' y w' H4 Q else Q (.bl false) H3)
theorem Ww:(sizeLine:Nat)<2^63:=by rw [sizeLine_eq];decide
theorem Yba {x:V} {us:List Value} (r:Yl [x] us):∃ u,us=[u]∧Ym x u:=by
 cases r with
 | cons r1 r2=>cases r2;exact ⟨_,rfl,r1⟩
theorem W2 {x y:V} {us:List Value} (r:Yl [x,y] us):∃ u w',us=[u,w']∧Ym x u∧Ym y w':=by
 cases r with
 | cons r1 r2 =>
  cases r2 with
  | cons r3 r4=>cases r4;exact ⟨_,_,rfl,r1,r3⟩
theorem Wx (hc:X.calm=true):X0 X (.builtin "max") (fun xs H Q=>∃ i j,xs=[.int i,.int j]∧Q (.int (if j>i then j else i)) H):=by
 intro pins s σ H xs us Q I r h
 obtain ⟨i,j,rfl,q⟩:=h
 obtain ⟨u,w',rfl,⟨t,rfl⟩,⟨t',rfl⟩⟩:=W2 r
 refine max_two_ints (I.ok.hd hc) fun h' tk k=>⟨_,H,I.kept k,?_,q⟩
 by_cases hj:j>i
 ·rw [if_pos hj,if_pos hj];exact ⟨_,rfl⟩
 ·rw [if_neg hj,if_neg hj];exact ⟨_,rfl⟩
theorem Wy (hc:X.calm=true):X0 X (.builtin "min") (fun xs H Q=>∃ i j,xs=[.int i,.int j]∧Q (.int (if j<i then j else i)) H):=by
 intro pins s σ H xs us Q I r h
 obtain ⟨i,j,rfl,q⟩:=h
 obtain ⟨u,w',rfl,⟨t,rfl⟩,⟨t',rfl⟩⟩:=W2 r
 refine min_two_ints (I.ok.hd hc) fun h' tk k=>⟨_,H,I.kept k,?_,q⟩
 by_cases hj:j<i
 ·rw [if_pos hj,if_pos hj];exact ⟨_,rfl⟩
 ·rw [if_neg hj,if_neg hj];exact ⟨_,rfl⟩
end
end L2
namespace L2
open PySem PySem.Spec PyProof.Rows
structure ObjM (h:Heap) (x dx C:Addr) (mA:Str→Option Value):Prop where
 obj:h.get? x=some (PySem.W.instObj C dx)
 ns:h.Ns1 dx mA
 ne:dx≠x
theorem QW {h:Heap} {dx:Addr} {mA:Str→Option Value} (n:h.Ns1 dx mA):∃ od,h.get? dx=some od∧∀ name,PySem.W.lookIn name od=some (mA name):=by
 obtain ⟨o,es,ep,ho,hd,hk,_,hm⟩:=n
 refine ⟨o,ho,fun name=>?_⟩
 have e:=hm name
 unfold nsFind findBy at e
 rw [← Array.find?_toList] at e
 unfold PySem.W.lookIn
 rw [hd]
 dsimp only
 split
 ·rename_i y q
  rw [q] at e
  exact congrArg some e
 ·rename_i q
  rw [q] at e
  have a:es.toList.any (·.refKey)=false:=by
   rw [List.any_eq_false]
   intro y hy
   obtain ⟨z,t,hkey⟩:=hk y (Array.mem_toList_iff.mp hy)
   simp [DictEntry.refKey,hkey]
  have a':¬ es.toList.any (·.refKey)=true:=by rw [a];exact Bool.false_ne_true
  rw [if_neg a']
  exact congrArg some e
theorem ObjM.look {h:Heap} {x dx C:Addr} {mA:Str→Option Value} (I:ObjM h x dx C mA):∃ od,PySem.W.InstAt h x (PySem.W.instObj C dx) C (some od)∧∀ name,PySem.W.lookIn name od=some (mA name) :=
 let ⟨od,ho,hl⟩:=QW I.ns
 ⟨od,⟨I.obj,rfl,rfl,ho⟩,hl⟩
section
variable {prog:Program} {w:World} {A:Around} {E:Value→Shared→Prop} {s:Shared} {K:PySem.W.Frag} {x dx C f:Addr} {mA:Str→Option Value} {name:Str} {v:Value}
theorem YbB {expr:Bool} {Q:Value→Shared→Prop} (X:K.In s.heap) (I:ObjM s.heap x dx C mA) (hg:PySem.W.plainGet K C name=true) (hh:PySem.W.hasDictIn K C=true)
  (ha:PySem.W.findIn K (.ref C) name=some none) (hv:mA name=some v) (hv':PySem.W.handedIn v=true) (h:Q v { s with toks:=s.toks+1 }) :
  wpAny (model prog w) A (getAttr (.ref x) name expr) Q E s:=by
 obtain ⟨od,J,hl⟩:=I.look
 exact PySem.W.get_value X J (PySem.W.plainGet_of hg).1 (PySem.W.findObj_own hh ha rfl (by rw [hl,hv])) hv' h
theorem Yay {pl:Sem Bool} {Q:Value×List Value→Shared→Prop} (X:K.In s.heap) (I:ObjM s.heap x dx C mA) (hg:PySem.W.plainGet K C name=true)
  (hf:PySem.W.findIn K (.ref C) name=some (some (.ref f))) (ht:PySem.W.isFn K (.ref f)=true) (hv:mA name=none) (h:Q (.ref f,[.ref x]) s) :
  wpAny (model prog w) A (getMethod (.ref x) name pl) Q E s:=by
 obtain ⟨od,J,hl⟩:=I.look
 exact PySem.W.method_fn X J (PySem.W.plainGet_of hg).1 (PySem.W.plainGet_of hg).2 hf (beq_iff_eq.mp ht) (by show (PySem.W.lookIn name od).map (·.isSome)=some false;rw [hl,hv];rfl) h
theorem YbC {ns:List Str} {Q:Unit→Shared→Prop} (X:K.In s.heap) (I:ObjM s.heap x dx C mA)
  (hs:PySem.W.findIn K (.ref C) "__setattr__"=some (some (.builtin "object.__setattr__"))) (hp:PySem.W.plainOver K C=true) (ht:PySem.W.takerIn K C name=some none) (hh:PySem.W.hasDictIn K C=true)
  (hw:PySem.Within mA ns) (hsz:ns.length≤sizeLine)
  (h:∀ h',ObjM h' x dx C (fun y=>if y=name then some v else mA y)→Heap.SameBut dx s.heap h'→Q () { s with heap:=h',toks:=s.toks+2 }) :
  wpAny (model prog w) A (setAttr (.ref x) name v) Q E s:=by
 obtain ⟨od,J,hl⟩:=I.look
 refine PySem.W.set_plain X J hs (PySem.W.osa_open (s:={ s with toks:=s.toks+1 }) (r:=none) X J hp ht fun b=>?_)
 obtain ⟨cd,hc,hd'⟩:=PySem.W.any_some hh
 have hx:s.heap.get? x=some ⟨.ref C,some dx,.plain,#[]⟩:=I.obj
 refine wpAny_bind (wpAny_pure (wpAny_bind (wpAny_bind (wpAny_loadPart hx (wpAny_bind (PySem.W.Looks.here (s:={ s with toks:=s.toks+1 }) (PySem.W.looks_clsIn X hc) ?_))))))
 rw [hd']
 refine wpAny_pure (a:=some dx) (wpAny_bind (wpAny_pure (wpAny_bind ?_)))
 refine wpAny_nsSet1 (s:={ s with toks:=s.toks+1 }) I.ns fun h' hn2 hs2=>?_
 obtain ⟨oD,esD,epD,hoD,hdD,hcD⟩:=hn2.count (PySem.Within.cons name v hw)
 refine wpAny_bind (wpAny_lookBehind hoD (by rw [hdD];exact pastItsLine_dict (Nat.le_trans hcD (by rw [List.length_cons];omega))) ?_)
 exact wpAny_pure (h _ ⟨(hs2.2 _ (Ne.symm I.ne)).trans I.obj,hn2,I.ne⟩ hs2)
theorem Yaz {R:Result→Shared→Prop} {vs:List Value} {kw:List (Str×Value)} (X:K.In s.heap) (hm:PySem.W.makesIn K C=true)
  (hi:PySem.W.findIn K (.ref C) "__init__"=some (some (.ref f))) (hf:PySem.W.typeIn K (.ref f)=some (.type "function"))
  (h:codeAny (model prog w) (A.under (.builtin "type.__call__" ⟨.ref C::vs,kw⟩)) (.call (.ref f) ⟨.ref (s.heap.objs.size+1)::vs,kw⟩) (PySem.W.InitBack (s.heap.objs.size+1) R)
   { s with heap:=(s.heap.push PySem.W.emptyDict).push (PySem.W.instObj C s.heap.objs.size) }) :
  codeAny (model prog w) A (.call (.ref C) ⟨vs,kw⟩) R s:=by
 obtain ⟨hh,g,d,t,os⟩:=s
 exact PySem.W.make_core (PySem.W.makes_of X hm) (PySem.W.looks_findIn X hi) (fun self=>PySem.W.bind_fn X self hf) (.inl rfl) h
end
def YF (f:Str) (v:V):List (Str×V)→List (Str×V)
 | []=>[(f,v)]
 | (g,x)::r=>if g=f then (g,v)::r else (g,x)::YF f v r
theorem X3 (f g:Str) (v:V):∀ fs:List (Str×V),(YF f v fs).lookup g=if g=f then some v else fs.lookup g
 | []=>by
  show List.lookup g [(f,v)]=_
  by_cases h:g=f
  ·have hb:(g==f)=true:=beq_iff_eq.mpr h
   simp only [List.lookup,hb,if_pos h]
  ·have hb:(g==f)=false:=beq_eq_false_iff_ne.mpr h
   simp only [List.lookup,hb,if_neg h]
 | (k,x)::r=>by
  have ih:=X3 f g v r
  rw [show YF f v ((k,x)::r)=(if k=f then (k,v)::r else (k,x)::YF f v r) from rfl]
  by_cases hk:k=f
  ·rw [if_pos hk]
   by_cases h:g=k
   ·have hb:(g==k)=true:=beq_iff_eq.mpr h
    simp only [List.lookup,hb,if_pos (h.trans hk)]
   ·have hb:(g==k)=false:=beq_eq_false_iff_ne.mpr h
    simp only [List.lookup,hb,if_neg (fun e:g=f=>h (e.trans hk.symm))]
  ·rw [if_neg hk]
   by_cases h:g=k
   ·have hb:(g==k)=true:=beq_iff_eq.mpr h
    simp only [List.lookup,hb,if_neg (fun e:g=f=>hk (h.symm.trans e))]
   ·have hb:(g==k)=false:=beq_eq_false_iff_ne.mpr h
    simp only [List.lookup,hb]
    exact ih
theorem XA (f:Str) (v:V):∀ fs:List (Str×V),f∈(YF f v fs).map (·.1)∧∀ g,g∈fs.map (·.1)→g∈(YF f v fs).map (·.1)
 | []=>⟨by simp [YF],fun g h=>by simp at h⟩
 | (k,x)::r=>by
  obtain ⟨i1,i2⟩:=XA f v r
  rw [show YF f v ((k,x)::r)=(if k=f then (k,v)::r else (k,x)::YF f v r) from rfl]
  by_cases hk:k=f
  ·rw [if_pos hk]
   subst hk
   exact ⟨by simp,fun g h=>by simpa using h⟩
  ·rw [if_neg hk]
   refine ⟨?_,fun g h=>?_⟩
   ·rw [List.map_cons]
    exact List.mem_cons_of_mem _ i1
   ·rw [List.map_cons] at h ⊢
    rcases List.mem_cons.mp h with e | e
    ·exact List.mem_cons.mpr (.inl e)
    ·exact List.mem_cons_of_mem _ (i2 g e)
theorem X4 (f:Str) (v:V):∀ fs:List (Str×V),(YF f v fs).length≤fs.length+1
 | []=>by simp [YF]
 | (k,x)::r=>by
  have ih:=X4 f v r
  rw [show YF f v ((k,x)::r)=(if k=f then (k,v)::r else (k,x)::YF f v r) from rfl]
  by_cases hk:k=f
  ·rw [if_pos hk,List.length_cons,List.length_cons];omega
  ·rw [if_neg hk,List.length_cons,List.length_cons];omega
theorem YX.some_of {v:V} {o:Option Value} (r:YX (some v) o):∃ u,o=some u∧Ym v u:=by
 cases o with
 | none=>exact (show False from r).elim
 | some u=>exact ⟨u,rfl,r⟩
theorem YX.none_of {o:Option Value} (r:YX none o):o=none:=by
 cases o with
 | none=>rfl
 | some u=>exact (show False from r).elim
theorem Vt {v:V} {u:Value} (r:Ym v u):PySem.W.handedIn u=true:=by
 cases v with
 | non=>cases (show u=Value.none from r);rfl
 | bl b=>cases (show u=Value.bool b from r);rfl
 | int i=>obtain ⟨t,e⟩:=(show ∃ t,u=Value.int i t from r);cases e;rfl
 | str x=>obtain ⟨t,e⟩:=(show ∃ t,u=Value.str x t from r);cases e;rfl
 | byt b=>obtain ⟨t,e⟩:=(show ∃ t,u=Value.bytes b t from r);cases e;rfl
 | flt b=>obtain ⟨t,e⟩:=(show ∃ t,u=Value.float b t from r);cases e;rfl
 | ref a=>cases (show u=Value.ref a from r);rfl
 | ty n=>cases (show u=Value.type n from r);rfl
section
variable {P:Program} {w:World} {H H':Hp} {h h':Heap} {a C dx:Addr} {fs fs':List (Str×V)}
theorem WP (hok:HOk P w H h) (e:H a=some (.ins C dx fs)):∃ mA,ObjM h a dx C mA∧(∀ f,YX (fs.lookup f) (mA f))∧PySem.Within mA (fs.map (·.1))∧fs.length≤1000∧H dx=some (.own a):=by
 obtain ⟨d,z,ne,ob,mA,n,r,q⟩:=(show Yu P w H h a (.ins C dx fs) from hok a _ e)
 exact ⟨mA,⟨ob,n,ne⟩,r,q,z,d⟩
end
structure Cls (K:PySem.W.Frag) (C:Addr):Prop where
 pg:PySem.W.plainGet K C Str.empty=true
 hd:PySem.W.hasDictIn K C=true
 po:PySem.W.plainOver K C=true
 sa:PySem.W.findIn K (.ref C) "__setattr__"=some (some (.builtin "object.__setattr__"))
theorem Cls.get {K:PySem.W.Frag} {C:Addr} (c:Cls K C) (f:Str):PySem.W.plainGet K C f=true:=c.pg
def Yk (K:PySem.W.Frag) (C:Addr) (f:Str):Prop:=PySem.W.findIn K (.ref C) f=some none
theorem Yk.taker {K:PySem.W.Frag} {C:Addr} {f:Str} (n:Yk K C f):PySem.W.takerIn K C f=some none:=by
 unfold PySem.W.takerIn
 rw [show PySem.W.findIn K (.ref C) f=some none from n]
 rfl
structure Meth (K:PySem.W.Frag) (C:Addr) (m:Str) (f:Addr):Prop where
 at_:PySem.W.findIn K (.ref C) m=some (some (.ref f))
 fn:PySem.W.isFn K (.ref f)=true
 kp:PySem.W.keepIn K (.ref f)=true
section
variable {X:Cx} {pins:List (Addr×Obj)} {σ:St} {H:Hp} {s:Shared} {a C dx:Addr} {fs:List (Str×V)} {f:Str} {v:V} {A:Around} {E:Value→Shared→Prop}
theorem Qh {b:Bool} {Q:Value→Shared→Prop} (I:Inv X pins σ H s) (e:H a=some (.ins C dx fs)) (c:Cls X.K C) (n:Yk X.K C f) (l:fs.lookup f=some v)
  (h:∀ u s',Inv X pins σ H s'→Ym v u→Q u s'):wpAny (model X.prog X.w) A (getAttr (.ref a) f b) Q E s:=by
 obtain ⟨mA,O,r,_,_,_⟩:=WP I.hok e
 obtain ⟨u,hu,ru⟩:=YX.some_of (v:=v) (o:=mA f) (by rw [← l];exact r f)
 exact YbB I.kIn O (c.get f) c.hd n hu (Vt ru) (h u _ (I.tok _) ru)
theorem Qi {m:Str} {g:Addr} {pl:Sem Bool} {Q:Value×List Value→Shared→Prop} (I:Inv X pins σ H s) (e:H a=some (.ins C dx fs)) (c:Cls X.K C) (k:Meth X.K C m g) (l:fs.lookup m=none)
  (h:Q (.ref g,[.ref a]) s):wpAny (model X.prog X.w) A (getMethod (.ref a) m pl) Q E s:=by
 obtain ⟨mA,O,r,_,_,_⟩:=WP I.hok e
 have hn:mA m=none:=YX.none_of (by rw [← l];exact r m)
 exact Yay I.kIn O (c.get m) k.at_ k.fn hn h
theorem Qj {y:V} {u:Value} {Q:Unit→Shared→Prop} (I:Inv X pins σ H s) (e:H a=some (.ins C dx fs)) (c:Cls X.K C) (n:Yk X.K C f) (hl:fs.length<1000) (ry:Ym y u)
  (h:∀ s',Inv X pins σ (upd H a (.ins C dx (YF f y fs))) s'→Q () s'):wpAny (model X.prog X.w) A (setAttr (.ref a) f u) Q E s:=by
 obtain ⟨mA,O,r,wi,_,ho⟩:=WP I.hok e
 have hz:(fs.map (·.1)).length≤sizeLine:=by rw [List.length_map,sizeLine_eq];omega
 refine YbC I.kIn O c.sa c.po n.taker c.hd wi hz fun h' O' sb=>h _ ?_
 have hd:∃ o,h'.get? dx=some o:=let ⟨o,_,_,e',_⟩:=O'.ns;⟨o,e'⟩
 refine I.write (x:=a) (e:=dx) (by rw [e];exact True.intro) (.inr ho) (fun b q hb z=>(sb.2 b hb).trans z) hd ?_
 refine ⟨by rw [Yb O.ne];exact ho,?_,O.ne,O'.obj,_,O'.ns,fun g=>?_,fun g hg=>?_⟩
 ·have:=X4 f y fs;omega
 ·show YX ((YF f y fs).lookup g) (if g=f then some u else mA g)
  rw [X3]
  by_cases q:g=f
  ·rw [if_pos q,if_pos q];exact ry
  ·rw [if_neg q,if_neg q];exact r g
 ·by_cases q:g=f
  ·rw [q];exact (XA f y fs).1
  ·refine (XA f y fs).2 g (wi g fun z=>hg ?_)
   show (if g=f then some u else mA g)=none
   rw [if_neg q];exact z
theorem Inv.made (I:Inv X pins σ H s):Inv X pins σ (upd (upd H s.heap.objs.size (.own (s.heap.objs.size+1))) (s.heap.objs.size+1) (.ins C s.heap.objs.size []))
  { s with heap:=(s.heap.push PySem.W.emptyDict).push (PySem.W.instObj C s.heap.objs.size) }:=by
 have e1:(s.heap.push PySem.W.emptyDict).get? s.heap.objs.size=some PySem.W.emptyDict:=Heap.get?_push_size s.heap rfl
 have e2:((s.heap.push PySem.W.emptyDict).push (PySem.W.instObj C s.heap.objs.size)).get? (s.heap.objs.size+1)=some (PySem.W.instObj C s.heap.objs.size):=by
  have:=Heap.get?_push_size (s.heap.push PySem.W.emptyDict) (o:=PySem.W.instObj C s.heap.objs.size) rfl
  rwa [Heap.size_push] at this
 have e3:(s.heap.push PySem.W.emptyDict).Ns s.heap.objs.size (fun _=>none):=⟨PySem.W.emptyDict,#[],_,e1,rfl,(fun e he=>absurd he (by simp)),fun _=>rfl⟩
 have I1:=I.laid (a:=s.heap.objs.size) (o := .own (s.heap.objs.size+1)) (h':=s.heap.push PySem.W.emptyDict) (t':=s.toks) (fun b u q=>Heap.get?_push_of_some _ q) (Nat.le_refl _) ⟨_,e1⟩
 refine I1.laid (a:=s.heap.objs.size+1) (o := .ins C s.heap.objs.size []) (t':=s.toks) (fun b u q=>Heap.get?_push_of_some _ q) (Nat.le_of_eq (Heap.size_push _ _)) ?_
 have ne:s.heap.objs.size≠s.heap.objs.size+1:=Nat.ne_of_lt (Nat.lt_succ_self _)
 refine ⟨by rw [Yb ne,Ye],Nat.zero_le _,ne,e2,fun _=>none,(Heap.Ns1.of_empty e3).at fun o q=>Heap.get?_push_of_some _ q,fun _=>True.intro,fun y hy=>absurd rfl hy⟩
theorem UN {prog:Program} {w:World} {env:Env} {e:Expr} {f:Str} {pos:Pos} {s:Shared} {Q:Value→Shared→Prop} (hb:attributeBase e f env (eval e env)=eval e env)
  (h:wpAny (model prog w) A (eval e env) (fun o s₁=>wpAny (model prog w) A (getAttr o f true) Q E s₁) E s):wpAny (model prog w) A (eval (.Attribute e f pos) env) Q E s :=
 Attribute_any_ h (by rw [arm_eval_Attribute,hb])
end
def tFld (K:PySem.W.Frag) (ta:TE) (f:Str):TE:=fun σ H Q=>ta σ H fun x H1=>∃ a C dx fs v,x = .ref a∧H1 a=some (.ins C dx fs)∧Cls K C∧Yk K C f∧fs.lookup f=some v∧Q v H1
def sFld (K:PySem.W.Frag) (ta tv:TE) (f:Str):TS:=fun D σ H=>tv σ H fun y H1=>ta σ H1 fun x H2=>∃ a C dx fs,x = .ref a∧H2 a=some (.ins C dx fs)∧Cls K C∧Yk K C f∧fs.length<1000 ∧
 D.nx σ (upd H2 a (.ins C dx (YF f y fs)))
section
variable {X:Cx} {o e value:Expr} {f:Str} {pos pos' tpos:Pos} {ta tv:TE}
theorem YL (he:PE X e ta) (hb:attributeBase e f X.env (eval e X.env)=eval e X.env):PE X (.Attribute e f pos) (tFld X.K ta f):=by
 intro pins s σ H Q I h
 refine UN hb (thn (he pins s σ H _ I h) fun u s1 ⟨x,H1,I1,rx,a,C,dx,fs,v,ex,ea,c,n,l,q⟩=>?_)
 subst ex
 obtain rfl:u=Value.ref a:=rx
 exact Qh I1 ea c n l fun u' s2 I2 ru=>⟨v,H1,I2,ru,q⟩
theorem X6 (ha:PE X o ta) (hv:PE X value tv) (hs:swapsWith value (some (.Attribute o f pos')) pos.line X.env=pure false):PS X (.Assign [.Attribute o f pos'] value pos) (sFld X.K ta tv f):=by
 intro pins s σ H D I h
 refine plainObj_wpAny_Assign_Attribute (thn (hv pins s σ H _ I h) fun u s1 ⟨y,H1,I1,ry,q⟩=>thn (ha pins s1 σ H1 _ I1 q) fun ov s2 ⟨x,H2,I2,rx,a,C,dx,fs,ex,ea,c,n,l,q2⟩=>?_) hs
 subst ex
 obtain rfl:ov=Value.ref a:=rx
 exact Qj I2 ea c n l ry fun s3 I3=>⟨σ,_,I3,q2⟩
end
section
variable {X:Cx} {pins:List (Addr×Obj)} {σ:St} {H:Hp} {s:Shared} {A:Around} {E:Value→Shared→Prop} {Q:Value→Shared→Prop} {c:Value} {b:Bool}
inductive TyOf (K:PySem.W.Frag) (H:Hp):V→Value→Prop where
 | non:TyOf K H .non (.type "NoneType")
 | bl (x:Bool):TyOf K H (.bl x) (.type "bool")
 | int (i:Int):TyOf K H (.int i) (.type "int")
 | str (x:Str):TyOf K H (.str x) (.type "str")
 | flt (x:UInt64):TyOf K H (.flt x) (.type "float")
 | lst {a:Addr} {xs:List V} (e:H a=some (.lst xs)):TyOf K H (.ref a) (.type "list")
 | frz {a:Addr} {o:Obj} {xs:List V} (e:H a=some (.frz o (.lst xs))):TyOf K H (.ref a) (.type "list")
 | tup {a:Addr} {xs:List V} (e:H a=some (.tup xs)):TyOf K H (.ref a) (.type "tuple")
 | dK {a:Addr} {kvs:List (Key×V)} (e:H a=some (.dK kvs)):TyOf K H (.ref a) (.type "dict")
 | dT {a:Addr} {kvs:List (List Key×V)} (e:H a=some (.dT kvs)):TyOf K H (.ref a) (.type "dict")
 | ins {a C dx:Addr} {fs:List (Str×V)} (e:H a=some (.ins C dx fs)) (cl:Cls K C) (ha:PySem.W.findIn K (.ref C) "__class__"=some (some (.builtin "object.__class__")))
   (hn:PySem.W.specialIn K (.builtin "object.__class__") "__get__"=some (some (.builtin "getset_descriptor.__get__"))) (htk:PySem.W.takesIn K (.builtin "object.__class__")=some true)
   (hm:PySem.W.mroIn K C (.type "object")=some true):TyOf K H (.ref a) (.ref C)
theorem QX {x:V} {u t:Value} (I:Inv X pins σ H s) (rx:Ym x u) (ty:TyOf X.K H x t) (e:PySem.W.kitOne X.K t c=some b) (h:∀ tk,Q (.bool b) { s with toks:=tk }) :
  wpAny (model X.prog X.w) A (call (.builtin "isinstance") [u,c]) Q E s:=by
 cases ty with
 | non=>cases (show u=Value.none from rx);exact PySem.W.kia_one PySem.W.kitx_none I.kIn True.intro e (fun z=>nomatch z) h
 | bl y=>cases (show u=Value.bool y from rx);exact PySem.W.kia_one PySem.W.kitx_bool I.kIn True.intro e (fun z=>nomatch z) h
 | int i=>obtain ⟨t,q⟩:=(show ∃ t,u=Value.int i t from rx);cases q;exact PySem.W.kia_one PySem.W.kitx_int I.kIn True.intro e (fun z=>nomatch z) h
 | str y=>obtain ⟨t,q⟩:=(show ∃ t,u=Value.str y t from rx);cases q;exact PySem.W.kia_one PySem.W.kitx_str I.kIn True.intro e (fun z=>nomatch z) h
 | flt y=>obtain ⟨t,q⟩:=(show ∃ t,u=Value.float y t from rx);cases q;exact PySem.W.kia_one PySem.W.kitx_float I.kIn True.intro e (fun z=>nomatch z) h
 | @lst a xs ea =>
  cases (show u=Value.ref a from rx)
  obtain ⟨_,_,n,_,h1⟩:=(show Yu X.prog X.w H s.heap a (.lst xs) from I.hok a _ ea)
  exact PySem.W.kia_one PySem.W.kitx_list I.kIn ⟨_,h1,rfl⟩ e (fun z=>nomatch z) h
 | @frz a ob xs ea =>
  cases (show u=Value.ref a from rx)
  obtain ⟨_,_,_,n,_,h1⟩:=(show Yu X.prog X.w H s.heap a (.frz ob (.lst xs)) from I.hok a _ ea)
  exact PySem.W.kia_one PySem.W.kitx_list I.kIn ⟨_,h1,rfl⟩ e (fun z=>nomatch z) h
 | @tup a xs ea =>
  cases (show u=Value.ref a from rx)
  obtain ⟨_,_,_,p⟩:=(show Yu X.prog X.w H s.heap a (.tup xs) from I.hok a _ ea)
  obtain ⟨o,h1,h2,_⟩:=p
  exact PySem.W.kia_one PySem.W.kitx_tuple I.kIn ⟨o,h1,h2⟩ e (fun z=>nomatch z) h
 | @dK a kvs ea =>
  cases (show u=Value.ref a from rx)
  obtain ⟨_,_,vs,_,p⟩:=(show Yu X.prog X.w H s.heap a (.dK kvs) from I.hok a _ ea)
  obtain ⟨o,es,ep,h1,h2,_⟩:=p
  exact PySem.W.kia_one PySem.W.kitx_dict I.kIn ⟨o,h1,h2.1⟩ e (fun z=>nomatch z) h
 | @dT a kvs ea =>
  cases (show u=Value.ref a from rx)
  obtain ⟨_,_,xs,_,o,es,ep,h1,h2,_⟩:=(show Yu X.prog X.w H s.heap a (.dT kvs) from I.hok a _ ea)
  exact PySem.W.kia_one PySem.W.kitx_dict I.kIn ⟨o,h1,h2.1⟩ e (fun z=>nomatch z) h
 | @ins a C dx fs ea cl ha hn htk hm =>
  cases (show u=Value.ref a from rx)
  obtain ⟨mA,O,_⟩:=WP I.hok ea
  obtain ⟨od,J,_⟩:=O.look
  exact PySem.W.kia_one (PySem.W.kitx_own (cl.get _) cl.hd ha hn htk hm) I.kIn J e (fun z=>nomatch z) h
end
end L2
namespace L2
open PySem PySem.Spec PyProof.Rows
structure Room (k:Nat) (A:Around):Prop where
 hd:A.handled=none
 dp:A.depth+3*k+5<recursionLimit
 un:A.units+16*k+200<cLine
 gd:A.guards=some []
theorem Room.mono {j k:Nat} {A:Around} (r:Room k A) (h:j≤k):Room j A:=⟨r.hd,by have:=r.dp;omega,by have:=r.un;omega,r.gd⟩
theorem Room.deeper {k:Nat} {A:Around} (r:Room (k+1) A) (env:Env):Room k (A.deeper env) :=
 ⟨r.hd,by have:=r.dp;show A.depth+1+3*k+5<_;omega,by have:=r.un;show A.units+3+16*k+200<_;omega,r.gd⟩
theorem Room.in1 {k:Nat} {A:Around} (r:Room (k+1) A):Room k A.in1 :=
 ⟨r.hd,by have:=r.dp;show A.depth+3*k+5<_;omega,by have:=r.un;show A.units+1+16*k+200<_;omega,r.gd⟩
theorem Qk {A:Around} {C:Addr} {us:List Value} {kw:List (Str×Value)}:(A.under (.builtin "type.__call__" ⟨.ref C::us,kw⟩)).depth=A.depth+1:=by
 first | rfl | simp [Around.under,Code.weight,Code.isCreation,Code.isGuard,Code.isCaller,Code.frames,Code.isFrame,guardIds]
theorem Ql {A:Around} {C:Addr} {us:List Value} {kw:List (Str×Value)}:(A.under (.builtin "type.__call__" ⟨.ref C::us,kw⟩)).units=A.units+1:=by
 first | rfl | simp [Around.under,Code.cUnits,Code.frames,Code.isFrame]
theorem Room.make {k:Nat} {A:Around} (r:Room (k+1) A) (C:Addr) (us:List Value) (kw:List (Str×Value)):Room k (A.under (.builtin "type.__call__" ⟨.ref C::us,kw⟩)) :=
 ⟨r.hd,by have:=r.dp;rw [Qk];omega,by have:=r.un;rw [Ql];omega,by first | exact r.gd | simpa [Around.under,Code.isGuard,Code.isFrame,guardIds] using r.gd⟩
theorem Room.depth {k:Nat} {A:Around} (r:Room k A):A.depth<recursionLimit:=by have:=r.dp;omega
theorem Room.units {k:Nat} {A:Around} (r:Room k A):A.units+64<cLine:=by have:=r.un;omega
def tNil:TA:=fun _ H Q=>Q [] H
def VP (ta:TE) (tr:TA):TA:=fun σ H Q=>ta σ H fun x H1=>tr σ H1 fun xs H2=>Q (x::xs) H2
section
variable {X:Cx} {e:Expr} {es:List Expr} {te:TE} {t:TA} {pos:Pos}
theorem Yc:PA X [] tNil:=fun _ _ _ _ H Q I h=>Calls.spliced_nil ⟨[],H,I,.nil,h⟩
theorem Ya (ha:PE X e te) (hr:PA X es t) (hs:starEach (e::es) X.env=(false,eval e X.env)::starEach es X.env:=by rfl):PA X (e::es) (VP te t):=by
 intro pos pins s σ H Q I h
 rw [hs]
 show wpAny _ _ (spliced ((false,eval e X.env)::backTo pos (starEach es X.env))) _ _ s
 refine Calls.spliced_cons (thn (ha pins s σ H _ I h) fun u s1 ⟨x,H1,I1,r1,q1⟩=>?_)
 exact thn (hr pos pins s1 σ H1 _ I1 q1) fun us s2 ⟨xs,H2,I2,r2,q2⟩=>⟨x::xs,H2,I2,.cons r1 r2,q2⟩
def tTup (t:TA):TE:=fun σ H Q=>t σ H fun xs H1=>xs.length≤sizeLine∧∀ p,H1 p=none→Q (.ref p) (upd H1 p (.tup xs))
def tLst (t:TA):TE:=fun σ H Q=>t σ H fun xs H1=>xs.length≤sizeLine∧∀ p,H1 p=none→Q (.ref p) (upd H1 p (.lst xs))
theorem XB {x1} (h:PA X es t):PE X (.Tuple es x1 pos) (tTup t):=by
 intro pins s σ H Q I hq
 refine wpAny_Tuple_spliced (thn (h pos pins s σ H _ I hq) fun us s1 ⟨xs,H1,I1,r,z,q⟩=>⟨by rw [← r.length];exact z,?_⟩)
 have hf:H1 s1.heap.objs.size=none:=I1.hok.fresh (Nat.le_refl _)
 refine ⟨.ref s1.heap.objs.size,upd H1 s1.heap.objs.size (.tup xs),I1.laid (t':=s1.toks) (fun b u e=>Heap.get?_push_of_some _ e) (Nat.le_refl _) ?_,rfl,q _ hf⟩
 exact ⟨z,us,r,⟨_,Heap.get?_push_size _ rfl,rfl,_,rfl⟩⟩
theorem Xg (h:PA X es t):PE X (.List es pos) (tLst t):=by
 intro pins s σ H Q I hq
 refine wpAny_List_spliced (thn (h pos pins s σ H _ I hq) fun us s1 ⟨xs,H1,I1,r,z,q⟩=>⟨by rw [← r.length];exact z,?_⟩)
 have hf:H1 s1.heap.objs.size=none:=I1.hok.fresh (Nat.le_refl _)
 refine ⟨.ref s1.heap.objs.size,upd H1 s1.heap.objs.size (.lst xs),I1.laid (t':=s1.toks) (fun b u e=>Heap.get?_push_of_some _ e) (Nat.le_refl _) ?_,rfl,q _ hf⟩
 exact ⟨z,us,0,r,Heap.get?_push_size _ rfl⟩
end
abbrev Sp:=List V→Hp→VK→XK→Prop
abbrev CXT:=List Env→Hp→Shared→XK→Value→Shared→Prop
structure Env0 (P:Program) (w:World) (K:PySem.W.Frag) (mg:Str→Option Value) (base:Heap) (A:Around) (outer:List Env) (s:Shared) (H:Hp):Prop where
 frames:A.frames=some outer
 mod:Mod K mg base
 bs:∀ b o,base.get? b=some o→s.heap.get? b=some o∧H b=none
 bsz:base.objs.size≤s.heap.objs.size
 funs:s.heap.FunFrames base outer
 frf:∀ b∈frs outer,H b=none
 hok:HOk P w H s.heap
 bare:AllBare s.gens
def CE (outer:List Env) (P:Program) (w:World) (H:Hp) (s:Shared) (Q:VK) (u:Value) (s':Shared):Prop :=
 ∃ v H',s'.os=s.os∧AllBare s'.gens∧Un (frs outer) [] H H' s.heap s'.heap∧HOk P w H' s'.heap∧Ym v u∧Q v H'
def CR (CX:CXT) (outer:List Env) (P:Program) (w:World) (H:Hp) (s:Shared) (Q:VK) (E:XK) (r:Result) (s':Shared):Prop :=
 match r with
 | .ok (.ret u)=>CE outer P w H s Q u s'
 | .ok _=>False
 | .error e=>CX outer H s E e s'
structure FnOk (P:Program) (w:World) (K:PySem.W.Frag) (mg:Str→Option Value) (base:Heap) (CX:CXT) (k:Nat) (f:Addr) (fd:FuncData) (ps:List Str) (sp:Sp):Prop where
 len:∀ vs H Q E,sp vs H Q E→vs.length=ps.length
 run:∀ (A:Around) (outer:List Env) (s:Shared) (H:Hp) (args:Args) (us:List Value) (vs:List V) (Q:VK) (E:XK),Room k A→Env0 P w K mg base A outer s H→BindsTo s fd args (ps.zip us)→Yl vs us→sp vs H Q E →
  codeAny (model P w) A (.call (.ref f) args) (CR CX outer P w H s Q E) s
theorem FnOk.mono {P:Program} {w:World} {K:PySem.W.Frag} {mg:Str→Option Value} {base:Heap} {CX:CXT} {j k:Nat} {f:Addr} {fd:FuncData} {ps:List Str} {sp:Sp} (F:FnOk P w K mg base CX j f fd ps sp) (h:j≤k) :
  FnOk P w K mg base CX k f fd ps sp:=⟨F.len,fun A outer s H args us vs Q E hr=>F.run A outer s H args us vs Q E (hr.mono h)⟩
theorem Env0.make {P:Program} {w:World} {K:PySem.W.Frag} {mg:Str→Option Value} {base:Heap} {A:Around} {outer:List Env} {s:Shared} {H:Hp} (e:Env0 P w K mg base A outer s H) (C:Addr) (us:List Value) (kw:List (Str×Value)) :
  Env0 P w K mg base (A.under (.builtin "type.__call__" ⟨.ref C::us,kw⟩)) outer s H:=⟨by first | exact e.frames | (simpa [Around.under,Code.envs,Code.isFrame,pushEnvs] using e.frames),e.mod,e.bs,e.bsz,e.funs,e.frf,e.hok,e.bare⟩
theorem Env0.in1 {P:Program} {w:World} {K:PySem.W.Frag} {mg:Str→Option Value} {base:Heap} {A:Around} {outer:List Env} {s:Shared} {H:Hp} (e:Env0 P w K mg base A outer s H) :
  Env0 P w K mg base A.in1 outer s H:=⟨e.frames,e.mod,e.bs,e.bsz,e.funs,e.frf,e.hok,e.bare⟩
section
variable {X:Cx} {pins:List (Addr×Obj)} {σ:St} {H:Hp} {s s':Shared}
theorem Inv.env0 (I:Inv X pins σ H s):Env0 X.prog X.w X.K X.mg X.base X.A X.stack s H :=
 ⟨I.ok.frames,I.ok.mod,I.bs,Nat.le_trans I.ok.bsz I.sz,I.stack,I.stkFree,I.hok,I.bare⟩
theorem Inv.after {Q:VK} {u:Value} (I:Inv X pins σ H s) (h:CE X.stack X.prog X.w H s Q u s'):EP X pins σ Q u s':=by
 obtain ⟨v,H',os,bare,un,hok,r,q⟩:=h
 obtain ⟨hh,g,d,t,os'⟩:=s'
 obtain rfl:os'=s.os:=os
 exact ⟨v,H',I.call (h':=hh) (g':=g) (d':=d) (t':=t) (ch:=[]) un hok bare (fun b z=>absurd z (by simp)),r,q⟩
end
def WQ (sp:Sp) (dvs:List V) (E:XK) (t:TA):TE:=fun σ H Q=>t σ H fun vs H1=>sp (vs++dvs) H1 Q E
def Qm (C:Addr) (m:Str) (sp:Sp) (dvs:List V) (E:XK) (ta:TE) (t:TA):TE:=fun σ H Q=>ta σ H fun x H1=>∃ a dx fs,x = .ref a∧H1 a=some (.ins C dx fs)∧fs.lookup m=none ∧
 t σ H1 fun vs H2=>sp (x::(vs++dvs)) H2 Q E
def Qo (C:Addr) (sp:Sp) (dvs:List V) (E:XK) (t:TA):TE:=fun σ H Q=>t σ H fun vs H1=>∀ x dx,H1 x=none→H1 dx=none→dx≠x →
 sp (.ref x::(vs++dvs)) (upd (upd H1 dx (.own x)) x (.ins C dx [])) (fun v H2=>v = .non∧Q (.ref x) H2) E
def YA (K:PySem.W.Frag) (fd:FuncData) (ps:List Str) (ds:List Value):Prop :=
 ∀ (s:Shared) (us:List Value),K.In s.heap→(us++ds).length=ps.length→BindsTo s fd ⟨us,[]⟩ (ps.zip (us++ds))
theorem YA.all {K:PySem.W.Frag} {fd:FuncData} {ps:List Str} (h:∀ us:List Value,us.length=ps.length→bindArgs fd ⟨us,[]⟩=pure (ps.zip us)):YA K fd ps []:=fun s us _ hl=>by
 rw [List.append_nil] at hl ⊢
 exact .of_eq (h us hl)
def Xh (CX:CXT) (X:Cx) (E:XK):Prop:=∀ (pins:List (Addr×Obj)) (σ:St) (H:Hp) (s:Shared) (e:Value) (s':Shared),Inv X pins σ H s→CX X.stack H s E e s'→X.xe e s'
section
variable {X:Cx} {CX:CXT} {k:Nat} {f C:Addr} {fd:FuncData} {ps:List Str} {sp:Sp} {dvs:List V} {ds:List Value} {E:XK} {x m:Str} {p pos apos:Pos} {e o:Expr} {es:List Expr} {ta:TE} {t:TA}
theorem W3 {pins:List (Addr×Obj)} {σ:St} {H:Hp} {s:Shared} {Q:VK} {us:List Value} {vs:List V} (F:FnOk X.prog X.w X.K X.mg X.base CX k f fd ps sp) (hr:Room k X.A) (hb:YA X.K fd ps ds) (hd:Yl dvs ds) (hx:Xh CX X E)
  (I:Inv X pins σ H s) (r:Yl vs us) (h:sp (vs++dvs) H Q E):wpAny (model X.prog X.w) X.A (call (.ref f) us) (EP X pins σ Q) X.xe s:=by
 have r2:Yl (vs++dvs) (us++ds):=r.append hd
 have hl:(us++ds).length=ps.length:=by rw [← r2.length];exact F.len _ _ _ _ h
 refine wpAny_call (codeAny_mono (F.run X.A X.stack s H ⟨us,[]⟩ (us++ds) (vs++dvs) Q E hr I.env0 (hb s us I.kIn hl) r2 h) fun r s' hq=>?_)
 cases r with
 | error e=>exact hx pins σ H s e s' I hq
 | ok fl =>
  cases fl with
  | ret u=>exact I.after hq
  | next=>exact False.elim hq
  | brk=>exact False.elim hq
  | cont=>exact False.elim hq
theorem UO (F:FnOk X.prog X.w X.K X.mg X.base CX k f fd ps sp) (hr:Room k X.A) (hg:Gl X x) (hm:X.mg x=some (.ref f)) (hk:PySem.W.keepIn X.K (.ref f)=true) (hb:YA X.K fd ps ds) (hd:Yl dvs ds) (hx:Xh CX X E)
  (ha:PA X (e::es) t) (hdb:(x==("__debug__":Str))=false:=by decide) (he:starEach (e::es) X.env=(false,eval e X.env)::starEach es X.env:=by rfl) (hpl:(backTo pos (starEach es X.env)).any (·.1)=false:=by rfl) :
  PE X (.Call (.Name x p) (e::es) [] pos) (WQ sp dvs E t):=by
 intro pins s σ H Q I h
 refine wpAny_Call_Name_kw (Xk I hg hm ?_ hdb)
 refine PySem.W.callWith_K (h₀:=X.base) I.ok.mod.kin hk (thn (ha pos pins s σ H _ I h) fun us s1 ⟨vs,H1,I1,r,q⟩=>⟨I1.kIn,?_⟩) he hpl
 exact W3 F hr hb hd hx I1 r q
theorem YbD {pl:Sem Bool} (he:PE X o ta) (c:Cls X.K C) (hm:Meth X.K C m f) (F:FnOk X.prog X.w X.K X.mg X.base CX k f fd ps sp) (hr:Room k X.A) (hb:YA X.K fd ps ds) (hd:Yl dvs ds) (hx:Xh CX X E) (ha:PA X (e::es) t)
  (hst:starEach (e::es) X.env=(false,eval e X.env)::starEach es X.env:=by rfl) (hpl:(backTo pos (starEach es X.env)).any (·.1)=false:=by rfl)
  (ht:eval (.Call (.Attribute o m apos) (e::es) [] pos) X.env=(do
   let ov ← eval o X.env
   standAt apos.atName
   let (f,first) ← holding [ov] (getMethod ov m pl)
   callWith pos f first (backTo pos (starEach (e::es) X.env)) (backToKw pos (keywordEach [] X.env))):=by rfl) :
  PE X (.Call (.Attribute o m apos) (e::es) [] pos) (Qm C m sp dvs E ta t):=by
 intro pins s σ H Q I h
 refine PySem.W.methodCall_KW (pl:=pl) (thn (he pins s σ H _ I h) fun u s1 ⟨x,H1,I1,rx,a,dx,fs,ex,ea,l,q⟩=>?_) ht
 subst ex
 obtain rfl:u=Value.ref a:=rx
 refine Qi I1 ea c hm l ?_
 refine PySem.W.callWith_K (first:=[.ref a]) (h₀:=X.base) I.ok.mod.kin hm.kp (thn (ha pos pins s1 σ H1 _ I1 q) fun us s2 ⟨vs,H2,I2,r,q2⟩=>⟨I2.kIn,?_⟩) hst hpl
 exact W3 (us := .ref a::us) (vs := .ref a::vs) F hr hb hd hx I2 (.cons rfl r) q2
structure Mk (K:PySem.W.Frag) (C f:Addr):Prop where
 makes:PySem.W.makesIn K C=true
 init:PySem.W.findIn K (.ref C) "__init__"=some (some (.ref f))
 fn:PySem.W.isFn K (.ref f)=true
 kp:PySem.W.keepIn K (.ref C)=true
theorem YaA {pins:List (Addr×Obj)} {σ:St} {H:Hp} {s:Shared} {Q:VK} {us:List Value} {vs:List V} (M:Mk X.K C f) (F:FnOk X.prog X.w X.K X.mg X.base CX k f fd ps sp) (hr:Room (k+1) X.A) (hb:YA X.K fd ps ds) (hd:Yl dvs ds)
  (hx:Xh CX X E) (I:Inv X pins σ H s) (r:Yl vs us)
  (h:∀ x dx,H x=none→H dx=none→dx≠x→sp (.ref x::(vs++dvs)) (upd (upd H dx (.own x)) x (.ins C dx [])) (fun v H2=>v = .non∧Q (.ref x) H2) E) :
  wpAny (model X.prog X.w) X.A (call (.ref C) us) (EP X pins σ Q) X.xe s:=by
 have hq:=h (s.heap.objs.size+1) s.heap.objs.size (I.hok.fresh (Nat.le_succ _)) (I.hok.fresh (Nat.le_refl _)) (Nat.ne_of_lt (Nat.lt_succ_self _))
 have I2:=Inv.made (C:=C) I
 have r2:Yl (V.ref (s.heap.objs.size+1)::(vs++dvs)) (Value.ref (s.heap.objs.size+1)::(us++ds)) := .cons rfl (r.append hd)
 have hl:(Value.ref (s.heap.objs.size+1)::us++ds).length=ps.length:=by
  have e:=r2.length
  rw [F.len _ _ _ _ hq] at e
  exact e.symm
 refine wpAny_call (Yaz (f:=f) I.kIn M.makes M.init (beq_iff_eq.mp M.fn) (codeAny_mono (F.run _ X.stack _ _ ⟨Value.ref (s.heap.objs.size+1)::us,[]⟩ (Value.ref (s.heap.objs.size+1)::(us++ds)) _ _ E (hr.make C us [])
  (I2.env0.make C us []) (hb _ (Value.ref (s.heap.objs.size+1)::us) I2.kIn hl) r2 hq) fun r s' hq'=>?_))
 cases r with
 | error e=>exact hx pins σ _ _ e s' I2 hq'
 | ok fl =>
  cases fl with
  | ret u =>
   obtain ⟨v,H',I3,rv,ev,q3⟩:=I2.after hq'
   subst ev
   exact ⟨rv,⟨V.ref (s.heap.objs.size+1),H',I3,rfl,q3⟩⟩
  | next=>exact False.elim hq'
  | brk=>exact False.elim hq'
  | cont=>exact False.elim hq'
theorem YbE (M:Mk X.K C f) (F:FnOk X.prog X.w X.K X.mg X.base CX k f fd ps sp) (hr:Room (k+1) X.A) (hg:Gl X x) (hm:X.mg x=some (.ref C)) (hb:YA X.K fd ps ds) (hd:Yl dvs ds) (hx:Xh CX X E)
  (ha:PA X (e::es) t) (hdb:(x==("__debug__":Str))=false:=by decide) (he:starEach (e::es) X.env=(false,eval e X.env)::starEach es X.env:=by rfl) (hpl:(backTo pos (starEach es X.env)).any (·.1)=false:=by rfl) :
  PE X (.Call (.Name x p) (e::es) [] pos) (Qo C sp dvs E t):=by
 intro pins s σ H Q I h
 refine wpAny_Call_Name_kw (Xk I hg hm ?_ hdb)
 refine PySem.W.callWith_K (h₀:=X.base) I.ok.mod.kin M.kp (thn (ha pos pins s σ H _ I h) fun us s1 ⟨vs,H1,I1,r,q⟩=>⟨I1.kIn,?_⟩) he hpl
 exact YaA M F hr hb hd hx I1 r q
end
section
variable {X:Cx} {CX:CXT} {k:Nat} {f C:Addr} {fd:FuncData} {ps ks:List Str} {sp:Sp} {E:XK} {x m:Str} {p pos apos kpos:Pos} {e o:Expr} {es:List Expr} {kws:List Keyword} {te ta:TE} {t tk:TA} {nm:Option Str}
variable {g:List Value→List Value→List Value} {gV:List V→List V→List V}
end
structure FnScope (N P:List Str) (sc:Scope):Prop where
 kind:sc.kind = .function
 co:sc.isCoroutine=false
 gen:sc.isGenerator=false
 nd:N.Nodup
 pre:N.take P.length=P
 par:∀ x∈P,sc.names.lookup x=some .local∨sc.names.lookup x=some .cell
 nofree:∀ y∈sc.names,y.2 ≠ .free
theorem Vu {kindOf:Str→Option NameKind} {x:Str}:∀ {binds:List (Str×Value)} {m:Str→Option Value},(∀ v,(x,v)∉binds)→bindL kindOf binds m x=m x
 | [],_,_=>rfl
 | (n,v)::r,m,h=>by
  unfold bindL
  rw [Vu fun w hw=>h w (List.mem_cons_of_mem _ hw)]
  split
  ·have:x≠n:=by rintro rfl;exact h v List.mem_cons_self
   simp [this]
  ·rfl
theorem Vv {kindOf:Str→Option NameKind} {x:Str}:∀ {binds:List (Str×Value)} {m:Str→Option Value},(∀ v,(x,v)∉binds)→bindC kindOf binds m x=m x
 | [],_,_=>rfl
 | (n,v)::r,m,h=>by
  unfold bindC
  rw [Vv fun w hw=>h w (List.mem_cons_of_mem _ hw)]
  split
  ·rfl
  ·have:x≠n:=by rintro rfl;exact h v List.mem_cons_self
   simp [this]
theorem Vw {kindOf:Str→Option NameKind} {x:Str} {v:Value}:∀ {P:List Str} {vs:List Value} {i:Nat} {m:Str→Option Value},P.Nodup→P[i]?=some x→vs[i]?=some v→kindOf x=some .local →
  bindL kindOf (P.zip vs) m x=some v
 | [],_,_,_,_,h,_,_=>by simp at h
 | _::_,[],_,_,_,_,h,_=>by simp at h
 | p::P,w::vs,0,m,nd,h1,h2,hk=>by
  simp at h1 h2;subst h1;subst h2
  show bindL kindOf ((p,w)::P.zip vs) m p=_
  unfold bindL
  rw [Vu fun v hv=>(List.nodup_cons.mp nd).1 (List.of_mem_zip hv).1,if_pos hk]
  simp
 | p::P,w::vs,i+1,m,nd,h1,h2,hk=>by
  show bindL kindOf ((p,w)::P.zip vs) m x=_
  unfold bindL
  exact Vw (i:=i) (List.nodup_cons.mp nd).2 (by simpa using h1) (by simpa using h2) hk
theorem Vx {kindOf:Str→Option NameKind} {x:Str} {v:Value}:∀ {P:List Str} {vs:List Value} {i:Nat} {m:Str→Option Value},P.Nodup→P[i]?=some x→vs[i]?=some v→kindOf x≠some .local →
  bindC kindOf (P.zip vs) m x=some v
 | [],_,_,_,_,h,_,_=>by simp at h
 | _::_,[],_,_,_,_,h,_=>by simp at h
 | p::P,w::vs,0,m,nd,h1,h2,hk=>by
  simp at h1 h2;subst h1;subst h2
  show bindC kindOf ((p,w)::P.zip vs) m p=_
  unfold bindC
  rw [Vv fun v hv=>(List.nodup_cons.mp nd).1 (List.of_mem_zip hv).1,if_neg hk]
  simp
 | p::P,w::vs,i+1,m,nd,h1,h2,hk=>by
  show bindC kindOf ((p,w)::P.zip vs) m x=_
  unfold bindC
  exact Vx (i:=i) (List.nodup_cons.mp nd).2 (by simpa using h1) (by simpa using h2) hk
def YY (N:List Str) (vs:List V):St:=vs.map some++List.replicate (N.length - vs.length) none
def XE (CX:CXT) (P:Program) (w:World) (K:PySem.W.Frag) (mg:Str→Option Value) (base:Heap) (N:List Str) (qual:Str) (scope:Scope) (f:Addr) (cd:Value) (A:Around) (outer:List Env) (s:Shared) (H:Hp) (E:XK):Cx where
 prog:=P
 w:=w
 K:=K
 mg:=mg
 base:=base
 A:=A.deeper (envOfC qual scope s.heap.objs.size f cd)
 N:=N
 s₀:=s
 H₀:=H
 env:=envOfC qual scope s.heap.objs.size f cd
 outer:=outer
 stack:=envOfC qual scope s.heap.objs.size f cd::outer
 ex:=[]
 calm:=true
 fn:=fun _=>true
 pn:=[]
 xe:=fun e s'=>wpAny (model P w) (A.deeper (envOfC qual scope s.heap.objs.size f cd)) (leaving (envOfC qual scope s.heap.objs.size f cd) e) (fun _ s''=>CX outer H s E e s'') (fun e' s''=>CX outer H s E e' s'') s'
theorem V3 {sc:Scope} {n:Nat} {x:Str} (h:sc.names.lookup x=some .cell):∃ c,(cellsFrom n sc.names []).lookup x=some c:=by
 have q:=PySem.W.cellsFrom_some sc.names n [] (.inl h)
 exact Option.isSome_iff_exists.mp q
theorem Vy {CX:CXT} {P:Program} {w:World} {K:PySem.W.Frag} {mg:Str→Option Value} {base:Heap} {N ps:List Str} {qual:Str} {scope:Scope} {f:Addr} {cd:Value} {A:Around} {outer:List Env} {s s1:Shared} {H:Hp} {E:XK} {us:List Value} {vs:List V}
  (S:FnScope N ps scope) (hd:A.handled=none) (e0:Env0 P w K mg base A outer s H) (hl:vs.length=ps.length) (r:Yl vs us)
  (x:InCallC s s.heap.objs.size (bindL (envOfC qual scope s.heap.objs.size f cd).kindOf (ps.zip us) fun _=>none) (cellsFrom (s.heap.objs.size+1) scope.names []) (bindC (envOfC qual scope s.heap.objs.size f cd).kindOf (ps.zip us) fun _=>none) s1) :
  Inv (XE CX P w K mg base N qual scope f cd A outer s H E) [] (YY N vs) H s1:=by
 have hpl:ps.length≤N.length:=by have:=congrArg List.length S.pre;rw [List.length_take] at this;omega
 obtain ⟨h1,tk,rfl,hk⟩:=x.done
 have noA:∀ b:Addr,b∉(XE CX P w K mg base N qual scope f cd A outer s H E).ex:=fun b z=>absurd (show b∈([]:List Addr) from z) (by simp)
 refine ⟨⟨e0.mod,S.kind,rfl,rfl,Nat.le_refl _,fun y z c h1 h2=>?_,fun y hy=>?_,fun y c _ h=>?_,fun _=>hd,Around.frames_deeper e0.frames,.inr ⟨rfl,rfl⟩,fun b z=>absurd z (noA b),e0.bs,e0.bsz,fun b _ _=>noA b,fun b z=>absurd z (noA b),e0.funs,e0.frf⟩,
  rfl,e0.bare,Un.kept hk,⟨_,x.toInCall.ns,fun i y v h1 h2 h3=>?_⟩,fun y c h=>⟨_,x.cell y c h⟩,e0.hok.fresh (Nat.le_refl _),fun y c h=>?_,fun p hp=>absurd (show p∈([]:List (Addr×Obj)) from hp) (by simp),e0.hok.kept hk,?_⟩
 ·exact name_of_addr x.apart (PySem.mem_of_lookup h1) (PySem.mem_of_lookup h2)
 ·have hy:scope.names.lookup y=some .cell∨scope.names.lookup y=some .free:=hy
  rcases hy with hy | hy
  ·exact V3 hy
  ·exact absurd rfl (S.nofree _ (PySem.mem_of_lookup hy))
 ·exact Nat.le_of_lt (x.above y c (PySem.mem_of_lookup h))
 ·have hi:i<vs.length:=by
   unfold YY at h2
   by_cases hi:i<vs.length
   ·exact hi
   ·rw [List.getElem?_append_right (by simpa using hi)] at h2
    rw [List.getElem?_replicate] at h2
    split at h2<;>cases h2
  have ha:vs[i]?=some v:=by
   unfold YY at h2
   rw [List.getElem?_append_left (by simpa using hi),List.getElem?_map] at h2
   cases e:vs[i]? with
   | none=>rw [e] at h2;cases h2
   | some a=>rw [e] at h2;cases h2;rfl
  obtain ⟨u,hu,rv⟩:=r.get ha
  have hp:ps[i]?=some y:=by
   rw [← S.pre,List.getElem?_take_of_lt (by omega)];exact h1
  have ndP:ps.Nodup:=by rw [← S.pre];exact S.nd.sublist (List.take_sublist _ _)
  refine ⟨u,rv,?_⟩
  rcases S.par y (List.mem_of_getElem? hp) with k | k
  ·exact .inl ⟨k,Vw ndP hp hu k⟩
  ·obtain ⟨c,e⟩:=V3 (n:=s.heap.objs.size+1) k
   refine .inr ⟨.inl k,c,e,?_⟩
   have q:=x.cell y c e
   rw [Vx ndP hp hu (by show scope.names.lookup y≠_;rw [k];decide)] at q
   exact q
 ·exact e0.hok.fresh (Nat.le_of_lt (x.above y c (PySem.mem_of_lookup h)))
 ·unfold YY
  show _=N.length
  rw [List.length_append,List.length_map,List.length_replicate]
  omega
theorem VQ {CX:CXT} {P:Program} {w:World} {K:PySem.W.Frag} {mg:Str→Option Value} {base:Heap} {k:Nat} {f:Addr} {name qual:Str} {params:Arguments} {body:List Stmt} {scope:Scope} {dV kV doc pm cdv ct oc:Value} {an od:Option Addr}
  {osl:Array (Option Value)} {N ps:List Str} {sp:Sp} (lk:K.lookup f=some ⟨oc,od,.func (PySem.W.fnOf name qual params body scope dV kV doc pm an cdv ct),osl⟩) (hcd:PySem.W.codeIn K cdv qual=true) (S:FnScope N ps scope)
  (len:∀ vs H Q E,sp vs H Q E→vs.length=ps.length)
  (hbody:∀ (A:Around) (outer:List Env) (s:Shared) (H:Hp) (vs:List V) (Q:VK) (E:XK),Room k (A.deeper (envOfC qual scope s.heap.objs.size f cdv))→sp vs H Q E →
   ∃ t,PSs (XE CX P w K mg base N qual scope f cdv A outer s H E) body t∧t { nx:=fun _ H'=>Q .non H',rt:=Q } (YY N vs) H) :
  FnOk P w K mg base CX (k+1) f (PySem.W.fnOf name qual params body scope dV kV doc pm an cdv ct) ps sp:=by
 refine ⟨len,fun A outer s H args us vs Q E hr e0 hb r hsp=>?_⟩
 have hl:=len _ _ _ _ hsp
 have KX:K.In s.heap:=e0.mod.kin.keeps fun b o e=>(e0.bs b o e).1
 have lim:s.heap.NoLimit:=e0.mod.nolimit.keeps fun b o e=>(e0.bs b o e).1
 have hkind:∀ y∈ps.zip us,scope.names.lookup y.1=some .local∨(scope.names.lookup y.1=some .cell∧((cellsFrom (s.heap.objs.size+1) scope.names []).lookup y.1).isSome=true):=fun ⟨n,v⟩ hy=>by
  rcases S.par n (List.of_mem_zip hy).1 with q | q
  ·exact .inl q
  ·exact .inr ⟨q,PySem.W.cellsFrom_some _ _ _ (.inl q)⟩
 refine codeAny_call_function hr.depth (KX _ _ lk) rfl S.co S.gen rfl (PySem.W.codeRec_of KX hcd) (hb _ _ _ _ ?_)
 refine wpAny_newFunctionEnv_cells S.kind hkind fun env he s1 x=>?_
 subst he
 refine ⟨lim.keeps x.toInCall.keep,codeAny_func ?_⟩
 obtain ⟨t,ht,hq⟩:=hbody A outer s H vs Q E (hr.deeper _) hsp
 have I:Inv (XE CX P w K mg base N qual scope f cdv A outer s H E) [] (YY N vs) H s1:=Vy S hr.hd e0 hl r x
 refine wpAny_mono (ht [] s1 (YY N vs) H _ I hq) (fun fl s' hs=>?_) fun e s' hs=>hs
 have fin:∀ {σ':St} {H':Hp} {v:V} {u:Value},Inv (XE CX P w K mg base N qual scope f cdv A outer s H E) [] σ' H' s'→Ym v u→Q v H'→CE outer P w H s Q u s' :=
  fun {σ' H' v u} J rv q=>⟨v,H',J.os,J.bare,J.base,J.hok,rv,q⟩
 cases fl with
 | ret u =>
  obtain ⟨v,σ',H',J,rv,q⟩:=hs
  exact fin J rv q
 | next =>
  obtain ⟨σ',H',J,q⟩:=hs
  exact fin (v:=V.non) (u:=Value.none) J rfl q
 | brk =>
  obtain ⟨_,_,_,q⟩:=hs
  exact False.elim q
 | cont =>
  obtain ⟨_,_,_,q⟩:=hs
  exact False.elim q
end L2
namespace L2
open PySem PySem.Spec PyProof.Rows
section
variable {X:Cx} {x:Str} {p pos:Pos} {e:Expr} {es:List Expr} {t:TA} {id T:String} {r:List V→Hp→VK→Prop}
def tCB (r:List V→Hp→VK→Prop) (t:TA):TE:=fun σ H Q=>t σ H fun vs H1=>r vs H1 Q
theorem YaB (hc:X0 X (.builtin id) r) (hg:Gl X x) (hm:X.mg x=none) (hv:bootBuiltins x=some (.builtin id)) (ha:PA X (e::es) t) (hn:x≠"__name__":=by decide) (hdb:(x==("__debug__":Str))=false:=by decide)
  (he:starEach (e::es) X.env=(false,eval e X.env)::starEach es X.env:=by rfl) (hpl:(backTo pos (starEach es X.env)).any (·.1)=false:=by rfl):PE X (.Call (.Name x p) (e::es) [] pos) (tCB r t):=by
 intro pins s σ H Q I h
 refine wpAny_Call_Name_kw (VY I hg hm hv ?_ hn hdb)
 exact PyProof.Rows.callWith_builtin1 (thn (ha pos pins s σ H _ I h) fun us s1 ⟨vs,H1,I1,r1,q1⟩=>hc pins s1 σ H1 vs us Q I1 r1 q1) he hpl
end
end L2
namespace HT
open PySem PyProof.Rows
section
open PySem.SeqAt
open PySem.AutoSeq1 (wpAny_loadPart')
open PySem.MeetsSeq PySem.MeetsSeq2 PySem.MeetsSeq3
end
section
variable {prog:Program} {w:World} {A:Around} {E:Value→Shared→Prop} {s:Shared}
def sIx (n d:Nat):Option Int→Nat
 | none=>d
 | some v=>if v<0 then (v+(n:Int)).toNat else min v.toNat n
theorem sIx_none (n d:Nat):sIx n d none=d:=rfl
theorem sIx_nat (n d k:Nat):sIx n d (some (k:Int))=min k n:=by
 show (if (k:Int)<0 then ((k:Int)+(n:Int)).toNat else min (k:Int).toNat n)=min k n
 rw [if_neg (by omega),Int.toNat_natCast]
theorem sIx_le (n d:Nat) (hd:d≤n) (o:Option Int):sIx n d o≤n:=by
 cases o with
 | none=>exact hd
 | some v =>
  show (if v<0 then (v+(n:Int)).toNat else min v.toNat n)≤n
  by_cases hv:v<0
  ·rw [if_pos hv];omega
  ·rw [if_neg hv];exact Nat.min_le_right _ _
end
end HT
namespace L2
open PySem PySem.Spec PyProof.Rows
abbrev TO:=St→Hp→(Option Int→Hp→Prop)→Prop
def PO (X:Cx) (e:Option Expr) (t:TO):Prop :=
 ∀ (pins:List (Addr×Obj)) (s:Shared) (σ:St) (H:Hp) (Q:Option Int→Hp→Prop),Inv X pins σ H s→t σ H Q →
  wpAny (model X.prog X.w) X.A (evalPart e X.env) (fun u s'=>∃ o H',Inv X pins σ H' s'∧IsPart u o∧Q o H') X.xe s
def UP:TO:=fun _ H Q=>Q none H
def Ybb (t:TE):TO:=fun σ H Q=>t σ H fun x H1=>∃ i,x = .int i∧Q (some i) H1
section
variable {X:Cx} {e:Expr} {te:TE} {lo hi:Option Expr} {tl th:TO} {pos p2:Pos}
theorem UQ:PO X none UP:=by
 intro pins s σ H Q I h
 rw [evalPart_none]
 exact wpAny_pure ⟨none,H,I,.none,h⟩
theorem UR (h:PE X e te):PO X (some e) (Ybb te):=by
 intro pins s σ H Q I hw
 rw [evalPart_some]
 refine thn (h pins s σ H _ I hw) fun u s1 ⟨x,H1,I1,r1,q1⟩=>?_
 obtain ⟨i,rfl,q⟩:=q1
 obtain ⟨t,rfl⟩:=r1
 exact ⟨some i,H1,I1,.int i t,q⟩
def SlR (X:Cx) (r:V→Option Int→Option Int→Hp→VK→Prop):Prop :=
 ∀ (pins:List (Addr×Obj)) (s:Shared) (σ:St) (H:Hp) (x:V) (v vl vu:Value) (lo hi:Option Int) (sl:Addr) (Q:VK),Inv X pins σ H s→Ym x v→s.heap.IsSliceOf sl vl vu .none→IsPart vl lo→IsPart vu hi→r x lo hi H Q →
  ∃ T id,typeLookup (.type T) "__getitem__"=pure (some (.builtin id))∧s.TypeIs v T∧wpAny (model X.prog X.w) X.A (getItem v (.ref sl)) (EP X pins σ Q) X.xe s
def tSl (r:V→Option Int→Option Int→Hp→VK→Prop) (te:TE) (tl th:TO):TE:=fun σ H Q=>te σ H fun x H1=>tl σ H1 fun l H2=>th σ H2 fun u H3=>r x l u H3 Q
theorem V4 {r:V→Option Int→Option Int→Hp→VK→Prop} (hr:SlR X r) (he:PE X e te) (hl:PO X lo tl) (hu:PO X hi th):PE X (.Subscript e (.Slice lo hi none p2) pos) (tSl r te tl th):=by
 intro pins s σ H Q I h
 refine Subscript_ (thn (he pins s σ H _ I h) fun v s1 ⟨x,H1,I1,r1,q1⟩=>?_)
 refine wpAny_Slice (thn (hl pins s1 σ H1 _ I1 q1) fun vl s2 ⟨l,H2,I2,pl,q2⟩=>thn (hu pins s2 σ H2 _ I2 q2) fun vu s3 ⟨u,H3,I3,pu,q3⟩=>?_)
 rw [evalPart_none]
 refine wpAny_pure ?_
 have I4:Inv X pins σ H3 { s3 with heap:=s3.heap.push { cls := .type "slice",data := .fields #[vl,vu,.none] } }:=I3.kept (t':=s3.toks) fun b ob q=>Heap.get?_push_of_some _ q
 obtain ⟨T,id,hT,ht,hg⟩:=hr pins { s3 with heap:=s3.heap.push { cls := .type "slice",data := .fields #[vl,vu,.none] } } σ H3 x v vl vu l u s3.heap.objs.size Q I4 r1 (Heap.IsSliceOf.new ..) pl pu q3
 show wpAny (model X.prog X.w) X.A (subscriptTail e (.Slice lo hi none p2) v (.ref s3.heap.objs.size)) (EP X pins σ Q) X.xe { s3 with heap:=s3.heap.push { cls := .type "slice",data := .fields #[vl,vu,.none] } }
 exact tail_any (ops:=[.ref s3.heap.objs.size,v]) ht hT hg (by with_unfolding_all rfl)
def cutV (xs:List V) (lo hi:Option Int):List V:=(xs.drop (HT.sIx xs.length 0 lo)).take (HT.sIx xs.length xs.length hi - HT.sIx xs.length 0 lo)
end
end L2
namespace L2
open PySem PySem.Spec PyProof.Rows
def ixN (n:Nat) (i:Int):Option Nat:=if 0≤i then (if i<n then some i.toNat else none) else if -(n:Int)≤i then some (i+n).toNat else none
def atI {α:Type} (xs:List α) (i:Int):Option α:=(ixN xs.length i).bind fun j=>xs[j]?
theorem YbF {n:Nat} {i:Int} {j:Nat} (h:ixN n i=some j):seqIndex? i n=some j∧j<n ∧ -(n:Int)≤i∧i<n:=by
 unfold ixN at h
 by_cases h0:0≤i
 ·rw [if_pos h0] at h
  by_cases h1:i<n
  ·rw [if_pos h1] at h
   have e:i.toNat=j:=Option.some.inj h
   exact ⟨by rw [seqIndex_of h0 h1,e],by omega,by omega,h1⟩
  ·rw [if_neg h1] at h;cases h
 ·rw [if_neg h0] at h
  by_cases h1 : -(n:Int)≤i
  ·rw [if_pos h1] at h
   have e:(i+n).toNat=j:=Option.some.inj h
   exact ⟨by rw [seqIndex_neg (by omega) h1,e],by omega,h1,by omega⟩
  ·rw [if_neg h1] at h;cases h
theorem Vi {α:Type} {xs:List α} {i:Int} {v:α} (h:atI xs i=some v):∃ j,seqIndex? i xs.length=some j∧xs[j]?=some v∧j<xs.length ∧ -(xs.length:Int)≤i∧i<xs.length:=by
 unfold atI at h
 cases e:ixN xs.length i with
 | none=>rw [e] at h;cases h
 | some j =>
  rw [e] at h
  obtain ⟨h1,h2,h3,h4⟩:=YbF e
  exact ⟨j,h1,h,h2,h3,h4⟩
theorem Vj {α:Type} {xs:List α} {j:Nat} {v:α} (h:xs[j]?=some v):atI xs (j:Int)=some v:=by
 have hj:j<xs.length:=(List.getElem?_eq_some_iff.mp h).1
 have e:ixN xs.length (j:Int)=some j:=by
  unfold ixN
  rw [if_pos (by omega),if_pos (by omega)];simp
 unfold atI;rw [e];exact h
def YbG (b:Expr):Prop:=∀ o i,subscripted b false o i=operate [o,i] (getItem o i)
def IxR (X:Cx) (r:R2):Prop :=
 ∀ (value slice:Expr) (pins:List (Addr×Obj)) (s:Shared) (σ:St) (H:Hp) (x y:V) (v u:Value) (Q:VK),Inv X pins σ H s→Ym x v→Ym y u→r x y H Q →
  subscripted slice false v u=operate [v,u] (getItem v u)→wpAny (model X.prog X.w) X.A (subscriptTail value slice v u) (EP X pins σ Q) X.xe s
def MtR (X:Cx) (id:String) (r:V→List V→Hp→VK→Prop):Prop :=
 ∀ (pins:List (Addr×Obj)) (s:Shared) (σ:St) (H:Hp) (x:V) (xs:List V) (v:Value) (us:List Value) (Q:VK),Inv X pins σ H s→Ym x v→Yl xs us→r x xs H Q →
  wpAny (model X.prog X.w) X.A (call (.builtin id) (v::us)) (EP X pins σ Q) X.xe s
section
variable {X:Cx} {a b:Expr} {ta tb:TE} {pos:Pos}
theorem Xo {r:R2} (hr:IxR X r) (ha:PE X a ta) (hb:PE X b tb) (hs:YbG b):PE X (.Subscript a b pos) (tOp r ta tb):=by
 intro pins s σ H Q I h
 exact Subscript_ (binT ha hb I h fun v u s2 x y H2 I2 rx ry q=>hr a b pins s2 σ H2 x y v u Q I2 rx ry q (hs _ _))
def rIxL (K:PySem.W.Frag):R2:=fun x y H Q=>∃ p xs i v,x = .ref p∧y = .int i∧SqL K H p xs∧atI xs i=some v∧Q v H
def rIxT (K:PySem.W.Frag):R2:=fun x y H Q=>∃ p xs i v,x = .ref p∧y = .int i∧SqT K H p xs∧atI xs i=some v∧Q v H
def rIxS:R2:=fun x y H Q=>∃ z i c,x = .str z∧y = .int i∧z.length≤sizeLine∧atI z.cps.toList i=some c∧Q (.str ⟨#[c]⟩) H
theorem X7:IxR X (rIxL X.K):=by
 intro value slice pins s σ H x y v u Q I rx ry h hs
 obtain ⟨p,xs,i,z,rfl,rfl,hq,he,q⟩:=h
 cases rx
 obtain ⟨t,rfl⟩:=ry
 obtain ⟨its,r,pl,hz⟩:=I.list hq
 obtain ⟨j,h1,h2,h3,h4,h5⟩:=Vi he
 obtain ⟨w,ew,rw'⟩:=r.get h2
 have hl:=r.length
 have hn:=Ww
 have fin:EP X pins σ Q w s:=⟨z,H,I,rw',q⟩
 by_cases h0:0≤i
 ·have hj:i.toNat=j:=by
   rw [seqIndex_of h0 h5] at h1
   exact Option.some.inj h1
  exact item_listR pl.isList h0 (by omega) (by rw [hj];simpa using ew) fin hs
 ·have hj:(i+(its.toArray.size:Int)).toNat=j:=by
   rw [seqIndex_neg (by omega) h4] at h1
   rw [List.size_toArray,← hl]
   exact Option.some.inj h1
  exact subscriptTail_builtinR (x:=w) pl.isList.typeIs slot_list_getitem.lookup
   (wpAny_getItem_list_neg (Q:=fun r s'=>r=w∧EP X pins σ Q r s') pl.isList (by omega) (by rw [List.size_toArray]<;>omega) (by omega) (by rw [hj];simpa using ew) ⟨rfl,fin⟩) hs
theorem Wz:IxR X (rIxT X.K):=by
 intro value slice pins s σ H x y v u Q I rx ry h hs
 obtain ⟨p,xs,i,z,rfl,rfl,hq,he,q⟩:=h
 cases rx
 obtain ⟨t,rfl⟩:=ry
 obtain ⟨its,r,pl,hz⟩:=I.tuple hq
 obtain ⟨j,h1,h2,h3,h4,h5⟩:=Vi he
 obtain ⟨w,ew,rw'⟩:=r.get h2
 have hl:=r.length
 have hn:=Ww
 have fin:EP X pins σ Q w s:=⟨z,H,I,rw',q⟩
 exact subscriptTail_builtinR (x:=w) pl.typeIs slot_tuple_getitem.lookup
  (getItem_tuple (j:=j) (Q:=fun r s'=>r=w∧EP X pins σ Q r s') pl (by omega) (by omega) (by rw [List.size_toArray,← hl];exact h1) (by simpa using ew) ⟨rfl,fin⟩) hs
theorem Yck:IxR X rIxS:=by
 intro value slice pins s σ H x y v u Q I rx ry h hs
 obtain ⟨z,i,c,rfl,rfl,hz,he,q⟩:=h
 obtain ⟨t,rfl⟩:=rx
 obtain ⟨t',rfl⟩:=ry
 obtain ⟨j,h1,h2,h3,h4,h5⟩:=Vi he
 have hl:z.cps.toList.length=z.length:=by simp [Str.length]
 rw [hl] at h1 h4 h5
 have hn:=Ww
 exact tail_any (typeIs_str s z t) slot_str_getitem.lookup (getItem_str (c:=c) (by
  have e1:decide (i < -(2^63:Int))=false:=decide_eq_false (by omega)
  have e2:decide (i≥2^63)=false:=decide_eq_false (by omega)
  rw [e1,e2,Bool.or_false]) (by rw [h1];simpa using h2) ⟨.str ⟨#[c]⟩,H,I.tok _,⟨_,rfl⟩,q⟩) hs
theorem Inv.lst {pins:List (Addr×Obj)} {σ:St} {H:Hp} {s:Shared} {p:Addr} {xs:List V} (I:Inv X pins σ H s) (h:H p=some (.lst xs)) :
  ∃ (its:List Value) (n:Nat),Yl xs its∧s.heap.get? p=some { cls := .type "list",data := .seq its.toArray n }∧xs.length≤sizeLine:=by
 obtain ⟨z,its,n,r,e⟩:=I.hok p _ h
 exact ⟨its,n,r,e,z⟩
def rSetL:V→V→V→Hp→(Hp→Prop)→Prop:=fun o i v H Q=>∃ p xs k j,o = .ref p∧i = .int k∧H p=some (.lst xs)∧ixN xs.length k=some j∧Q (upd H p (.lst (xs.set j v)))
def rSlL (K:PySem.W.Frag):V→Option Int→Option Int→Hp→VK→Prop:=fun x lo hi H Q=>∃ a xs,x = .ref a∧SqL K H a xs∧∀ p,H p=none→Q (.ref p) (upd H p (.lst (cutV xs lo hi)))
def Ybc:V→Bool
 | .non=>true
 | .bl _=>true
 | .int _=>true
 | .str _=>true
 | _=>false
def eqV:V→V→Bool
 | .non,.non=>true
 | .bl a,.bl b=>a==b
 | .bl a,.int b=>(if a then 1 else 0)==b
 | .int a,.bl b=>a==(if b then 1 else 0)
 | .int a,.int b=>a==b
 | .str a,.str b=>a==b
 | _,_=>false
def inV (x:V) (xs:List V):Bool:=xs.any fun y=>eqV y x
def rIn (K:PySem.W.Frag) (neg:Bool):R2:=fun x y H Q=>∃ p xs,y = .ref p∧(SqL K H p xs∨SqT K H p xs)∧Ybc x=true∧xs.all Ybc=true∧Q (.bl (if neg then !inV x xs else inV x xs)) H
theorem Y0:X0 X (.builtin "len") (fun xs H Q=>∃ p ys,xs=[.ref p]∧(SqL X.K H p ys∨SqT X.K H p ys)∧Q (.int ys.length) H):=by
 intro pins s σ H xs us Q I r h
 obtain ⟨p,ys,rfl,hq,q⟩:=h
 obtain ⟨u,rfl,rx⟩:=Yba r
 cases rx
 have hn:=Ww
 rcases hq with hq | hq
 ·obtain ⟨its,r',pl,hz⟩:=I.list hq
  have hlen:=r'.length
  exact Calls.call_len_list pl.isList (by simp only [List.size_toArray]<;>omega) ⟨.int ys.length,H,I.tok _,⟨s.toks+1,by rw [List.size_toArray,hlen]⟩,q⟩
 ·obtain ⟨its,r',pl,hz⟩:=I.tuple hq
  have hlen:=r'.length
  exact len_tuple pl (by simp only [List.size_toArray]<;>omega) ⟨.int ys.length,H,I.tok _,⟨s.toks+1,by rw [List.size_toArray,hlen]⟩,q⟩
theorem Xb:X0 X (.builtin "len") (fun xs H Q=>∃ z,xs=[.str z]∧z.length≤sizeLine∧Q (.int z.length) H):=by
 intro pins s σ H xs us Q I r h
 obtain ⟨z,rfl,hz,q⟩:=h
 obtain ⟨u,rfl,t,rfl⟩:=Yba r
 have hn:=Ww
 exact len_str (by omega) ⟨.int z.length,H,I.tok _,⟨_,rfl⟩,q⟩
def tyV (K:PySem.W.Frag) (T:String) (x:V) (H:Hp):Prop:=match x with
 | .str _=>T="str"
 | .int _=>T="int"
 | .ref p=>(T="list"∧∃ xs,SqL K H p xs)∨(T="tuple"∧∃ o,K.lookup p=some o∧o.cls = .type "tuple"∧o.dict=none) ∨
   (T="dict"∧((∃ kvs,H p=some (.dK kvs))∨∃ kvs,H p=some (.dT kvs)))∨(T="set"∧∃ S n,H p=some (.set S n))
 | _=>False
theorem QY {pins:List (Addr×Obj)} {σ:St} {H:Hp} {s:Shared} {T:String} {x:V} {v:Value} (I:Inv X pins σ H s) (r:Ym x v) (ty:tyV X.K T x H) :
  s.TypeIs v T∧∀ a,v = .ref a→∃ ob,s.heap.get? a=some ob∧ob.dict=none:=by
 cases x with
 | str z =>
  obtain ⟨t,rfl⟩:=r
  cases (show T="str" from ty)
  exact ⟨typeIs_str s z t,fun _ e=>nomatch e⟩
 | int i =>
  obtain ⟨t,rfl⟩:=r
  cases (show T="int" from ty)
  exact ⟨typeIs_int s i t,fun _ e=>nomatch e⟩
 | ref p =>
  cases r
  rcases ty with ⟨rfl,xs,hq⟩ | ⟨rfl,o,hk,hc,hd⟩ | ⟨rfl,hk⟩ | ⟨rfl,S,n,hk⟩
  ·obtain ⟨its,_,pl,_⟩:=I.list hq
   refine ⟨pl.isList.typeIs,fun a e=>?_⟩
   cases e
   obtain ⟨o,n,e,c,hd,_⟩:=pl
   exact ⟨o,e,hd⟩
  ·refine ⟨⟨o,I.kIn p o hk,hc⟩,fun a e=>?_⟩
   cases e
   exact ⟨o,I.kIn _ o hk,hd⟩
  ·have z:∃ o,s.heap.get? p=some o∧o.ExactDict:=by
    rcases hk with ⟨kvs,hk⟩ | ⟨kvs,hk⟩
    ·obtain ⟨_,_,_,_,o,_,_,e,ex,_⟩:=I.hok p _ hk
     exact ⟨o,e,ex⟩
    ·obtain ⟨_,_,_,_,o,_,_,e,ex,_⟩:=I.hok p _ hk
     exact ⟨o,e,ex⟩
   obtain ⟨o,e,ex⟩:=z
   refine ⟨⟨o,e,ex.1⟩,fun a e2=>?_⟩
   cases e2
   exact ⟨o,e,ex.2.1⟩
  ·obtain ⟨o,_,_,_,e,ex,_⟩:=I.hok p _ hk
   refine ⟨⟨o,e,ex.1⟩,fun a e2=>?_⟩
   cases e2
   exact ⟨o,e,ex.2.1⟩
 | _=>exact False.elim ty
def tBM0 (K:PySem.W.Frag) (T:String) (r:V→List V→Hp→VK→Prop) (to:TE):TE:=fun σ H Q=>to σ H fun x H1=>tyV K T x H1∧r x [] H1 Q
def tBM (K:PySem.W.Frag) (T:String) (r:V→List V→Hp→VK→Prop) (to:TE) (t:TA):TE:=fun σ H Q=>to σ H fun x H1=>tyV K T x H1∧t σ H1 fun xs H2=>r x xs H2 Q
variable {o e:Expr} {es:List Expr} {to:TE} {t:TA} {name:Str} {apos cpos:Pos} {T id:String} {r:V→List V→Hp→VK→Prop}
theorem Ycl (pa:PlainAttrs T) (slot:Slot T name id) (hty:typeOf (.builtin id)=pure (.type "method_descriptor")) (hm:MtR X id r) (ho:PE X o to)
  (hbase:attributeBase o name X.env (eval o X.env)=eval o X.env) (hline:(apos.endLine==cpos.line)=true):PE X (.Call (.Attribute o name apos) [] [] cpos) (tBM0 X.K T r to):=by
 intro pins s σ H Q I h
 refine wpAny_Call_method0_late hbase hline (thn (ho pins s σ H _ I h) fun v s1 ⟨x,H1,I1,r1,ty,q1⟩=>?_)
 obtain ⟨h1,h2⟩:=QY I1 r1 ty
 exact ⟨T,id,pa,slot,hty,h1,h2,Calls.callWith_builtin rfl (PySem.evalArgs_none (hm pins s1 σ H1 x [] v [] Q I1 r1 .nil q1))⟩
theorem W4 (pa:PlainAttrs T) (slot:Slot T name id) (hty:typeOf (.builtin id)=pure (.type "method_descriptor")) (hm:MtR X id r) (ho:PE X o to) (ha:PA X (e::es) t)
  (hbase:attributeBase o name X.env (eval o X.env)=eval o X.env)
  (hfew:((backTo cpos (starEach (e::es) X.env)).all (fun x => !x.1)&&(backToKw cpos (keywordEach [] X.env)).all (fun x=>x.1.isSome)
   && decide ((e::es).length+([]:List Keyword).length+(if ([]:List Keyword).isEmpty then 0 else 1)<30))=true)
  (hline:(apos.endLine==cpos.line)=true) (hs:starEach (e::es) X.env=(false,eval e X.env)::starEach es X.env) (hplain:(backTo cpos (starEach es X.env)).any (·.1)=false) :
  PE X (.Call (.Attribute o name apos) (e::es) [] cpos) (tBM X.K T r to t):=by
 intro pins s σ H Q I h
 refine wpAny_Call_method_late hbase hfew hline rfl (thn (ho pins s σ H _ I h) fun v s1 ⟨x,H1,I1,r1,ty,q1⟩=>?_)
 obtain ⟨h1,h2⟩:=QY I1 r1 ty
 refine ⟨T,id,pa,slot,hty,h1,h2,?_⟩
 have hA:=ha cpos pins s1 σ H1 _ I1 q1
 rw [hs] at hA ⊢
 refine Calls.callWith_builtin (by show (false||(backTo cpos (starEach es X.env)).any (·.1))=false;rw [hplain]<;>rfl) (Calls.evalArgs_plain ?_)
 exact thn hA fun us s2 ⟨vs,H2,I2,r2,q2⟩=>hm pins s2 σ H2 x vs v us Q I2 r1 r2 q2
/- xs.append(e),list.index on a module's tuple .. are MtR facts of 06m -/
end
end L2
namespace L2
open PySem PySem.Spec PyProof.Rows
def MtM (X:Cx) (id:String) (r:V→List V→Hp→VK→Prop):Prop :=
 ∀ (pins:List (Addr×Obj)) (s:Shared) (σ:St) (H:Hp) (x:V) (xs:List V) (v:Value) (us:List Value) (Q:VK),Inv X pins σ H s→Ym x v→Yl xs us→r x xs H Q →
  wpAny (model X.prog X.w) X.A (call (.builtin id) (v::us)) (EP X pins σ Q) X.xe s
theorem Yl.one:∀ {x:V} {us:List Value},Yl [x] us→∃ u,us=[u]∧Ym x u
 | _,_,.cons r .nil=>⟨_,rfl,r⟩
theorem Yl.zero:∀ {us:List Value},Yl [] us→us=[]
 | _,.nil=>rfl
theorem Yl.reverse {xs:List V} {us:List Value} (h:Yl xs us):Yl xs.reverse us.reverse:=by
 induction h with
 | nil=>exact .nil
 | cons r t ih=>rw [List.reverse_cons,List.reverse_cons];exact Yl.append ih (.cons r .nil)
section
variable {X:Cx} {pins:List (Addr×Obj)} {σ:St} {H:Hp} {s:Shared} {l b:Addr} {xs ys zs:List V}
theorem Inv.lset {its its':List Value} {n:Nat} {f:Array Value→Array Value} {t':Nat} (I:Inv X pins σ H s) (hH:H l=some (.lst xs))
  (e:s.heap.get? l=some { cls := .type "list",data := .seq its.toArray n }) (hf:f its.toArray=its'.toArray) (hv:Yl ys its') (hz:ys.length≤sizeLine) :
  Inv X pins σ (upd H l (.lst ys)) { s with heap:=s.heap.update l (Obj.mapSeq f),toks:=t' }:=by
 have q:=PySem.IsL.update e f
 rw [hf] at q
 refine I.write (x:=l) (e:=l) (by rw [hH];exact trivial) (.inl rfl) (fun b' u hb hu=>(Heap.get?_update_other s.heap (Obj.mapSeq f) (Ne.symm hb)).trans hu) ⟨_,q⟩ ?_
 exact ⟨hz,its',_,hv,q⟩
theorem Inv.lnew {its:List Value} {t':Nat} (I:Inv X pins σ H s) (hv:Yl ys its) (hz:ys.length≤sizeLine) :
  Inv X pins σ (upd H s.heap.objs.size (.lst ys)) { s with heap:=s.heap.push { cls := .type "list",data := .seq its.toArray },toks:=t' } :=
 I.laid (fun _ _ q=>Heap.get?_push_of_some _ q) (Nat.le_refl _) ⟨hz,its,0,hv,Heap.get?_push_size _ rfl⟩
theorem Inv.lstM (I:Inv X pins σ H s) (hH:H l=some (.lst xs)):xs.length≤sizeLine∧∃ (its:List Value) (n:Nat),Yl xs its∧xs.length=its.length∧s.heap.get? l=some { cls := .type "list",data := .seq its.toArray n }:=by
 obtain ⟨z,its,n,r,e⟩:=I.hok l _ hH
 exact ⟨z,its,n,r,r.length,e⟩
end
section
variable {X:Cx}
def US:V→List V→Hp→VK→Prop:=fun x vs H Q=>∃ l xs y,x = .ref l∧vs=[y]∧H l=some (.lst xs)∧xs.length<sizeLine∧Q .non (upd H l (.lst (xs++[y])))
theorem XC:MtM X "list.append" US:=by
 intro pins s σ H x vs v us Q I rx rv h
 obtain ⟨l,xs,y,rfl,rfl,hH,hz,q⟩:=h
 cases rx
 obtain ⟨u,rfl,ru⟩:=rv.one
 obtain ⟨z,its,n,r,hl,e⟩:=I.lstM hH
 refine call_meets F.slot_list_append ⟨_,e,rfl⟩ F.entry_list_append (F.args_list_append_2 _ _) (PySem.list_append l its.toArray n u (by rw [List.size_toArray];omega)) ⟨e,?_⟩
 refine ⟨.non,_,I.lset (its':=its++[u]) hH e (by simp) (r.append (.cons ru .nil)) ?_,rfl,q⟩
 rw [List.length_append,List.length_singleton]
 omega
def V5:V→List V→Hp→VK→Prop:=fun x vs H Q=>∃ l xs,x = .ref l∧vs=[]∧H l=some (.lst xs)∧Q .non (upd H l (.lst xs.reverse))
theorem Qp:MtM X "list.reverse" V5:=by
 intro pins s σ H x vs v us Q I rx rv h
 obtain ⟨l,xs,rfl,rfl,hH,q⟩:=h
 cases rx
 have hus:=rv.zero
 subst hus
 obtain ⟨z,its,n,r,hl,e⟩:=I.lstM hH
 refine call_meets F.slot_list_reverse ⟨_,e,rfl⟩ F.entry_list_reverse (F.args_list_reverse_1 _) (AutoSeq1.list_reverse_list_0 l its.toArray n (by rw [List.size_toArray];omega)) ⟨e,?_⟩
 refine ⟨.non,_,I.lset (its':=its.reverse) hH e (by simp) r.reverse ?_,rfl,q⟩
 rw [List.length_reverse]
 omega
def rCat:R2:=fun x y H Q=>∃ l b xs zs,x = .ref l∧y = .ref b∧H l=some (.lst xs)∧H b=some (.lst zs)∧xs.length+zs.length≤sizeLine∧∀ p,H p=none→Q (.ref p) (upd H p (.lst (xs++zs)))
end
section
variable {prog:Program} {w:World} {A:Around} {E:Value→Shared→Prop} {s:Shared}
end
section
variable {X:Cx}
end
end L2
namespace Att
open PySem PySem.W PySem.Calls PyProof.Rows
theorem W5 {P:Params} {h:Heap}:∀ (ns:List Int) (vs:List Value),WellAll P h vs (ns.map WData.int)→IntsAre vs ns:=by
 intro ns
 induction ns with
 | nil =>
  intro vs w
  rw [List.map_nil] at w
  cases w
  exact .nil
 | cons n ns ih =>
  intro vs w
  rw [List.map_cons] at w
  cases w with
  | cons a b =>
   cases a
   exact .cons _ _ (ih _ b)
theorem QZ {l:OpenLaw} {n:Nat} (hn:l.most=some n) {P:Params} {h:Heap} {args:List WData} {vals:List Value}
  (hpre:l.row.toRowW.claim.pre args=true) (hwl:WellAll P h vals args) :
  ∃ a vs ns,vals=[Value.ref a]∧args=[WData.list (ns.map WData.int)]∧h.get? a=some { cls := .type "list",data := .seq vs.toArray }∧IntsAre vs ns∧ns.length≤n:=by
 have hsh:WShape.hasAll [] args [.list .int]=true:=(pre_splitW hpre).1
 have hc:l.pre.holds [] { args:=args }=true:=(pre_splitW hpre).2
 obtain ⟨d,r,rfl,h1,h2⟩:=hasAllW_cons hsh
 obtain rfl:=hasAllW_nil h2
 obtain ⟨xs,rfl,h3⟩:=hasW_list h1
 obtain ⟨ns,rfl⟩:=items_int h3
 have hlen:ns.length≤n:=by
  unfold OpenLaw.pre at hc
  have h4:(WTm.not (.lt (.lit (.int (n:Int))) (.len (.arg 0)))).holds [] { args:=[.list (ns.map .int)] }=true:=by
   have h4:=(holds_andW hc).1
   rw [hn] at h4
   exact h4
  have h5:=condW_of h4 (w_not (w_lt w_lit (w_len_list (w_arg rfl))))
  rw [List.length_map] at h5
  refine Nat.le_of_not_lt fun q=>?_
  have q':(n:Int)<((ns.length:Nat):Int):=by omega
  first
   | (rw [decide_eq_true q'] at h5;exact absurd h5 (by decide))
   | (simp at h5;omega)
 cases hwl with
 | cons w1 w2 =>
  cases w2
  cases w1 with
  | list ho hall=>exact ⟨_,_,ns,rfl,rfl,ho,W5 ns _ hall,hlen⟩
theorem Q0 (l:OpenLaw) (args:List WData):l.row.toRowW.claim.post args (.bool true) args=true :=
 postW_of (r:=l.row.toRowW) (X:=(true==true))
  (show WShape.has [] (.bool true) .bool=true by first | rfl | decide | simp [WShape.has,WShape.arms,WShape.armsAll])
  (show (WTm.eq .res (.lit (.bool true))).value [] { args:=args,res:=some (.bool true),after:=args }=some (.bool (true==true)) from w_eq_bool (w_res rfl) w_lit) rfl
theorem attach_call {l:OpenLaw} {n:Nat} {q:Program} {loose:List Str} {XP:(Str→Option Value)→Heap→Prop} {YP:World→Heap→Prop} {d:DefRec}
  (hn:l.most=some n) (hdf:d.params.defaults=[])
  (call:∀ (w:World) (s₀ s₁:Shared) (mg mb:Str→Option Value) (fa:Addr) (o:Obj) (pm cd doc:Value) (a:Addr) (vs:List Value) (ns:List Int),
   Ground q loose [] XP w s₀ mg mb s₁.heap→YP w s₁.heap →
   s₁.heap.get? fa=some o→o.data = .func (docDef d.name d.params d.body d.scope pm cd doc)→s₁.heap.CodeRec cd d.name→mg d.name=some (.ref fa) →
   s₁.heap.get? a=some { cls := .type "list",data := .seq vs.toArray }→IntsAre vs ns→ns.length≤n→s₁.gens=#[] →
   codeAny (model l.prog w) callerA (.call (.ref fa) ⟨[.ref a],[]⟩) (fun r s'=>r = .ok (.ret (.bool true))∧OldK s₁.heap s'.heap∧s'.os=s₁.os∧AllBare s'.gens) s₁) :
  WalkO q loose XP YP l.row.toRowW d [] (fun f vs=>PySem.call f vs):=by
 intro w s₀ s₁ mg mb G Y fa o pm cd doc dV kV ho hd hcd hD hmg hg args vals as hpre hlay hrd hwl hlo
 obtain rfl:dV = .none:=Dflts.none hD hdf
 obtain rfl:kV = .none:=Dflts.noKw hD
 obtain ⟨a,vs,ns,rfl,rfl,hobj,hints,hlen⟩:=QZ hn hpre hwl
 refine enter_call (codeAny_mono (call w s₀ s₁ mg mb fa o pm cd doc a vs ns G Y ho (fd_plain hd) hcd hmg hobj hints hlen hg) fun r s' hq=>?_)
 obtain ⟨rfl,h2,h3,h4⟩:=hq
 exact ⟨.inl ⟨.bool true,.bool true,[],rfl,fun _=>rfl,.bool true,Q0 l _,fun _=>⟨List.Pairwise.nil,fun _ hm=>(nomatch hm)⟩⟩,h2,h3,h4⟩
section
variable {prog:Program} {w:World} {A:Around} {E:Value→Shared→Prop} {s:Shared} {K:Frag}
def ledger (h:Heap) (L d:Addr):List (Addr×Obj):=(List.range h.objs.size).filterMap fun a=>if a=L∨a=d then none else (h.get? a).map fun o=>(a,o)
end
end Att
namespace L2
open PySem PySem.Spec PyProof.Rows
theorem Vz:∀ {vs:List Value} {ns:List Int},IntsAre vs ns→Yl (ns.map V.int) vs
 | _,_,.nil => .nil
 | _,_,.cons n t h => .cons ⟨t,rfl⟩ (Vz h)
end L2
namespace L2
open PySem PySem.Spec PyProof.Rows
end L2
namespace L2
open PySem PySem.Spec PyProof.Rows
def YQ (s:Stmt) (j:Nat):Stmt:=match s with
 | .ClassDef _ _ _ body _ _ _ _ _ _ _=>body.getD j (.Pass ⟨0,0,0,0⟩)
 | _ => .Pass ⟨0,0,0,0⟩
def Yx (s:Stmt):Arguments:=match s with
 | .FunctionDef _ a _ _ _ _ _ _ _ _=>a
 | _=>{ posonlyargs:=[],args:=[],vararg:=none,kwonlyargs:=[],kw_defaults:=[],kwarg:=none,defaults:=[] }
def Yr (s:Stmt):List Stmt:=match s with
 | .FunctionDef _ _ b _ _ _ _ _ _ _=>b
 | _=>[]
def Yd (s:Stmt):Scope:=match s with
 | .FunctionDef _ _ _ _ _ _ sc _ _ _=>sc
 | _=>{ kind := .function,names:=[],isGenerator:=false,isCoroutine:=false }
abbrev CX0:CXT:=fun _ _ _ _ _ _=>False
abbrev E0:XK:=fun _ _ _=>False
theorem WR {X:Cx}:Xh CX0 X E0:=fun _ _ _ _ _ _ _ h=>h.elim
structure Fun (K:PySem.W.Frag) (x qual:Str) (st:Stmt) (f:Addr) (fd:FuncData):Prop where
 ex:∃ (oc:Value) (od:Option Addr) (kV doc pm:Value) (an:Option Addr) (cdv ct:Value) (osl:Array (Option Value)),
  fd=PySem.W.fnOf x qual (Yx st) (Yr st) (Yd st) .none kV doc pm an cdv ct∧K.lookup f=some ⟨oc,od,.func fd,osl⟩∧PySem.W.codeIn K cdv qual=true
 kp:PySem.W.keepIn K (.ref f)=true
section
variable {P:Program} {w:World} {K:PySem.W.Frag} {mg:Str→Option Value} {base:Heap}
theorem Fun.ok {x qual:Str} {st:Stmt} {f:Addr} {fd:FuncData} {N ps:List Str} {k:Nat} {sp:Sp} (F:Fun K x qual st f fd) (S:FnScope N ps (Yd st)) (len:∀ vs H Q E,sp vs H Q E→vs.length=ps.length)
  (hbody:∀ (cdv:Value) (A:Around) (outer:List Env) (s:Shared) (H:Hp) (vs:List V) (Q:VK) (E:XK),Room k (A.deeper (envOfC qual (Yd st) s.heap.objs.size f cdv))→sp vs H Q E →
   ∃ t,PSs (XE CX0 P w K mg base N qual (Yd st) f cdv A outer s H E).nox (Yr st) t∧t { nx:=fun _ H'=>Q .non H',rt:=Q } (YY N vs) H):FnOk P w K mg base CX0 (k+1) f fd ps sp:=by
 obtain ⟨oc,od,kV,doc,pm,an,cdv,ct,osl,rfl,lk,hcd⟩:=F.ex
 refine VQ lk hcd S len fun A outer s H vs Q E hr hsp=>?_
 obtain ⟨t,h,q⟩:=hbody cdv A outer s H vs Q E hr hsp
 exact ⟨t,h.nox,q⟩
theorem Fun.binds {x qual:Str} {st:Stmt} {f:Addr} {fd:FuncData} {ps:List Str} (F:Fun K x qual st f fd)
  (h:∀ (kV doc pm:Value) (an:Option Addr) (cdv ct:Value) (us:List Value),us.length=ps.length→bindArgs (PySem.W.fnOf x qual (Yx st) (Yr st) (Yd st) .none kV doc pm an cdv ct) ⟨us,[]⟩=pure (ps.zip us)):YA K fd ps []:=by
 obtain ⟨oc,od,kV,doc,pm,an,cdv,ct,osl,rfl,lk,hcd⟩:=F.ex
 exact .all (h kV doc pm an cdv ct)
theorem XO {x qual:Str} {st:Stmt} {f:Addr} {oc:Value} {od an:Option Addr} {osl:Array (Option Value)} {kV doc pm cdv ct:Value} (l:K.lookup f=some ⟨oc,od,.func (PySem.W.fnOf x qual (Yx st) (Yr st) (Yd st) .none kV doc pm an cdv ct),osl⟩)
  (c:PySem.W.codeIn K cdv qual=true) (k:PySem.W.keepIn K (.ref f)=true):Fun K x qual st f (PySem.W.fnOf x qual (Yx st) (Yr st) (Yd st) .none kV doc pm an cdv ct):=⟨⟨oc,od,kV,doc,pm,an,cdv,ct,osl,rfl,l,c⟩,k⟩
end
theorem VR {A:Around} {k:Nat} (hr:Room k A):A.units+1<cLine:=Nat.lt_of_le_of_lt (Nat.add_le_add_left (by decide:1≤64) _) hr.units
section
variable {X:Cx}
theorem pv (i:Nat) {x:Str} {pos:Pos} (hN:X.N[i]?=some x:=by rfl) (hv:Vis X.env.scope x:=by first | exact .inl rfl | exact .inr (.inl rfl) | exact .inr (.inr rfl)) (hd:(x==("__debug__":Str))=false:=by decide)
  (hcd:(x==("__classdict__":Str))=false:=by decide):PE X (.Name x pos) (Wq i):=QP hN hv hd hcd
end
theorem iteT {A B:Prop} (h:A):if true=true then A else B:=by
 rw [if_pos rfl]
 exact h
theorem WA {c A B:Prop} [Decidable c] (h1:c→A) (h2:¬ c→B):if c then A else B:=by
 by_cases h:c
 ·rw [if_pos h]
  exact h1 h
 ·rw [if_neg h]
  exact h2 h
def Yj (H H':Hp):Prop:=∀ b o,H b=some o→H' b=some o
theorem Yj.refl (H:Hp):Yj H H:=fun _ _ h=>h
theorem Yj.trans {H H1 H2:Hp} (a:Yj H H1) (b:Yj H1 H2):Yj H H2:=fun c o h=>b c o (a c o h)
theorem Yj.free {H H':Hp} (e:Yj H H') {l:Addr} (h:H' l=Option.none):H l=Option.none:=by
 cases q:H l with
 | none=>rfl
 | some o =>
  rw [e l o q] at h
  cases h
theorem Yj.seq {K:PySem.W.Frag} {H H':Hp} {a:Addr} {xs:List V} (e:Yj H H') (h:SqL K H a xs):SqL K H' a xs:=by
 rcases h with (h | ⟨o,h⟩) | h
 ·exact .inl (.inl (e _ _ h))
 ·exact .inl (.inr ⟨o,e _ _ h⟩)
 ·exact .inr h
end L2
namespace L2
open PySem PySem.Spec PyProof.Rows
section
variable {κ:Type} [DecidableEq κ]
def Y1 (kvs:List (κ×V)) (k:κ):Option V:=(kvs.find? fun kv=>decide (kv.1=k)).map (·.2)
def Xp (kvs:List (κ×V)) (k:κ) (v:V):List (κ×V) :=
 if (kvs.any fun kv=>decide (kv.1=k))=true then kvs.map (fun kv=>if kv.1=k then (kv.1,v) else kv) else kvs++[(k,v)]
def Ybd (kvs:List (κ×V)) (k:κ):List (κ×V):=kvs.filter fun kv=>decide (kv.1≠k)
theorem YR {p:κ×V} {r:List (κ×V)} {k:κ} (e:p.1=k):Y1 (p::r) k=some p.2:=by simp [Y1,List.find?_cons,e]
theorem YS {p:κ×V} {r:List (κ×V)} {k:κ} (e:¬ p.1=k):Y1 (p::r) k=Y1 r k:=by simp [Y1,List.find?_cons,e]
theorem Wj (k:κ):∀ kvs:List (κ×V),(kvs.any fun kv=>decide (kv.1=k))=(Y1 kvs k).isSome
 | []=>rfl
 | p::r=>by
  rw [List.any_cons]
  by_cases e:p.1=k
  ·simp only [YR e,decide_eq_true e,Bool.true_or,Option.isSome_some]
  ·rw [YS e,decide_eq_false e,Bool.false_or];exact Wj k r
theorem V6 (k j:κ) (y:V):∀ kvs:List (κ×V),Y1 (kvs.map fun kv=>if kv.1=k then (kv.1,y) else kv) j=(Y1 kvs j).map fun x=>if j=k then y else x
 | []=>rfl
 | p::r=>by
  have ih:=V6 k j y r
  rw [List.map_cons]
  by_cases h:p.1=k
  ·rw [if_pos h]
   by_cases e:p.1=j
   ·rw [YR (p:=(p.1,y)) e,YR e,Option.map_some,if_pos (e.symm.trans h)]
   ·rw [YS (p:=(p.1,y)) e,YS e,ih]
  ·rw [if_neg h]
   by_cases e:p.1=j
   ·rw [YR (p:=p) e,YR e,Option.map_some,if_neg (fun z=>h (e.trans z))]
   ·rw [YS (p:=p) e,YS e,ih]
theorem VA (k j:κ) (y:V):∀ kvs:List (κ×V),Y1 kvs k=none→Y1 (kvs++[(k,y)]) j=if j=k then some y else Y1 kvs j
 | [],_=>by
  by_cases e:k=j
  ·rw [if_pos e.symm];exact YR (p:=(k,y)) e
  ·rw [if_neg (fun z=>e z.symm)];exact YS (p:=(k,y)) e
 | p::r,hn=>by
  rw [List.cons_append]
  have hk:¬ p.1=k:=fun z=>by rw [YR z] at hn;cases hn
  rw [YS hk] at hn
  have ih:=VA k j y r hn
  by_cases e:p.1=j
  ·rw [YR e,YR e,if_neg (fun z=>hk (e.trans z))]
  ·rw [YS e,YS e,ih]
theorem YaC (kvs:List (κ×V)) (k j:κ) (y:V):Y1 (Xp kvs k y) j=if j=k then some y else Y1 kvs j:=by
 unfold Xp
 by_cases a:(kvs.any fun kv=>decide (kv.1=k))=true
 ·rw [if_pos a,V6]
  rw [Wj] at a
  by_cases e:j=k
  ·obtain ⟨x,hx⟩:=Option.isSome_iff_exists.mp a
   rw [if_pos e,e,hx,Option.map_some,if_pos rfl]
  ·rw [if_neg e]
   cases Y1 kvs j with
   | none=>rfl
   | some x=>rw [Option.map_some,if_neg e]
 ·rw [if_neg a]
  refine VA k j y kvs ?_
  rw [Wj] at a
  cases q:Y1 kvs k with
  | none=>rfl
  | some x=>rw [q] at a;exact (a rfl).elim
theorem WV (kvs:List (κ×V)) (k:κ) (v:V):(Xp kvs k v).length≤kvs.length+1:=by
 unfold Xp
 split
 ·rw [List.length_map];omega
 ·rw [List.length_append,List.length_cons,List.length_nil];omega
theorem YX.isSome_eq {o:Option V} {u:Option Value} (r:YX o u):o.isSome=u.isSome:=by
 cases o with
 | none=>cases u with
  | none=>rfl
  | some _=>exact (show False from r).elim
 | some _=>cases u with
  | none=>exact (show False from r).elim
  | some _=>rfl
theorem YX.getD {o:Option V} {u:Option Value} {d:V} {d':Value} (r:YX o u) (rd:Ym d d'):Ym (o.getD d) (u.getD d'):=by
 cases o with
 | none=>cases u with
  | none=>exact rd
  | some _=>exact (show False from r).elim
 | some _=>cases u with
  | none=>exact (show False from r).elim
  | some _=>exact r
theorem KV.val {kvs:List (κ×V)} {vs:List (κ×Value)} (r:KV kvs vs) (k:κ):YX (Y1 kvs k) (valueAt vs k):=by
 unfold KV at r
 induction r with
 | nil=>exact True.intro
 | @cons p q ps qs h t ih =>
  obtain ⟨h1,h2⟩:=h
  by_cases e:p.1=k
  ·have e':q.1=k:=h1.symm.trans e
   have b:valueAt (q::qs) k=some q.2:=by simp [valueAt,List.find?_cons,e']
   rw [YR e,b];exact h2
  ·have e':¬ q.1=k:=fun z=>e (h1.trans z)
   have b:valueAt (q::qs) k=valueAt qs k:=by simp [valueAt,List.find?_cons,e']
   rw [YS e,b];exact ih
theorem KV.any {kvs:List (κ×V)} {vs:List (κ×Value)} (r:KV kvs vs) (k:κ):(kvs.any fun kv=>decide (kv.1=k))=vs.any fun kv=>decide (kv.1=k):=by
 unfold KV at r
 induction r with
 | nil=>rfl
 | cons h t ih=>rw [List.any_cons,List.any_cons,ih,h.1]
theorem KV.repl {kvs:List (κ×V)} {vs:List (κ×Value)} (r:KV kvs vs) (k:κ) {y:V} {u:Value} (ry:Ym y u) :
  KV (kvs.map fun kv=>if kv.1=k then (kv.1,y) else kv) (vs.map fun kv=>if kv.1=k then (kv.1,u) else kv):=by
 unfold KV at r ⊢
 induction r with
 | nil=>exact .nil
 | @cons p q ps qs h t ih =>
  rw [List.map_cons,List.map_cons]
  refine .cons ?_ ih
  obtain ⟨h1,h2⟩:=h
  by_cases e:p.1=k
  ·rw [if_pos e,if_pos (h1.symm.trans e)];exact ⟨h1,ry⟩
  ·rw [if_neg e,if_neg (fun z=>e (h1.trans z))];exact ⟨h1,h2⟩
theorem KV.put {kvs:List (κ×V)} {vs:List (κ×Value)} (r:KV kvs vs) (k:κ) {y:V} {u:Value} (ry:Ym y u):KV (Xp kvs k y) (stored vs k u):=by
 unfold Xp stored
 rw [r.any k]
 by_cases e:(vs.any fun kv=>decide (kv.1=k))=true
 ·rw [if_pos e,if_pos e];exact r.repl k ry
 ·rw [if_neg e,if_neg e];exact Paired.snoc r ⟨rfl,ry⟩
theorem KV.drop {kvs:List (κ×V)} {vs:List (κ×Value)} (r:KV kvs vs) (k:κ):KV (Ybd kvs k) (without vs k):=by
 unfold KV at r ⊢
 unfold Ybd without
 induction r with
 | nil=>exact .nil
 | @cons p q ps qs h t ih =>
  obtain ⟨h1,h2⟩:=h
  rw [List.filter_cons,List.filter_cons]
  by_cases e:p.1=k
  ·have a:¬ decide (p.1≠k)=true:=by simp [e]
   have b:¬ decide (q.1≠k)=true:=by simp [h1.symm.trans e]
   rw [if_neg a,if_neg b];exact ih
  ·have e':¬ q.1=k:=fun z=>e (h1.trans z)
   have a:decide (p.1≠k)=true:=by simp [e]
   have b:decide (q.1≠k)=true:=by simp [e']
   rw [if_pos a,if_pos b];exact .cons ⟨h1,h2⟩ ih
theorem KV.keys {kvs:List (κ×V)} {vs:List (κ×Value)} (r:KV kvs vs):kvs.map (·.1)=vs.map (·.1):=by
 unfold KV at r
 induction r with
 | nil=>rfl
 | cons h t ih=>rw [List.map_cons,List.map_cons,ih,h.1]
theorem KV.length {kvs:List (κ×V)} {vs:List (κ×Value)} (r:KV kvs vs):kvs.length=vs.length:=Paired.length r
end
theorem WS {P:Program} {w:World} {k:Key} {u:Value} (r:Ym (kV k) u):(YH P w).is k u=true:=by
 cases k with
 | inl i=>obtain ⟨t,e⟩:=(show ∃ t,u=Value.int i t from r);subst e;exact UA P w i t
 | inr x=>obtain ⟨t,e⟩:=(show ∃ t,u=Value.str x t from r);subst e;exact UB P w x t
theorem VB {P:Program} {w:World}:∀ {ks:List Key} {us:List Value},Yl (ks.map kV) us→ItemsAre (YH P w) ks us
 | [],_,r=>by rw [List.map_nil] at r;cases r;exact .nil
 | k::ks,_,r=>by
  rw [List.map_cons] at r
  cases r with
  | cons h t=>exact .cons (WS h) (VB t)
abbrev KT (H:Hp):List (List Key×V)→List (List Key×Addr×Value)→Prop:=Paired fun p q=>p.1=q.1∧H q.2.1=some (.tup (p.1.map kV))∧Ym p.2 q.2.2
theorem KT.val {H:Hp} {kvs:List (List Key×V)} {xs:List (List Key×Addr×Value)} (r:KT H kvs xs) (k:List Key):YX (Y1 kvs k) ((atKey xs k).map (·.2)):=by
 induction r with
 | nil=>exact True.intro
 | @cons p q ps qs h t ih =>
  obtain ⟨h1,_,h2⟩:=h
  by_cases e:p.1=k
  ·have e':q.1=k:=h1.symm.trans e
   have b:atKey (q::qs) k=some q.2:=by simp [atKey,List.find?_cons,e']
   rw [YR e,b];exact h2
  ·have e':¬ q.1=k:=fun z=>e (h1.trans z)
   have b:atKey (q::qs) k=atKey qs k:=by simp [atKey,List.find?_cons,e']
   rw [YS e,b];exact ih
theorem KT.repl {H:Hp} {kvs:List (List Key×V)} {xs:List (List Key×Addr×Value)} (r:KT H kvs xs) (k:List Key) {y:V} {u:Value} (ry:Ym y u) :
  KT H (kvs.map fun kv=>if kv.1=k then (kv.1,y) else kv) (xs.map (putAt k u)):=by
 induction r with
 | nil=>exact .nil
 | @cons p q ps qs h t ih =>
  rw [List.map_cons,List.map_cons]
  refine .cons ?_ ih
  obtain ⟨h1,h2,h3⟩:=h
  unfold putAt
  by_cases e:p.1=k
  ·rw [if_pos e,if_pos (h1.symm.trans e)];exact ⟨h1,h2,ry⟩
  ·rw [if_neg e,if_neg (fun z=>e (h1.trans z))];exact ⟨h1,h2,h3⟩
theorem KT.put {H:Hp} {kvs:List (List Key×V)} {xs:List (List Key×Addr×Value)} (r:KT H kvs xs) (k:List Key) {b:Addr} {y:V} {u:Value} (hb:H b=some (.tup (k.map kV))) (ry:Ym y u) :
  KT H (Xp kvs k y) (storedH xs k b u):=by
 have e:(kvs.any fun kv=>decide (kv.1=k))=(atKey xs k).isSome:=by
  rw [Wj,(r.val k).isSome_eq,Option.isSome_map]
 unfold Xp storedH
 rw [e]
 by_cases q:(atKey xs k).isSome=true
 ·rw [if_pos q,if_pos q];exact r.repl k ry
 ·rw [if_neg q,if_neg q];exact Paired.snoc r ⟨rfl,hb,ry⟩
theorem KT.keeps {H H':Hp} {kvs:List (List Key×V)} {xs:List (List Key×Addr×Value)} (r:KT H kvs xs) (ht:∀ b ys,H b=some (.tup ys)→H' b=some (.tup ys)):KT H' kvs xs :=
 Paired.mapP r fun _ _ z=>⟨z.1,ht _ _ z.2.1,z.2.2⟩
section
variable {P:Program} {w:World} {H:Hp} {h:Heap} {a:Addr}
theorem Ybe {u:HO} (ok:HOk P w H h) (e:Rd H a u):Yu P w H h a u:=e.ok ok
theorem VS {kvs:List (Key×V)} (ok:HOk P w H h) (e:Rd H a (.dK kvs)):kvs.length≤sizeLine∧(a==sysModules)=false∧∃ vs,KV kvs vs∧h.DictOf (YH P w) a vs :=
 show Yu P w H h a (.dK kvs) from Ybe ok e
theorem dk_of {kvs:List (Key×V)} (ok:HOk P w H h) (e:H a=some (.dK kvs)):kvs.length≤sizeLine∧(a==sysModules)=false∧∃ vs,KV kvs vs∧h.DictOf (YH P w) a vs:=VS ok (.inl e)
theorem W6 {ks:List Key} (ok:HOk P w H h) (e:H a=some (.tup (ks.map kV))):(tupleKind (YH P w)).is h ks a:=by
 obtain ⟨_,its,r,o,h1,h2,n,h3⟩:=(show Yu P w H h a (.tup (ks.map kV)) from ok a _ e)
 exact ⟨o,its.toArray,n,h1,h2,h3,by simpa using VB r⟩
theorem VT {kvs:List (List Key×V)} (ok:HOk P w H h) (e:Rd H a (.dT kvs)):kvs.length≤sizeLine∧(a==sysModules)=false ∧
  ∃ xs,KT H kvs xs∧h.DictOfH (tupleKind (YH P w)) a xs:=by
 obtain ⟨z,y,xs,r,o,es,ep,h1,h2,h3,h4,h5⟩:=(show Yu P w H h a (.dT kvs) from Ybe ok e)
 refine ⟨z,y,xs,r,o,es,ep,h1,h2,h3,h4,fun x hx=>?_,h5⟩
 have all:∀ {l:List (List Key×V)} {m:List (List Key×Addr×Value)},KT H l m→∀ x∈m,(tupleKind (YH P w)).is h x.1 x.2.1:=by
  intro l m q
  induction q with
  | nil=>intro x hx;exact nomatch hx
  | @cons p q ps qs hq t ih =>
   intro x hx
   rcases List.mem_cons.mp hx with e | hx
   ·subst e
    exact W6 ok (by rw [← hq.1];exact hq.2.1)
   ·exact ih x hx
 exact all r x hx
theorem dt_of {kvs:List (List Key×V)} (ok:HOk P w H h) (e:H a=some (.dT kvs)):kvs.length≤sizeLine∧(a==sysModules)=false ∧
  ∃ xs,KT H kvs xs∧h.DictOfH (tupleKind (YH P w)) a xs:=VT ok (.inl e)
end
def XQ (H:Hp) (a:Addr) (y:V) (r:Option V):Prop :=
 (∃ kvs k,Rd H a (.dK kvs)∧y=kV k∧r=Y1 kvs k)∨∃ kvs k b,Rd H a (.dT kvs)∧y = .ref b∧H b=some (.tup (k.map kV))∧r=Y1 kvs k
def V7 (H:Hp) (a:Addr) (y v:V) (H':Hp):Prop :=
 (∃ kvs k,H a=some (.dK kvs)∧y=kV k∧kvs.length<sizeLine∧H'=upd H a (.dK (Xp kvs k v))) ∨
 ∃ kvs k b,H a=some (.dT kvs)∧y = .ref b∧H b=some (.tup (k.map kV))∧kvs.length<sizeLine∧H'=upd H a (.dT (Xp kvs k v))
theorem XQ.t {H:Hp} {a b:Addr} {kvs:List (List Key×V)} {k:List Key} (e:H a=some (.dT kvs)) (eb:H b=some (.tup (k.map kV))):XQ H a (.ref b) (Y1 kvs k) := .inr ⟨kvs,k,b,.inl e,rfl,eb,rfl⟩
theorem V7.t {H:Hp} {a b:Addr} {kvs:List (List Key×V)} {k:List Key} {v:V} (e:H a=some (.dT kvs)) (eb:H b=some (.tup (k.map kV))) (hl:kvs.length<sizeLine) :
  V7 H a (.ref b) v (upd H a (.dT (Xp kvs k v))) := .inr ⟨kvs,k,b,e,rfl,eb,hl,rfl⟩
section
variable {X:Cx} {pins:List (Addr×Obj)} {σ:St} {H:Hp} {s:Shared} {a:Addr} {y v:V} {u r:Value} {o:Option V} {A:Around} {E:Value→Shared→Prop}
theorem Inv.big (I:Inv X pins σ H s):sysModules<s.heap.objs.size:=by
 have h:mainGlobals<s.heap.objs.size:=(I.mod.glob.keeps I.bk).lt
 exact Nat.lt_trans (by decide) h
theorem Q1 {Q:Value→Shared→Prop} (hu:A.units+1<cLine) (I:Inv X pins σ H s) (g:XQ H a y (some v)) (ry:Ym y u) (h:∀ w' s',Inv X pins σ H s'→Ym v w'→Q w' s') :
  wpAny (model X.prog X.w) A (getItem (.ref a) u) Q E s:=by
 rcases g with ⟨kvs,k,e,ey,l⟩ | ⟨kvs,k,b,e,ey,eb,l⟩
 ·subst ey
  obtain ⟨z,hd,vs,rel,dd⟩:=VS I.hok e
  obtain ⟨w',hw,rw'⟩:=YX.some_of (v:=v) (o:=valueAt vs k) (by rw [l];exact rel.val k)
  exact wpAny_getItem_of (WS ry) dd.mapOf hw (h w' _ (I.tok _) rw')
 ·subst ey
  cases (show u=Value.ref b from ry)
  obtain ⟨z,hd,xs,rel,dd⟩:=VT I.hok e
  obtain ⟨w',hw,rw'⟩:=YX.some_of (v:=v) (o:=(atKey xs k).map (·.2)) (by rw [l];exact rel.val k)
  obtain ⟨p,hp,hp2⟩:=Option.map_eq_some_iff.mp hw
  refine wpAny_getItem_heap (tupleKind_room_in1 hu) (W6 I.hok eb) dd hp ?_
  rw [hp2]
  exact h w' _ (I.tok _) rw'
theorem YbH {Q:Value→Shared→Prop} (hu:A.units+1<cLine) (I:Inv X pins σ H s) (g:XQ H a y o) (ry:Ym y u) (h:∀ s',Inv X pins σ H s'→Q (.bool (!o.isSome)) s') :
  wpAny (model X.prog X.w) A (compareOp .NotIn u (.ref a)) Q E s:=by
 rcases g with ⟨kvs,k,e,ey,l⟩ | ⟨kvs,k,b,e,ey,eb,l⟩
 ·subst ey
  obtain ⟨z,hd,vs,rel,dd⟩:=VS I.hok e
  refine wpAny_notIn_of (WS ry) hd dd.mapOf ?_
  rw [← (rel.val k).isSome_eq,← l]
  exact h _ (I.tok _)
 ·subst ey
  cases (show u=Value.ref b from ry)
  obtain ⟨z,hd,xs,rel,dd⟩:=VT I.hok e
  refine wpAny_notIn_heap (tupleKind_room_in1 hu) (W6 I.hok eb) hd dd ?_
  have q:=(rel.val k).isSome_eq
  rw [Option.isSome_map] at q
  rw [← q,← l]
  exact h _ (I.tok _)
theorem UT {h':Heap} {t':Nat} {ob:HO} (I:Inv X pins σ H s) (mu:Mut (H a)) (hs:Heap.SameBut a s.heap h') (he:∃ q,h'.get? a=some q) (new:Yu X.prog X.w (upd H a ob) h' a ob) :
  Inv X pins σ (upd H a ob) { s with heap:=h',toks:=t' } :=
 I.write (x:=a) (e:=a) mu (.inl rfl) (fun b q hb z=>(hs.2 b hb).trans z) he new
theorem Ycm {P:Program} {w:World} {H':Hp} {h':Heap} {kvs:List (Key×V)} {vs:List (Key×Value)} (z:kvs.length≤sizeLine) (hd:(a==sysModules)=false) (rel:KV kvs vs) (dd:h'.DictOf (YH P w) a vs) :
  Yu P w H' h' a (.dK kvs):=⟨z,hd,vs,rel,dd⟩
theorem Q2 {H':Hp} {Q:Unit→Shared→Prop} (hu:A.units+1<cLine) (I:Inv X pins σ H s) (g:V7 H a y v H') (ry:Ym y u) (rv:Ym v r) (h:∀ s',Inv X pins σ H' s'→Q () s') :
  wpAny (model X.prog X.w) A (setItem (.ref a) u r) Q E s:=by
 rcases g with ⟨kvs,k,e,ey,l,eH⟩ | ⟨kvs,k,b,e,ey,eb,l,eH⟩
 ·subst ey eH
  obtain ⟨z,hd,vs,rel,dd⟩:=dk_of I.hok e
  have hz:vs.length≤sizeLine:=by rw [← rel.length];exact z
  have hl:(Xp kvs k v).length≤sizeLine:=by have:=WV kvs k v;omega
  refine wpAny_setItem_pairs (hsz:=hz) (WS ry) dd fun h' dd' hs=>h _ ?_
  have he:∃ q,h'.get? a=some q:=let ⟨q,_,_,hq,_⟩:=dd';⟨q,hq⟩
  exact UT I (by rw [e];exact True.intro) hs he (Ycm hl hd (rel.put k rv) dd')
 ·subst ey eH
  cases (show u=Value.ref b from ry)
  obtain ⟨z,hd,xs,rel,dd⟩:=dt_of I.hok e
  have hz:xs.length≤sizeLine:=by rw [← Paired.length rel];exact z
  have hl:(Xp kvs k v).length≤sizeLine:=by have:=WV kvs k v;omega
  refine wpAny_setItem_heap (hsz:=hz) (tupleKind_room_in1 hu) (W6 I.hok eb) dd fun h' dd' hs=>h _ ?_
  obtain ⟨q,es,ep,hq,h2,h3,h4,_,h5⟩:=dd'
  refine UT I (by rw [e];exact True.intro) hs ⟨q,hq⟩ ⟨hl,hd,_,(rel.put k eb rv).keeps fun c ys ec=>?_,q,es,ep,hq,h2,h3,h4,h5⟩
  rw [Yb (YN ec e (fun z=>nomatch z))]
  exact ec
end
section
variable {X:Cx} {pins:List (Addr×Obj)} {σ:St} {H:Hp} {s:Shared} {a:Addr} {kvs:List (Key×V)} {k:Key} {u:Value} {A:Around} {E:Value→Shared→Prop}
end
def NoSl (i:Expr):Prop:=∀ ov iv,subscripted i false ov iv=operate [ov,iv] (getItem ov iv)
theorem YbI {prog:Program} {w:World} {A:Around} {E:Value→Shared→Prop} {s:Shared} {env:Env} {value slice:Expr} {pos:Pos} {T id:String} {Q:Value→Shared→Prop}
  (hl:typeLookup (.type T) "__getitem__"=pure (some (.builtin id))) (hs:NoSl slice)
  (h:wpAny (model prog w) A (eval value env) (fun o s₁=>wpAny (model prog w) A (eval slice env) (fun i s₂=>s₂.TypeIs o T∧wpAny (model prog w) A (getItem o i) Q E s₂) E s₁) E s) :
  wpAny (model prog w) A (eval (.Subscript value slice pos) env) Q E s:=by
 refine Subscript_ (wpAny_mono h (fun o s₁ h₁=>wpAny_mono h₁ (fun i s₂ h₂=>?_) fun _ _ x=>x) fun _ _ x=>x)
 obtain ⟨hT,h₂⟩:=h₂
 unfold subscriptTail
 refine wpAny_bind ?_
 rw [getitemInPython_of_ne hT.not_modules]
 refine wpAny_bind (wpAny_specialOf hT hl ?_)
 have fin:wpAny (model prog w) A (subscripted slice false o i) (fun r s₃=>wpAny (model prog w) A (letTemporaryGo value o r >>= fun _=>pure r) Q E s₃) E s₂:=by
  rw [hs o i]
  exact wpAny_operating (wpAny_mono h₂ (fun r s₃ h₃=>wpAny_bind (wpAny_letTemporaryGo (wpAny_pure h₃))) fun _ _ x=>x)
 first
  | exact wpAny_pure (wpAny_bind fin)
  | exact wpAny_bind (wpAny_pure (wpAny_bind fin))
  | exact wpAny_bind fin
theorem UC {X:Cx} {pins:List (Addr×Obj)} {σ:St} {H:Hp} {s:Shared} {a:Addr} {y:V} {o:Option V} (I:Inv X pins σ H s) (g:XQ H a y o):s.TypeIs (.ref a) "dict":=by
 rcases g with ⟨kvs,k,e,_,_⟩ | ⟨kvs,k,b,e,_,_,_⟩
 ·obtain ⟨_,_,vs,_,dd⟩:=VS I.hok e
  exact dd.typeIs
 ·obtain ⟨_,_,xs,_,dd⟩:=VT I.hok e
  exact dd.typeIs
def Ybf (td ty:TE):TE:=fun σ H Q=>td σ H fun x H1=>ty σ H1 fun y H2=>∃ a v,x = .ref a∧XQ H2 a y (some v)∧Q v H2
def Ybg (td ty tv:TE):TS:=fun D σ H=>tv σ H fun v H1=>td σ H1 fun x H2=>ty σ H2 fun y H3=>∃ a H4,x = .ref a∧V7 H3 a y v H4∧D.nx σ H4
section
variable {X:Cx} {o i e value:Expr} {pos pos' tpos:Pos} {td ty tv:TE}
theorem YbJ (hu:X.A.units+1<cLine) (ho:PE X o td) (hi:PE X i ty) (hs:NoSl i):PE X (.Subscript o i pos) (Ybf td ty):=by
 intro pins s σ H Q I h
 refine YbI PySem.F.slot_dict_getitem.lookup hs (thn (ho pins s σ H _ I h) fun u s1 ⟨x,H1,I1,rx,q1⟩=>thn (hi pins s1 σ H1 _ I1 q1) fun iv s2 ⟨y,H2,I2,ry,a,v,ex,g,q2⟩=>?_)
 subst ex
 obtain rfl:u=Value.ref a:=rx
 exact ⟨UC I2 g,Q1 hu I2 g ry fun w' s3 I3 rw'=>⟨v,H2,I3,rw',q2⟩⟩
theorem YbK (hu:X.A.units+1<cLine) (ho:PE X o td) (hi:PE X i ty) (hv:PE X value tv) (hs:swapsWith value (some (.Subscript o i pos')) pos.line X.env=pure false) :
  PS X (.Assign [.Subscript o i pos'] value pos) (Ybg td ty tv):=by
 intro pins s σ H D I h
 refine wpAny_Assign_Subscript (thn (hv pins s σ H _ I h) fun r s1 ⟨v,H1,I1,rv,q1⟩=>thn (ho pins s1 σ H1 _ I1 q1) fun u s2 ⟨x,H2,I2,rx,q2⟩=>thn (hi pins s2 σ H2 _ I2 q2) fun iv s3 ⟨y,H3,I3,ry,a,H4,ex,g,q3⟩=>?_) hs
 subst ex
 obtain rfl:u=Value.ref a:=rx
 exact Q2 hu I3 g ry rv fun s4 I4=>⟨σ,H4,I4,q3⟩
end
theorem YaD {P:Program} {w:World} {H:Hp} (h:Heap) (hb:sysModules<h.objs.size):Yu P w H (h.push { cls := .type "dict",data := .dict #[] }) h.objs.size (.dT []) :=
 ⟨Nat.zero_le _,beq_eq_false_iff_ne.mpr (Ne.symm (Nat.ne_of_lt hb)),[],.nil,_,#[],0,Heap.get?_push_size _ rfl,⟨rfl,rfl,rfl⟩,rfl,rfl,List.nodup_nil⟩
def Q3:TE:=fun _ H Q=>∀ p,H p=none→Q (.ref p) (upd H p (.dT []))
section
variable {X:Cx} {pos:Pos}
theorem YaE:PE X (.Dict [] [] pos) Q3:=fun pins s σ H Q I h =>
 wpAny_Dict_empty ⟨.ref s.heap.objs.size,_,I.laid (a:=s.heap.objs.size) (o := .dT []) (t':=s.toks) (fun _ _ q=>Heap.get?_push_of_some _ q) (Nat.le_refl _) (YaD s.heap I.big),rfl,h _ (I.hok.fresh (Nat.le_refl _))⟩
end
section
variable {X:Cx} {pins:List (Addr×Obj)} {σ:St} {H:Hp} {s:Shared} {a:Addr} {y d:V} {u r:Value} {o:Option V} {A:Around} {E:Value→Shared→Prop}
end
section
variable {X:Cx} {o e f:Expr} {apos cpos:Pos} {td ty tx:TE}
end
section
variable {X:Cx} {pins:List (Addr×Obj)} {σ:St} {H:Hp} {s:Shared} {a:Addr} {kvs:List (Key×V)} {A:Around} {E:Value→Shared→Prop}
end
section
variable {X:Cx} {pins:List (Addr×Obj)} {σ:St} {H:Hp} {s:Shared} {a:Addr} {y:V} {u:Value} {A:Around} {E:Value→Shared→Prop}
end
end L2
namespace L2
open PySem PySem.Spec PyProof.Rows
theorem XR (env:Env):∀ (names:List (Str×NameKind)) (cs:List (Str×Addr)),(∀ x,(x,NameKind.free)∈names→∃ c,env.cells.lookup x=some c) →
  ∃ cl,(forIn names cs fun (p:Str×NameKind) (cs:List (Str×Addr))=>(if (p.2==NameKind.free)=true then (do let c ← cellOf env p.1;pure (ForInStep.yield ((p.1,c)::cs))) else pure (ForInStep.yield cs):Sem (ForInStep (List (Str×Addr)))))=pure cl ∧
   (∀ x c,cl.lookup x=some c→env.cells.lookup x=some c∨cs.lookup x=some c)∧(∀ x,(x,NameKind.free)∈names→∃ c,cl.lookup x=some c)∧(∀ x c,cs.lookup x=some c→∃ d,cl.lookup x=some d)
 | [],cs,_=>⟨cs,by simp,fun _ _ h => .inr h,(fun _ h=>nomatch h),fun x c h=>⟨c,h⟩⟩
 | (n,k)::r,cs,h=>by
  by_cases hk:k=NameKind.free
  ·subst hk
   obtain ⟨c,hc⟩:=h n (List.mem_cons_self ..)
   obtain ⟨cl,e,a,b,d⟩:=XR env r ((n,c)::cs) (fun x hx=>h x (List.mem_cons_of_mem _ hx))
   have hcell:cellOf env n=pure c:=by unfold cellOf;rw [hc]
   refine ⟨cl,?_,fun x c' hx=>?_,fun x hx=>?_,fun x c' hx=>?_⟩
   ·rw [List.forIn_cons]
    simp only [beq_self_eq_true,if_true,hcell,pure_bind]
    exact e
   ·rcases a x c' hx with q | q
    ·exact .inl q
    ·rw [List.lookup_cons] at q
     by_cases hxn:(x==n)=true
     ·rw [hxn] at q
      have hx':x=n:=by simpa using hxn
      subst hx'
      have:c=c':=by simpa using q
      subst this
      exact .inl hc
     ·rw [Bool.eq_false_iff.mpr hxn] at q
      exact .inr q
   ·rcases List.mem_cons.mp hx with q | q
    ·have hx':x=n:=congrArg Prod.fst q
     subst hx'
     exact d x c (by rw [List.lookup_cons];simp)
    ·exact b x q
   ·have:∃ d',((n,c)::cs).lookup x=some d':=by
     rw [List.lookup_cons]
     by_cases hxn:(x==n)=true
     ·rw [hxn];exact ⟨c,rfl⟩
     ·rw [Bool.eq_false_iff.mpr hxn];exact ⟨c',hx⟩
    obtain ⟨d',hd'⟩:=this
    exact d x d' hd'
  ·obtain ⟨cl,e,a,b,d⟩:=XR env r cs (fun x hx=>h x (List.mem_cons_of_mem _ hx))
   have hkf:(k==NameKind.free)=false:=by simpa using hk
   refine ⟨cl,?_,a,fun x hx=>?_,d⟩
   ·rw [List.forIn_cons]
    simp only [hkf,Bool.false_eq_true,if_false,pure_bind]
    exact e
   ·rcases List.mem_cons.mp hx with q | q
    ·exact absurd (congrArg Prod.snd q).symm hk
    ·exact b x q
theorem Qq (env:Env) (scope:Scope) (h:∀ x,(x,NameKind.free)∈scope.names→∃ c,env.cells.lookup x=some c) :
  ∃ cl,closureFor scope env=pure cl∧(∀ x c,cl.lookup x=some c→env.cells.lookup x=some c)∧(∀ x,(x,NameKind.free)∈scope.names→∃ c,cl.lookup x=some c):=by
 obtain ⟨cl,e,a,b,_⟩:=XR env scope.names [] h
 refine ⟨cl,?_,fun x c hx=>(a x c hx).elim id (fun z=>by simp at z),b⟩
 unfold closureFor
 simp only [bind_pure]
 exact e
def cxC (X:Cx) (scope:Scope) (N':List Str) (cl:List (Str×Addr)) (C:Addr) (s₀:Shared) (H₀:Hp) (fp:List Addr) (pn:List (Addr×Obj)):Cx :=
 { X with N:=N',s₀:=s₀,H₀:=H₀,env:=compEnvC scope cl C X.env,outer:=X.stack,ex:=fp,fn:=fun _=>false,pn:=pn,xe:=fun _ _=>False }
inductive Cap (X:Cx) (scope:Scope):List (Option Nat)→List Str→Prop
 | nil:Cap X scope [] []
 | own {x src N'}:Cap X scope src N'→Cap X scope (none::src) (x::N')
 | cap {x i src N'}:X.N[i]?=some x→scope.names.lookup x=some NameKind.free→(X.env.scope.names.lookup x=some NameKind.cell∨X.env.scope.names.lookup x=some NameKind.free)→Cap X scope src N'→Cap X scope (some i::src) (x::N')
def YW (src:List (Option Nat)) (σ:St):St:=src.map fun o=>match o with | none=>none | some i=>σ.getD i none
theorem Cap.length {X:Cx} {scope:Scope}:∀ {src:List (Option Nat)} {N':List Str},Cap X scope src N'→src.length=N'.length
 | _,_,.nil=>rfl
 | _,_,.own h=>congrArg (·+1) h.length
 | _,_,.cap _ _ _ h=>congrArg (·+1) h.length
theorem Cap.get {X:Cx} {scope:Scope} {σ:St}:∀ {src:List (Option Nat)} {N':List Str},Cap X scope src N'→∀ (j:Nat) (x:Str) (v:V),N'[j]?=some x→(YW src σ)[j]?=some (some v) →
  ∃ i:Nat,X.N[i]?=some x∧σ[i]?=some (some v)∧scope.names.lookup x=some NameKind.free∧(X.env.scope.names.lookup x=some NameKind.cell∨X.env.scope.names.lookup x=some NameKind.free)
 | _,_,.nil,j,x,v,h,_=>by simp at h
 | _,_,.own h,0,x,v,_,e=>by simp [YW] at e
 | _,_,.own h,j+1,x,v,e1,e2=>h.get j x v (by simpa using e1) (by simpa [YW] using e2)
 | _,_,.cap (x:=y) (i:=i) hN hf hk h,0,x,v,e1,e2=>by
  have ex:y=x:=by simpa using e1
  subst ex
  refine ⟨i,hN,?_,hf,hk⟩
  simp only [YW,List.map_cons,List.getElem?_cons_zero,Option.some.injEq] at e2
  rw [List.getD_eq_getElem?_getD] at e2
  cases q:σ[i]? with
  | none=>rw [q] at e2;simp at e2
  | some o=>rw [q] at e2;simp at e2;rw [e2]
 | _,_,.cap hN hf hk h,j+1,x,v,e1,e2=>h.get j x v (by simpa using e1) (by simpa [YW] using e2)
theorem X8 (env:Env) (x:Str):∀ {names:List (Str×NameKind)},
  (names.map fun (n,k)=>if (k==NameKind.free&&env.scope.kind == .function&&env.kindOf n==some .cell) then (n,NameKind.cell) else (n,k)).lookup x =
   (names.lookup x).map fun k=>if (k==NameKind.free&&env.scope.kind == .function&&env.kindOf x==some .cell) then NameKind.cell else k
 | []=>rfl
 | (n,k)::r=>by
  have ih:=@X8 env x r
  rw [List.map_cons]
  dsimp only
  by_cases hx:(x==n)=true
  ·have e:x=n:=by simpa using hx
   subst e
   by_cases hc:(k==NameKind.free&&env.scope.kind == .function&&env.kindOf x==some .cell)=true
   ·rw [if_pos hc,List.lookup_cons,List.lookup_cons,hx]
    simp only [Option.map_some]
    rw [if_pos hc]
   ·rw [if_neg hc,List.lookup_cons,List.lookup_cons,hx]
    simp only [Option.map_some]
    rw [if_neg hc]
  ·have hx':=Bool.eq_false_iff.mpr hx
   by_cases hc:(k==NameKind.free&&env.scope.kind == .function&&env.kindOf n==some .cell)=true
   ·rw [if_pos hc];simp only [List.lookup_cons,hx'];exact ih
   ·rw [if_neg hc];simp only [List.lookup_cons,hx'];exact ih
theorem X1 {names:List (Str×NameKind)} {x:Str} (h:names.lookup x=some NameKind.free):(x,NameKind.free)∈names:=PySem.mem_of_lookup h
section
variable {X:Cx}
theorem YaF {scope:Scope} {N':List Str} {src:List (Option Nat)} {cl:List (Str×Addr)} {pins:List (Addr×Obj)} {σ:St} {H:Hp} {s s':Shared} {h':Heap} {tk:Nat} {fp:List Addr} {m:Str→Option Value}
  (hk:scope.kind = .function) (hcell:∀ y∈scope.names,y.2 ≠ .cell) (hcap:Cap X scope src N')
  (a:∀ x c,cl.lookup x=some c→X.env.cells.lookup x=some c) (b:∀ x,(x,NameKind.free)∈scope.names→∃ c,cl.lookup x=some c)
  (I:Inv X pins σ H s) (hf:∀ b∈fp,Wh X pins H b) (hfl:∀ b∈fp,b<s.heap.objs.size) (es':s'={ s with heap:=h',toks:=tk })
  (keep:∀ b o,s.heap.get? b=some o→h'.get? b=some o) (hn:h'.Ns s.heap.objs.size m) :
  Inv (cxC X scope N' cl s.heap.objs.size s H fp (X.pn++pins)) [] (YW src σ) H s':=by
 subst es'
 have kindOf:∀ x,(compEnvC scope cl s.heap.objs.size X.env).kindOf x=(scope.names.lookup x).map fun k=>if (k==NameKind.free&&X.env.scope.kind == .function&&X.env.kindOf x==some .cell) then NameKind.cell else k:=fun x=>X8 X.env x
 have freeOf:∀ x,((compEnvC scope cl s.heap.objs.size X.env).kindOf x=some .cell∨(compEnvC scope cl s.heap.objs.size X.env).kindOf x=some .free)→scope.names.lookup x=some .free:=fun x h=>by
  rw [kindOf] at h
  cases q:scope.names.lookup x with
  | none=>rw [q] at h;simp at h
  | some k =>
   rw [q] at h
   by_cases hkf:k=NameKind.free
   ·rw [hkf]
   ·have hkf':(k==NameKind.free)=false:=by simpa using hkf
    simp only [Option.map_some,hkf',Bool.false_and,Bool.false_eq_true,if_false] at h
    rcases h with h | h
    ·exact absurd (Option.some.inj h) (hcell _ (PySem.mem_of_lookup q))
    ·exact absurd (Option.some.inj h) hkf
 refine ⟨⟨I.ok.mod,hk,I.ok.glob,I.ok.blt,Nat.le_refl _,fun x y c h1 h2=>I.ok.inj x y c (a x c h1) (a y c h2),fun x hx=>b x (X1 (freeOf x hx)),(fun x c z _=>nomatch z),I.ok.hd,I.ok.frames,.inl rfl,fun b' hb=>?_,I.bs,Nat.le_trans I.ok.bsz I.sz,fun b' o e hb=>?_,fun b' hb z=>?_,I.stack,I.stkFree⟩,
  rfl,I.bare,Un.kept keep,⟨m,hn,fun j x v h1 h2 h3=>?_⟩,fun x c h=>?_,I.hok.fresh (Nat.le_refl _),fun x c h=>I.freeC x c (a x c h),fun p hp=>?_,I.hok.kept keep,?_⟩
 ·obtain ⟨f0,f1,f2,f3,f4,f5⟩:=hf b' hb
  exact ⟨Nat.ne_of_lt (hfl b' hb),fun x c h=>f4 x c (a x c h)⟩
 ·obtain ⟨f0,f1,f2,f3,f4,f5⟩:=hf b' hb
  rcases f3 with z | z
  ·exact I.ok.noex b' o e z
  ·exact absurd (Nat.lt_of_lt_of_le (Heap.lt_size e) (Nat.le_trans I.ok.bsz z)) (Nat.lt_irrefl _)
 ·obtain ⟨f0,f1,f2,f3,f4,f5⟩:=hf b' hb
  rcases List.mem_cons.mp (I.stkSub b' z) with e | e
  ·exact f1 e
  ·exact f2 e
 ·obtain ⟨i,e1,e2,e3,e4⟩:=hcap.get j x v h1 h2
  obtain ⟨m0,hn0,hl⟩:=I.loc
  obtain ⟨u,r,l⟩:=hl i x v e1 e2 (by rcases e4 with e4 | e4;exact .inr (.inl e4);exact .inr (.inr e4))
  refine ⟨u,r,?_⟩
  rcases l with ⟨l,_⟩ | ⟨k,c,e,z⟩
  ·have l':X.env.scope.names.lookup x=some NameKind.local:=l
   rcases e4 with e4 | e4<;>(rw [e4] at l';cases l')
  ·refine .inr ⟨?_,?_⟩
   ·show (compEnvC scope cl s.heap.objs.size X.env).kindOf x=some .cell∨(compEnvC scope cl s.heap.objs.size X.env).kindOf x=some .free
    rw [kindOf,e3]
    simp only [Option.map_some]
    split
    ·exact .inl rfl
    ·exact .inr rfl
   ·obtain ⟨c',hc'⟩:=b x (X1 e3)
    have:=a x c' hc'
    rw [e] at this
    cases this
    obtain ⟨o,ho,hd⟩:=z
    exact ⟨c,hc',o,keep _ _ ho,hd⟩
 ·obtain ⟨v,o,ho,hd⟩:=I.cell x c (a x c h)
  exact ⟨v,o,keep _ _ ho,hd⟩
 ·have hp':p∈X.pn++pins:=by simpa [cxC] using hp
  obtain ⟨e,n,ne,nf,d⟩:=I.pin p hp'
  refine ⟨keep _ _ e,n,Nat.ne_of_lt (Heap.lt_size e),fun z=>?_,d⟩
  rcases List.mem_cons.mp (I.stkSub p.1 z) with q | q
  ·exact ne q
  ·exact nf q
 ·show (YW src σ).length=N'.length
  rw [← hcap.length]
  simp [YW]
end
end L2
namespace L2
open PySem PySem.Spec PyProof.Rows
section
variable {prog:Program} {w:World} {A:Around} {R:Result→Shared→Prop} {s:Shared}
theorem Q4 {elt tg iter:Expr} {ifs:List Expr} {scope:Scope} {pos:Pos} {it acc:Value} {env:Env} (J:Nat→Shared→Prop)
  (turn:∀ n s,J n s→wpAny (model prog w) A (pyNext it) (fun r s₁=>match r with
    | none=>R (.ok .next) s₁
    | some v=>wpAny (model prog w) A (letOwnedTupleGo tg it v) (fun _ z₁=>wpAny (model prog w) A (assign tg env v) (fun _ s₂ =>
      wpAny (model prog w) A (forIn ifs true fun c r=>if r=true then do let ok ← isTrue c env (eval c env);pure (ForInStep.yield ok) else pure (ForInStep.yield r))
       (fun ok s₃=>if ok=true then wpAny (model prog w) A (eval elt env) (fun x s₄=>wpAny (model prog w) A (call (.builtin "list.append") [acc,x]) (fun _ s₅=>∃ m,m<n∧J m s₅) (fun _ _=>False) s₄) (fun _ _=>False) s₃
        else ∃ m,m<n∧J m s₃) (fun _ _=>False) s₂) (fun _ _=>False) z₁) (fun _ _=>False) s₁) (fun _ _=>False) s)
  (n:Nat) (h:J n s):codeAny (model prog w) A (.compLoop (.ListComp elt [⟨tg,iter,ifs,0⟩] scope pos) 0 it acc env) R s:=by
 refine codeAny_loop rfl J (fun n s hJ=>?_) n h
 show wpAny _ A (Sem.onRaise (compTurn (.ListComp elt [⟨tg,iter,ifs,0⟩] scope pos) 0 it acc env) (fun x=>do noteFrame x env;theTreesLotGoes x)) _ _ s
 refine wpAny_noted ?_
 rw [compTurn_list]
 have no:∀ {E:Value→Shared→Prop},∀ (e:Value) (s':Shared),False→E e s':=fun _ _ f=>f.elim
 refine wpAny_bind (wpAny_standAt (wpAny_bind (wpAny_mono (turn n s hJ) (fun r s₁ h₁=>?_) no)))
 cases r with
 | none=>exact wpAny_pure h₁
 | some v =>
  refine wpAny_bind (wpAny_mono h₁ (fun _ z₁ hz=>?_) no)
  refine wpAny_bind (wpAny_mono hz (fun _ s₂ h₂=>wpAny_bind (wpAny_mono h₂ (fun ok s₃ h₃=>?_) no)) no)
  cases ok with
  | false=>exact wpAny_pure ⟨rfl,h₃⟩
  | true =>
   exact wpAny_bind (wpAny_bind (wpAny_mono h₃ (fun x s₄ h₄=>wpAny_bind (wpAny_mono h₄ (fun _ s₅ h₅=>wpAny_pure (wpAny_pure ⟨rfl,h₅⟩)) no)) no))
end
def PTs (X:Cx) (ifs:List Expr) (t:TT):Prop :=
 ∀ (pins:List (Addr×Obj)) (s:Shared) (σ:St) (H:Hp) (Q:Bool→Hp→Prop),Inv X pins σ H s→t σ H Q →
  wpAny (model X.prog X.w) X.A (forIn ifs true fun c r=>if r=true then do let ok ← isTrue c X.env (eval c X.env);pure (ForInStep.yield ok) else pure (ForInStep.yield r)) (TP X pins σ Q) X.xe s
def V8:TT:=fun _ H Q=>Q true H
theorem YbL {X:Cx}:PTs X [] V8:=fun _ _ _ H _ I h=>wpAny_tests_nil ⟨H,I,h⟩
theorem YbM {X:Cx} {c:Expr} {t:TT} (h:PT X c t):PTs X [c] t:=fun pins s σ H Q I q=>wpAny_tests_one (h pins s σ H Q I q)
def LC (src:List (Option Nat)) (J:It) (g:TG) (tt:TT) (te:TE) (σ:St) (H1:Hp) (Q:VK) (D:Addr):Prop:=∃ W:Nat→Nat→List V→St→Hp→Prop,(∃ m,W 0 m [] (YW src σ) (upd H1 D (.lst []))) ∧
 ∀ i m ys σ' H2,W i m ys σ' H2→H2 D=some (.lst ys)∧((J.stop i H2∧Q (.ref D) H2)∨(J.go i H2∧∃ N:List V→St→Hp→Prop,(∀ ys' σ3 H3,N ys' σ3 H3→∃ m',m'<m∧W (i+1) m' ys' σ3 H3)∧∀ x H3,J.yld i H2 x H3→g x σ' H3 fun σ2 H4=>tt σ2 H4 fun b H5 =>
  if b=true then te σ2 H5 fun y H6=>H6 D=some (.lst ys)∧ys.length<sizeLine∧N (ys++[y]) σ2 (upd H6 D (.lst (ys++[y])))
  else N ys σ2 H5))
def tLC (src:List (Option Nat)) (wi:TI) (g:TG) (tt:TT) (te:TE):TE:=fun σ H Q=>wi σ H fun J H1=>∀ D,H1 D=none→LC src J g tt te σ H1 Q D
section
variable {X:Cx}
theorem Ybh {elt tg iter:Expr} {ifs:List Expr} {scope:Scope} {pos:Pos} {src:List (Option Nat)} {N':List Str} {wi:TI} {g:TG} {tt:TT} {te:TE} (hcap:Cap X scope src N') (hc:X.calm=true) (hi:PI X tg iter wi)
  (hg:∀ cl C s₀ H₀ fp pn,PG (cxC X scope N' cl C s₀ H₀ fp pn) tg g) (ht:∀ cl C s₀ H₀ fp pn,PTs (cxC X scope N' cl C s₀ H₀ fp pn) ifs tt) (he:∀ cl C s₀ H₀ fp pn,PE (cxC X scope N' cl C s₀ H₀ fp pn) elt te)
  (hfree:∀ x,(x,NameKind.free)∈scope.names→X.env.scope.names.lookup x=some NameKind.cell∨X.env.scope.names.lookup x=some NameKind.free)
  (hk:scope.kind = .function) (hcell:∀ y∈scope.names,y.2 ≠ .cell) (hnames:∀ y∈scope.names,y.2 = .local→scope.names.lookup y.1=some .local)
  (hs:∀ x,foldedSetIterable iter X.env x=pure x):PE X (.ListComp elt [⟨tg,iter,ifs,0⟩] scope pos) (tLC src wi g tt te):=by
 intro pins s σ H Q I h
 have no:∀ {E:Value→Shared→Prop},∀ (e:Value) (s':Shared),False→E e s':=fun _ _ f=>f.elim
 obtain ⟨cl,hcl,a,b⟩:=Qq X.env scope fun x hx=>I.ok.has x (hfree x hx)
 rw [eval_ListComp]
 refine wpAny_comprehension_free (use:=none) rfl hs hcl hk hnames (thn (hi pins s σ H _ I h) fun v s1 h1=>thn h1 fun itv s2 h2=>?_)
 obtain ⟨it,fp,tn,J,H2,e,I2,T,st2,f2,q⟩:=h2
 subst e
 have hD:H2 s2.heap.objs.size=none:=I2.hok.fresh (Nat.le_refl _)
 obtain ⟨W,⟨m0,w0⟩,turn⟩:=q s2.heap.objs.size hD
 have I3:=I2.lnew (t':=s2.toks) (ys:=[]) (its:=[]) .nil (Nat.zero_le _)
 have fl2:∀ b∈fp,b<s2.heap.objs.size:=fun b hb=>by
  obtain ⟨o,e,_⟩:=T.obj _ _ st2 b hb
  exact Heap.lt_size e
 refine wpAny_newObj_type ?_
 generalize es3:({ s2 with heap:=s2.heap.push { cls := .type "list",dict:=none,data := .seq ([]:List Value).toArray } }:Shared)=s3
 have I3':Inv X pins σ (upd H2 s2.heap.objs.size (.lst [])) s3:=es3▸I3
 have keep3:∀ b o,s2.heap.get? b=some o→s3.heap.get? b=some o:=fun b o e=>by rw [← es3];exact Heap.get?_push_of_some _ e
 have st3:tn 0 s3.heap:=T.keep _ _ _ st2 fun b _ o e=>keep3 b o e
 have fl3:∀ b∈fp,b<s3.heap.objs.size:=fun b hb=>by
  obtain ⟨o,e,_⟩:=T.obj _ _ st3 b hb
  exact Heap.lt_size e
 have f3:∀ b∈fp,Wh X pins (upd H2 s2.heap.objs.size (.lst [])) b:=fun b hb=>⟨by rw [Yb (Nat.ne_of_lt (fl2 b hb))];exact (f2 b hb).1,(f2 b hb).2⟩
 generalize eD:s2.heap.objs.size=D at *
 generalize eH3:upd H2 D (.lst [])=H3 at *
 refine wpAny_newFunctionEnv hcell (by intro y hy;simp at hy) (fun h₁ hns₁ hsb₁=>?_) hk
 have keep4:∀ b o,s3.heap.get? b=some o→h₁.get? b=some o:=fun b o e=>hsb₁.extBut b o (Nat.ne_of_lt (Heap.lt_size e)) (Heap.get?_push_of_some _ e)
 have I4:=YaF (N':=N') (src:=src) (tk:=s3.toks+([]:List (Str×Value)).length) hk hcell hcap a b I3' f3 fl3 rfl keep4 hns₁
 -- the iterator's objects,through the block
 have stat:∀ {H':Hp},(∀ b∈fp,H' b=none)→∀ b∈fp,Wh (cxC X scope N' cl s3.heap.objs.size s3 H3 fp (X.pn++pins)) [] H' b:=fun hn b' hb=>by
  obtain ⟨f0,f1,fs,fe,f4,f5⟩:=f3 b' hb
  refine ⟨hn b' hb,Nat.ne_of_lt (fl3 b' hb),fun z=>?_,.inl hb,fun x c h=>f4 x c (a x c h),fun p hp=>f5 p (by simpa [cxC] using hp)⟩
  rcases List.mem_cons.mp (I3'.stkSub b' z) with e | e
  ·exact f1 e
  ·exact fs e
 -- behind the block
 have fin:∀ {H':Hp} {s':Shared} {σ':St} {pins':List (Addr×Obj)},Inv (cxC X scope N' cl s3.heap.objs.size s3 H3 fp (X.pn++pins)) pins' σ' H' s'→∀ h',Heap.SameBut s3.heap.objs.size s'.heap h'→Inv X pins σ H' { s' with heap:=h' }:=fun {H' s' σ' pins'} J' h' sb=>by
  have same:∀ b o,b≠s3.heap.objs.size→s'.heap.get? b=some o→h'.get? b=some o:=fun b o hb e=>sb.extBut b o hb e
  have u:Un (frs X.stack) fp H3 H' s3.heap s'.heap:=J'.base
  refine I3'.call' (s':={ s' with heap:=h' }) (ch:=fp) J'.os ⟨fun b o e n hb hx=>?_,fun b o e n hb hx=>?_,u.free,fun b o e hx=>?_,u.tups,u.frzs,u.tbls⟩ (fun b o e=>?_) J'.bare fun b hb=>?_
  ·exact same b o (Nat.ne_of_lt (Heap.lt_size e)) (u.keep b o e n hb hx)
  ·obtain ⟨sl,z⟩:=u.slot b o e n hb hx
   exact ⟨sl,same b _ (Nat.ne_of_lt (Heap.lt_size e)) z⟩
  ·obtain ⟨o',z⟩:=u.there b o e hx
   exact ⟨o',same b o' (Nat.ne_of_lt (Heap.lt_size e)) z⟩
  ·have nC:∀ c v,H' c=some v→c≠s3.heap.objs.size:=fun c v z q=>by
    have:=J'.free
    rw [show (cxC X scope N' cl s3.heap.objs.size s3 H3 fp (X.pn++pins)).env.locals=s3.heap.objs.size from rfl,← q,z] at this
    cases this
   refine (J'.hok b o e).stay (fun c v hc q=>same c v ?_ q) (fun _ q=>q) fun _ _ q=>q
   rcases hc with z | z
   ·rw [z];exact nC b o e
   ·exact nC c _ z
  ·obtain ⟨f0,f1,fs,fe,f4,f5⟩:=f3 b hb
   exact ⟨fe,f1,f4,f5⟩
 have loop:codeAny (model X.prog X.w) X.A (.compLoop (.ListComp elt [⟨tg,iter,ifs,0⟩] scope pos) 0 (.ref it) (.ref D) (compEnvC scope cl s3.heap.objs.size X.env))
   (compPost (model X.prog X.w) X.A X.xe none (EP X pins σ Q) (.ref D) s3.heap.objs.size) { s3 with heap:=h₁,toks:=s3.toks+([]:List (Str×Value)).length }:=by
  refine Q4 (fun n s'=>∃ i ys σ' H',Inv (cxC X scope N' cl s3.heap.objs.size s3 H3 fp (X.pn++pins)) [] σ' H' s'∧tn i s'.heap∧(∀ b∈fp,H' b=none)∧W i n ys σ' H') ?_ m0 ⟨0,[],YW src σ,H3,I4,T.keep _ _ _ st3 fun b _ o e=>keep4 b o e,fun b hb=>(f3 b hb).1,w0⟩
  rintro n s5 ⟨i,ys,σ5,H5,I5,st5,fr5,w5⟩
  obtain ⟨hDs,stop | go⟩:=turn i n ys σ5 H5 w5
  ·obtain ⟨stop,qn⟩:=stop
   refine thn (T.done (cxC X scope N' cl s3.heap.objs.size s3 H3 fp (X.pn++pins)) rfl rfl rfl hc i [] s5 σ5 H5 _ I5 (stat fr5) st5 stop) fun r s6 ⟨hr,I6⟩=>?_
   subst hr
   obtain ⟨m,hn,_⟩:=id I6.loc
   exact ⟨m,hn,fun h' sb=>⟨.ref D,H5,fin I6 h' sb,rfl,qn⟩⟩
  ·obtain ⟨go,N,hN,step⟩:=go
   refine thn (T.item (cxC X scope N' cl s3.heap.objs.size s3 H3 fp (X.pn++pins)) rfl rfl rfl hc i [] s5 σ5 H5 _ I5 (stat fr5) st5 go) fun r s6 ⟨u,hr,h6⟩=>?_
   subst hr
   refine thn h6 fun _ s7 ⟨x,H7,I7,r7,y7,st7,fr7⟩=>?_
   have I7':=I7.pinned (stat fr7) (T.obj _ _ st7)
   have again:∀ {s8:Shared} {σ8:St} {H8:Hp} {ys':List V},Inv (cxC X scope N' cl s3.heap.objs.size s3 H3 fp (X.pn++pins)) ([]++Wu fp s7.heap) σ8 H8 s8→(∃ m',m'<n∧W (i+1) m' ys' σ8 H8) →
     ∃ m,m<n∧∃ i ys σ' H',Inv (cxC X scope N' cl s3.heap.objs.size s3 H3 fp (X.pn++pins)) [] σ' H' s8∧tn i s8.heap∧(∀ b∈fp,H' b=none)∧W i m ys σ' H':=fun {s8 σ8 H8 ys'} I8 ⟨m',hm,w8⟩=>by
    refine ⟨m',hm,i+1,ys',σ8,H8,I8.unpinned,T.keep _ _ _ st7 fun b hb o e=>(I8.pin (b,o) (List.mem_append_right _ (List.mem_append_right _ (XF hb e)))).1,fun b hb=>?_,w8⟩
    obtain ⟨o,e,d⟩:=T.obj _ _ st7 b hb
    exact (I8.pin (b,o) (List.mem_append_right _ (List.mem_append_right _ (XF hb e)))).2.1
   refine thn (hg cl _ s3 H3 fp _ _ s7 σ5 H7 x u _ I7' r7 (step x H7 y7)) fun _ s8 ⟨σ8,H8,I8,q8⟩=>?_
   refine thn (ht cl _ s3 H3 fp _ _ s8 σ8 H8 _ I8 q8) fun ok s9 ⟨H9,I9,q9⟩=>?_
   cases ok with
   | false=>exact again I9 (hN _ _ _ q9)
   | true =>
    rw [if_pos rfl]
    refine thn (he cl _ s3 H3 fp _ _ s9 σ8 H9 _ I9 q9) fun y s10 ⟨yv,H10,I10,r10,q10⟩=>?_
    obtain ⟨hDy,hlen,w10⟩:=q10
    refine thn (XC (X:=cxC X scope N' cl s3.heap.objs.size s3 H3 fp (X.pn++pins)) _ s10 σ8 H10 (.ref D) [yv] (.ref D) [y] (fun _ H'=>H'=upd H10 D (.lst (ys++[yv]))) I10 rfl (.cons r10 .nil) ⟨D,ys,yv,rfl,rfl,hDy,hlen,rfl⟩) fun _ s11 ⟨_,H11,I11,_,e11⟩=>?_
    subst e11
    exact again I11 (hN _ _ _ w10)
 exact codeAny_compStart_list loop (T.self _ 0 _ _ _ (T.keep _ _ _ st3 fun b _ o e=>keep4 b o e) loop)
end
end L2
namespace L2
open PySem PySem.Spec PyProof.Rows
def X5 (x:Str) (lo hi:Option Int):Str:=⟨((x.cps.toList.drop (HT.sIx x.length 0 lo)).take (HT.sIx x.length x.length hi - HT.sIx x.length 0 lo)).toArray⟩
theorem W7 (lo hi:Option Int) (n:Nat):Builtin.Str.strSliceIndices lo hi 1 n=(List.range (HT.sIx n n hi - HT.sIx n 0 lo)).map fun k=>HT.sIx n 0 lo+k:=by
 have clip:∀ (v:Int) (d:Nat),max 0 (min (if v<0 then v+(n:Int) else v) (n:Int))=((HT.sIx n d (some v):Nat):Int):=fun v d=>by
  show _=(((if v<0 then (v+(n:Int)).toNat else min v.toNat n):Nat):Int)
  by_cases hv:v<0
  ·simp only [if_pos hv];omega
  ·simp only [if_neg hv];omega
 have key:∀ (i j:Nat),sliceRange (i:Int) (j:Int) 1=(List.range (j - i)).map fun k=>i+k:=fun i j=>by
  unfold sliceRange
  have e:(if (1:Int)>0 then (if (i:Int)<(j:Int) then ((j:Int) - (i:Int)+1 - 1) / 1 else 0) else (if (i:Int)>(j:Int) then ((i:Int) - (j:Int) - 1 - 1) / (-1) else 0)).toNat=j - i:=by
   rw [if_pos (by decide)]
   by_cases h:(i:Int)<(j:Int)
   ·rw [if_pos h,Int.ediv_one];omega
   ·rw [if_neg h];omega
  dsimp only
  rw [e]
  refine List.map_congr_left fun k _=>?_
  omega
 have lo':(match lo with | none=>(0:Int) | some v=>max 0 (min (if v<0 then v+(n:Int) else v) (n:Int)))=((HT.sIx n 0 lo:Nat):Int):=by
  cases lo with
  | none=>rfl
  | some v=>exact clip v 0
 have hi':(match hi with | none=>(n:Int) | some v=>max 0 (min (if v<0 then v+(n:Int) else v) (n:Int)))=((HT.sIx n n hi:Nat):Int):=by
  cases hi with
  | none=>rfl
  | some v=>exact clip v n
 rw [← key,← lo',← hi']
 unfold Builtin.Str.strSliceIndices
 cases lo<;>cases hi<;>simp
theorem V9 (x:Str) (lo hi:Option Int):Txt.slice x lo hi=X5 x lo hi:=by
 have hle1:=HT.sIx_le x.length 0 (Nat.zero_le _) lo
 have hle2:=HT.sIx_le x.length x.length (Nat.le_refl _) hi
 have core:((Builtin.Str.strSliceIndices lo hi 1 x.length).filterMap (x.cps[·]?))=(x.cps.toList.drop (HT.sIx x.length 0 lo)).take (HT.sIx x.length x.length hi - HT.sIx x.length 0 lo):=by
  rw [W7,List.filterMap_map]
  generalize HT.sIx x.length 0 lo=i
  generalize HT.sIx x.length x.length hi - i=k
  have gen:∀ (l:List Nat) (k:Nat),(List.range k).filterMap (fun m=>l[m]?)=l.take k:=by
   intro l k
   induction k with
   | zero=>simp
   | succ k ih =>
    rw [List.range_succ,List.filterMap_append,ih]
    by_cases hk:k<l.length
    ·rw [List.take_succ_eq_append_getElem hk];simp [hk]
    ·have h1:l.take (k+1)=l:=List.take_of_length_le (by omega)
     have h2:l.take k=l:=List.take_of_length_le (by omega)
     rw [h1,h2];simp [hk]
  have e:((fun j=>x.cps[j]?) ∘ fun k=>i+k)=fun m=>(x.cps.toList.drop i)[m]?:=by
   funext m
   simp [List.getElem?_drop]
  rw [e,gen]
 unfold Txt.slice X5
 rw [core]
 split
 ·rename_i h
  simp only [beq_self_eq_true,Bool.true_and,beq_iff_eq] at h
  rw [W7,List.length_map,List.length_range] at h
  have h0:HT.sIx x.length 0 lo=0∨x.length=0:=by omega
  have e:(x.cps.toList.drop (HT.sIx x.length 0 lo)).take (HT.sIx x.length x.length hi - HT.sIx x.length 0 lo)=x.cps.toList:=by
   have hl:x.cps.toList.length=x.length:=by simp [Str.length]
   rcases h0 with h0 | h0
   ·rw [h,h0,List.drop_zero,List.take_of_length_le (by omega)]
   ·have:x.cps.toList=[]:=List.eq_nil_of_length_eq_zero (by omega)
    rw [this];simp
  rw [e]
 ·rfl
theorem Vk (x:Str) (lo hi:Option Int):(X5 x lo hi).length≤x.length:=by
 rw [← V9];exact Txt.slice_le x lo hi
def rSlS:V→Option Int→Option Int→Hp→VK→Prop:=fun x lo hi H Q=>∃ z,x = .str z∧z.length≤sizeLine∧Q (.str (X5 z lo hi)) H
section
variable {X:Cx}
theorem Q5:SlR X rSlS:=by
 intro pins s σ H x v vl vu lo hi sl Q I rx hs pl pu h
 obtain ⟨z,rfl,hz,q⟩:=h
 obtain ⟨t,rfl⟩:=rx
 refine ⟨"str",_,F.slot_str_getitem.lookup,typeIs_str _ _ _,?_⟩
 have fin:∀ (l u:Option (Int×Tok)),l.map (·.1)=lo→u.map (·.1)=hi→s.heap.IsSlice sl l u none→wpAny (model X.prog X.w) X.A (getItem (.str z t) (.ref sl)) (EP X pins σ Q) X.xe s:=fun l u el eu hsl=>by
  refine wpAny_getItem_str_slice (l:=l) (u:=u) (st:=none) hsl rfl ?_
  have e:(if (((none:Option (Int×Tok)).map (·.1)).getD 1==1&&(slicePicked z l u none).length==z.length)=true then z else ⟨((slicePicked z l u none).filterMap (z.cps[·]?)).toArray⟩)=X5 z lo hi:=by
   rw [← V9,← el,← eu]
   rfl
  refine post_val_or_str ⟨by rw [e];exact Nat.le_trans (Vk z lo hi) hz,fun t' k=>?_⟩
  rw [e]
  exact ⟨.str (X5 z lo hi),H,I.tok k,⟨t',rfl⟩,q⟩
 obtain ⟨o,ho,hc,hd⟩:=hs
 cases pl with
 | none =>
  cases pu with
  | none=>exact fin none none rfl rfl ⟨o,ho,hc,hd⟩
  | int j tj=>exact fin none (some (j,tj)) rfl rfl ⟨o,ho,hc,hd⟩
 | int i ti =>
  cases pu with
  | none=>exact fin (some (i,ti)) none rfl rfl ⟨o,ho,hc,hd⟩
  | int j tj=>exact fin (some (i,ti)) (some (j,tj)) rfl rfl ⟨o,ho,hc,hd⟩
end
end L2
namespace L2
open PySem PySem.Spec PyProof.Rows
section
variable {X:Cx} {tg:Expr}
def W8 (J:It) (P:Hp→Prop) (xs:List V):Prop:=∀ H,P H→∀ i,(∀ x,xs[i]?=some x→J.go i H∧∀ y H',J.yld i H y H'→H'=H∧y=x)∧(xs.length≤i→J.stop i H)
theorem Qr {K:PySem.W.Frag} {a:Addr} {xs:List V}:W8 (Itl K a) (fun H=>SqL K H a xs) xs:=fun H hq i=>by
 refine ⟨fun x hx=>⟨⟨xs,x,hq,hx⟩,fun y H' ⟨e1,e2⟩=>⟨e1,?_⟩⟩,fun hi=>⟨xs,hq,hi⟩⟩
 have:=e2 xs hq
 rw [hx] at this
 exact (Option.some.inj this).symm
theorem UD {lo:Int} {n:Nat} {P:Hp→Prop}:W8 (Itr lo n) P ((List.range n).map fun (i:Nat)=>V.int (lo+i)):=fun H hq i=>by
 refine ⟨fun x hx=>?_,fun hi=>by show n≤i;simpa using hi⟩
 have hi:i<n:=by
  have:=(List.getElem?_eq_some_iff.mp hx).1
  simpa using this
 refine ⟨hi,fun y H' ⟨e1,e2⟩=>⟨e1,?_⟩⟩
 rw [List.getElem?_map,List.getElem?_range hi] at hx
 rw [e2]
 simpa using hx
theorem Ybi {J:It} {P:Hp→Prop} {xs:List V} (hJ:W8 J P xs) {src:List (Option Nat)} {g:TG} {tt:TT} {te:TE} {σ:St} {H1:Hp} {Q:VK} {D:Addr} (Pv:Nat→List V→St→Hp→Prop)
  (h0:Pv 0 [] (YW src σ) (upd H1 D (.lst []))) (hP:∀ i ys σ' H',Pv i ys σ' H'→P H'∧H' D=some (.lst ys))
  (step:∀ i ys σ' H' x,xs[i]?=some x→Pv i ys σ' H'→g x σ' H' fun σ2 H4=>tt σ2 H4 fun b H5=>if b=true then te σ2 H5 fun y H6=>H6 D=some (.lst ys)∧ys.length<sizeLine∧Pv (i+1) (ys++[y]) σ2 (upd H6 D (.lst (ys++[y]))) else Pv (i+1) ys σ2 H5)
  (fin:∀ ys σ' H',Pv xs.length ys σ' H'→Q (.ref D) H') :
  LC src J g tt te σ H1 Q D:=by
 refine ⟨fun i m ys σ' H'=>m=xs.length - i∧i≤xs.length∧Pv i ys σ' H',⟨xs.length,by simp,Nat.zero_le _,h0⟩,?_⟩
 rintro i m ys σ' H2 ⟨rfl,hi,p⟩
 obtain ⟨hp,hD⟩:=hP i ys σ' H2 p
 refine ⟨hD,?_⟩
 by_cases hlt:i<xs.length
 ·obtain ⟨go,yl⟩:=(hJ H2 hp i).1 xs[i] (by simp [hlt])
  refine .inr ⟨go,fun ys' σ3 H3=>Pv (i+1) ys' σ3 H3,fun ys' σ3 H3 p'=>⟨xs.length - (i+1),by omega,rfl,hlt,p'⟩,fun x H3 y=>?_⟩
  obtain ⟨e1,e2⟩:=yl x H3 y
  subst e1 e2
  exact step i ys σ' _ _ (by simp [hlt]) p
 ·have e:i=xs.length:=by omega
  subst e
  exact .inl ⟨(hJ H2 hp _).2 (Nat.le_refl _),fin ys σ' H2 p⟩
theorem Yj.upd_new {H:Hp} {p:Addr} (h:H p=none) (o:HO):Yj H (upd H p o):=fun b u q=>by rw [Yb (Yg q h)];exact q
theorem Yj.upd_over {H H':Hp} {p:Addr} (h:H p=none) (e:Yj H H') (o:HO):Yj H (upd H' p o):=fun b u q=>by rw [Yb (Yg q h)];exact e b u q
theorem Yj.tup {K:PySem.W.Frag} {H H':Hp} {a:Addr} {xs:List V} (e:Yj H H') (h:SqT K H a xs):SqT K H' a xs:=by
 rcases h with (h | ⟨o,h⟩) | h
 ·exact .inl (.inl (e _ _ h))
 ·exact .inl (.inr ⟨o,e _ _ h⟩)
 ·exact .inr h
end
section
variable {X:Cx}
theorem UU:∀ {ys:List Str} {us:List Value},Yl (ys.map V.str) us→StrsAre us ys
 | [],_,h=>by rw [Yl.zero h];exact .nil
 | y::ys,us,h=>by
  have h':Yl (V.str y::ys.map V.str) us:=h
  cases h' with
  | cons r t=>obtain ⟨t',rfl⟩:=r;exact .cons y t' (UU t)
def rJoin (K:PySem.W.Frag):V→List V→Hp→VK→Prop:=fun x vs H Q=>∃ (z:Str) (p:Addr) (ys:List Str),x = .str z∧vs=[.ref p]∧SqL K H p (ys.map V.str)∧(ys.map (·.length)).sum+ys.length*z.length≤16777216∧Q (.str (Txt.join z ys)) H
theorem YbN:MtR X "str.join" (rJoin X.K):=by
 intro pins s σ H x vs v us Q I rx rv h
 obtain ⟨z,p,ys,rfl,rfl,hq,hl,q⟩:=h
 obtain ⟨t,rfl⟩:=rx
 obtain ⟨u,rfl,ru⟩:=rv.one
 cases ru
 obtain ⟨its,r,pl,hz⟩:=I.list hq
 exact join_list pl.isList (by simpa using UU r) hl fun t' k=>⟨.str _,H,I.tok k,⟨t',rfl⟩,q⟩
def WB:V→Option Value
 | .ty n=>some (.type n)
 | .ref a=>some (.ref a)
 | _=>none
theorem Y6:X0 X (.builtin "isinstance") (fun xs H Q=>∃ x c cv t b,xs=[x,c]∧WB c=some cv∧TyOf X.K H x t∧PySem.W.kitOne X.K t cv=some b∧Q (.bl b) H):=by
 intro pins s σ H xs us Q I r h
 obtain ⟨x,c,cv,t,b,rfl,ec,ty,e,q⟩:=h
 obtain ⟨u,w',rfl,ru,rw'⟩:=W2 r
 have ew:w'=cv:=by
  cases c with
  | ty n=>cases (show w'=Value.type n from rw');simpa [WB] using ec
  | ref a=>cases (show w'=Value.ref a from rw');simpa [WB] using ec
  | _=>simp [WB] at ec
 subst ew
 exact QX I ru ty e fun tk=>⟨.bl b,H,I.tok tk,rfl,q⟩
end
end L2
namespace L2
open PySem PySem.Spec PyProof.Rows
section
variable {prog:Program} {w:World} {A:Around} {E:Value→Shared→Prop} {s:Shared}
end
section
variable {prog:Program} {w:World} {A:Around} {E:Value→Shared→Prop} {s:Shared} {z TI TO i1 i2:Addr} {S1 S2:Nat→Heap→Prop} {R1 R2:Heap→(Nat→Option Value)→Prop} {g1 g2:Nat→Option Value} {k:Nat} {a b:Value}
end
end L2
namespace L2
open PySem PySem.Spec PyProof.Rows
section
variable {prog:Program} {w:World} {A:Around} {E:Value→Shared→Prop} {s:Shared}
end
section
variable {X:Cx} {pins:List (Addr×Obj)} {σ:St} {H:Hp} {s:Shared} {h':Heap}
end
end L2
namespace L2
open PySem PySem.Spec PyProof.Rows
section
variable {X:Cx} {elts:List Expr} {kk:Nat} {tpos:Pos}
theorem lc_on {J:It} {P:Hp→Prop} {xs:List V} (hJ:W8 J P xs) {src:List (Option Nat)} {g:TG} {te:TE} {σ:St} {H1:Hp} {Q:VK} {D:Addr} (Pv:Nat→List V→St→Hp→Prop)
  (h0:Pv 0 [] (YW src σ) (upd H1 D (.lst []))) (hP:∀ i ys σ' H',Pv i ys σ' H'→P H'∧H' D=some (.lst ys))
  (mono:∀ x σ H Q Q',(∀ σ' H',Q σ' H'→Q' σ' H')→g x σ H Q→g x σ H Q')
  (step:∀ i ys σ' H' x,xs[i]?=some x→Pv i ys σ' H'→g x σ' H' fun σ2 H4=>te σ2 H4 fun y H6=>H6 D=some (.lst ys)∧ys.length<sizeLine∧Pv (i+1) (ys++[y]) σ2 (upd H6 D (.lst (ys++[y]))))
  (fin:∀ ys σ' H',Pv xs.length ys σ' H'→Q (.ref D) H'):LC src J g V8 te σ H1 Q D :=
 Ybi hJ Pv h0 hP (fun i ys σ' H' x hx p=>by
  refine mono _ _ _ _ _ ?_ (step i ys σ' H' x hx p)
  intro σ2 H4 q
  unfold V8
  dsimp only
  rw [if_pos rfl]
  exact q) fin
theorem Qs (i:Nat):∀ x σ H Q Q',(∀ σ' H',Q σ' H'→Q' σ' H')→Xi i x σ H Q→Xi i x σ H Q':=fun _ _ _ _ _ h q=>h _ _ q
end
end L2
namespace L2
open PySem PySem.Spec PyProof.Rows
structure Gx where
 P:Program
 w:World
 K:PySem.W.Frag
 mg:Str→Option Value
 base:Heap
def Cx.gx (X:Cx):Gx:=⟨X.prog,X.w,X.K,X.mg,X.base⟩
def Gx.Raw (g:Gx) (x qual:Str) (st:Stmt) (ps:List Str):Prop:=∃ f fd,Fun g.K x qual st f fd∧YA g.K fd ps []∧g.mg x=some (.ref f)
def Gx.Fn (g:Gx) (k:Nat) (x:Str) (ps:List Str) (sp:Sp):Prop:=∃ f fd,FnOk g.P g.w g.K g.mg g.base CX0 k f fd ps sp∧YA g.K fd ps []∧PySem.W.keepIn g.K (.ref f)=true∧g.mg x=some (.ref f)
def Gx.RawM (g:Gx) (C:Addr) (m qual:Str) (st:Stmt) (ps:List Str):Prop:=∃ f fd,Fun g.K m qual st f fd∧YA g.K fd ps []∧Meth g.K C m f
def Gx.Me (g:Gx) (k:Nat) (C:Addr) (m:Str) (ps:List Str) (sp:Sp):Prop:=∃ f fd,FnOk g.P g.w g.K g.mg g.base CX0 k f fd ps sp∧YA g.K fd ps []∧Meth g.K C m f
def Gx.RawI (g:Gx) (x:Str) (C:Addr) (qual:Str) (st:Stmt) (ps:List Str):Prop:=∃ f fd,Fun g.K "__init__" qual st f fd∧YA g.K fd ps []∧Mk g.K C f∧g.mg x=some (.ref C)
def Gx.Ma (g:Gx) (k:Nat) (x:Str) (C:Addr) (ps:List Str) (sp:Sp):Prop:=∃ f fd,FnOk g.P g.w g.K g.mg g.base CX0 k f fd ps sp∧YA g.K fd ps []∧Mk g.K C f∧g.mg x=some (.ref C)
abbrev Gx.cx (g:Gx) (N:List Str) (qual:Str) (st:Stmt) (f:Addr) (cdv:Value) (A:Around) (outer:List Env) (s:Shared) (H:Hp) (E:XK):Cx:=(XE CX0 g.P g.w g.K g.mg g.base N qual (Yd st) f cdv A outer s H E).nox
def WC (g:Gx) (k:Nat) (N:List Str) (qual:Str) (st:Stmt) (sp:Sp):Prop:=∀ (f:Addr) (cdv:Value) (A:Around) (outer:List Env) (s:Shared) (H:Hp) (vs:List V) (Q:VK) (E:XK),Room k (g.cx N qual st f cdv A outer s H E).A→sp vs H Q E →
 ∃ t,PSs (g.cx N qual st f cdv A outer s H E) (Yr st) t∧t { nx:=fun _ H'=>Q .non H',rt:=Q } (YY N vs) H
section
variable {g:Gx} {k:Nat} {x qual m:Str} {st:Stmt} {N ps:List Str} {sp:Sp} {C:Addr}
theorem Gx.Raw.fn (R:g.Raw x qual st ps) (S:FnScope N ps (Yd st)) (len:∀ vs H Q E,sp vs H Q E→vs.length=ps.length) (b:WC g k N qual st sp):g.Fn (k+1) x ps sp:=by
 obtain ⟨f,fd,F,bd,hm⟩:=R
 exact ⟨f,fd,F.ok S len fun cdv A outer s H vs Q E hr h=>b f cdv A outer s H vs Q E hr h,bd,F.kp,hm⟩
theorem Gx.RawM.me (R:g.RawM C m qual st ps) (S:FnScope N ps (Yd st)) (len:∀ vs H Q E,sp vs H Q E→vs.length=ps.length) (b:WC g k N qual st sp):g.Me (k+1) C m ps sp:=by
 obtain ⟨f,fd,F,bd,hm⟩:=R
 exact ⟨f,fd,F.ok S len fun cdv A outer s H vs Q E hr h=>b f cdv A outer s H vs Q E hr h,bd,hm⟩
theorem Gx.RawI.ma (R:g.RawI x C qual st ps) (S:FnScope N ps (Yd st)) (len:∀ vs H Q E,sp vs H Q E→vs.length=ps.length) (b:WC g k N qual st sp):g.Ma (k+1) x C ps sp:=by
 obtain ⟨f,fd,F,bd,hm,hg⟩:=R
 exact ⟨f,fd,F.ok S len fun cdv A outer s H vs Q E hr h=>b f cdv A outer s H vs Q E hr h,bd,hm,hg⟩
theorem Gx.Fn.mono {j:Nat} (F:g.Fn j x ps sp) (h:j≤k):g.Fn k x ps sp:=by
 obtain ⟨f,fd,F,r⟩:=F
 exact ⟨f,fd,F.mono h,r⟩
theorem Gx.Me.mono {j:Nat} (F:g.Me j C m ps sp) (h:j≤k):g.Me k C m ps sp:=by
 obtain ⟨f,fd,F,r⟩:=F
 exact ⟨f,fd,F.mono h,r⟩
theorem Gx.Raw.none (R:g.Raw x qual st ps) (no:∀ vs H Q E,¬ sp vs H Q E):g.Fn k x ps sp:=by
 obtain ⟨f,fd,F,bd,hm⟩:=R
 exact ⟨f,fd,⟨fun vs H Q E h=>absurd h (no vs H Q E),fun A outer s H args us vs Q E _ _ _ _ h=>absurd h (no vs H Q E)⟩,bd,F.kp,hm⟩
theorem Gx.RawM.none (R:g.RawM C m qual st ps) (no:∀ vs H Q E,¬ sp vs H Q E):g.Me k C m ps sp:=by
 obtain ⟨f,fd,F,bd,hm⟩:=R
 exact ⟨f,fd,⟨fun vs H Q E h=>absurd h (no vs H Q E),fun A outer s H args us vs Q E _ _ _ _ h=>absurd h (no vs H Q E)⟩,bd,hm⟩
end
section
variable {g:Gx} {X:Cx} {k j:Nat} {x m:Str} {ps:List Str} {sp:Sp} {C:Addr} {e o:Expr} {es:List Expr} {t:TA} {ta:TE} {p pos apos:Pos}
theorem Y7 (F:g.Fn j x ps sp) (hr:Room k X.A) (ha:PA X (e::es) t) (hj:j≤k) (hX:X.gx=g) (hg:Gl X x) (hdb:(x==("__debug__":Str))=false)
  (he:starEach (e::es) X.env=(false,eval e X.env)::starEach es X.env) (hpl:(backTo pos (starEach es X.env)).any (·.1)=false):PE X (.Call (.Name x p) (e::es) [] pos) (WQ sp [] E0 t):=by
 subst hX
 obtain ⟨f,fd,F,b,kp,hm⟩:=F
 exact UO F (hr.mono hj) hg hm kp b .nil WR ha hdb he hpl
theorem Xq {pl:Sem Bool} (F:g.Me j C m ps sp) (c:Cls g.K C) (hr:Room k X.A) (ho:PE X o ta) (ha:PA X (e::es) t) (hj:j≤k) (hX:X.gx=g)
  (hst:starEach (e::es) X.env=(false,eval e X.env)::starEach es X.env) (hpl:(backTo pos (starEach es X.env)).any (·.1)=false)
  (ht:eval (.Call (.Attribute o m apos) (e::es) [] pos) X.env=(do
   let ov ← eval o X.env
   standAt apos.atName
   let (f,first) ← holding [ov] (getMethod ov m pl)
   callWith pos f first (backTo pos (starEach (e::es) X.env)) (backToKw pos (keywordEach [] X.env)))):PE X (.Call (.Attribute o m apos) (e::es) [] pos) (Qm C m sp [] E0 ta t):=by
 subst hX
 obtain ⟨f,fd,F,b,hm⟩:=F
 exact YbD ho c hm F (hr.mono hj) b .nil WR ha hst hpl ht
theorem Qt (F:g.Ma j x C ps sp) (hr:Room k X.A) (ha:PA X (e::es) t) (hj:j+1≤k) (hX:X.gx=g) (hg:Gl X x) (hdb:(x==("__debug__":Str))=false)
  (he:starEach (e::es) X.env=(false,eval e X.env)::starEach es X.env) (hpl:(backTo pos (starEach es X.env)).any (·.1)=false):PE X (.Call (.Name x p) (e::es) [] pos) (Qo C sp [] E0 t):=by
 subst hX
 obtain ⟨f,fd,F,b,M,hm⟩:=F
 exact YbE M F (hr.mono hj) hg hm b .nil WR ha hdb he hpl
theorem Yv {id:String} {r:List V→Hp→VK→Prop} (hm:g.mg x=none) (hc:X0 X (.builtin id) r) (ha:PA X (e::es) t) (hv:bootBuiltins x=some (.builtin id)) (hX:X.gx=g) (hg:Gl X x) (hn:x≠"__name__") (hdb:(x==("__debug__":Str))=false)
  (he:starEach (e::es) X.env=(false,eval e X.env)::starEach es X.env) (hpl:(backTo pos (starEach es X.env)).any (·.1)=false):PE X (.Call (.Name x p) (e::es) [] pos) (tCB r t):=by
 subst hX
 exact YaB hc hg hm hv ha hn hdb he hpl
theorem Wk {T:String} (hm:g.mg x=none) (hv:bootBuiltins x=some (.type T)) (hX:X.gx=g) (hg:Gl X x) (hn:x≠"__name__") (hdb:(x==("__debug__":Str))=false):PE X (.Name x pos) (tC (.ty T)):=by
 subst hX
 exact Ybv hg hm hv rfl hn hdb
end
theorem Ycn {H:Hp} {p:Addr} {o:HO} (h:H p=some o):upd H p o=H:=by
 funext b
 unfold upd
 split
 ·rename_i e;rw [e,h]
 ·rfl
def S (l:List Nat):Str:=⟨l.toArray⟩
theorem Ua (l:List Nat):(S l).cps.toList=l:=by simp [S]
theorem YO (l:List Nat):(S l).length=l.length:=by simp [S,Str.length]
theorem Ybj (a b:List Nat):S a++S b=S (a++b):=by
 show Str.append (S a) (S b)=S (a++b)
 simp [Str.append,S]
theorem YbO (l:List Nat) (i:Nat):X5 (S l) (some (i:Int)) none=S (l.drop i):=by
 unfold X5
 rw [Ua,YO,HT.sIx_nat,HT.sIx_none]
 show S _=S _
 congr 1
 by_cases h:i≤l.length
 ·rw [Nat.min_eq_left h,List.take_of_length_le (by simp)]
 ·rw [Nat.min_eq_right (by omega),List.drop_eq_nil_of_le (Nat.le_refl _),List.drop_eq_nil_of_le (by omega)]
  simp
theorem YbP (l:List Nat) (j:Nat):X5 (S l) none (some (j:Int))=S (l.take j):=by
 unfold X5
 rw [Ua,YO,HT.sIx_nat,HT.sIx_none]
 show S _=S _
 congr 1
 simp only [List.drop_zero,Nat.sub_zero]
 by_cases h:j≤l.length
 ·rw [Nat.min_eq_left h]
 ·rw [Nat.min_eq_right (by omega),List.take_of_length_le (by omega),List.take_of_length_le (by omega)]
def VU (s:List Nat):List (List Nat)→List Nat
 | []=>[]
 | [x]=>x
 | x::y::r=>x++s++VU s (y::r)
theorem Yco (s:List Nat):∀ ys:List (List Nat),Txt.join (S s) (ys.map S)=S (VU s ys):=fun ys=>by
 have e:Txt.join (S s) (ys.map S)=Str.join (S s) (ys.map S):=eq_of_beq (join_plain_closes _ _)
 rw [e]
 induction ys with
 | nil=>rfl
 | cons x r ih =>
  cases r with
  | nil=>rfl
  | cons y r =>
   have ih':=ih (eq_of_beq (join_plain_closes _ _))
   show S x++S s++Str.join (S s) ((y::r).map S)=_
   rw [ih',Ybj,Ybj]
   rfl
end L2
namespace L2
open PySem PySem.Spec PyProof.Rows
section
variable {K:PySem.W.Frag} {h:Heap} {mg:Str→Option Value} {P:Program} {w:World} {base:Heap} {f C:Addr} {x qual m:Str} {st:Stmt} {ps:List Str} {oc kV dc pm cd ct:Value} {od an:Option Addr} {sl:Array (Option Value)}
theorem Y4 (X:K.In h) (G:h.Ns mainGlobals mg) (ps:List Str)
  (a:PySem.W.nsIn K mainGlobals x=some (some (.ref f))) (l:K.lookup f=some ⟨oc,od,.func (PySem.W.fnOf x x (Yx st) (Yr st) (Yd st) .none kV dc pm an cd ct),sl⟩) (c:PySem.W.codeIn K cd x=true) (k:PySem.W.keepIn K (.ref f)=true)
  (b:∀ (kV doc pm:Value) (an:Option Addr) (cdv ct:Value) (us:List Value),us.length=ps.length→bindArgs (PySem.W.fnOf x x (Yx st) (Yr st) (Yd st) .none kV doc pm an cdv ct) ⟨us,[]⟩=pure (ps.zip us)) :
  ∀ P w base,(Gx.mk P w K mg base).Raw x x st ps:=fun P w base =>
 have F:=XO (st:=st) l c k
 ⟨f,_,F,F.binds b,PySem.W.mg_of X G a⟩
theorem Xl (X:K.In h) (G:h.Ns mainGlobals mg) (ps:List Str)
  (a:PySem.W.findIn K (.ref C) m=some (some (.ref f))) (i:PySem.W.isFn K (.ref f)=true) (l:K.lookup f=some ⟨oc,od,.func (PySem.W.fnOf m qual (Yx st) (Yr st) (Yd st) .none kV dc pm an cd ct),sl⟩) (c:PySem.W.codeIn K cd qual=true) (k:PySem.W.keepIn K (.ref f)=true)
  (b:∀ (kV doc pm:Value) (an:Option Addr) (cdv ct:Value) (us:List Value),us.length=ps.length→bindArgs (PySem.W.fnOf m qual (Yx st) (Yr st) (Yd st) .none kV doc pm an cdv ct) ⟨us,[]⟩=pure (ps.zip us)) :
  ∀ P w base,(Gx.mk P w K mg base).RawM C m qual st ps:=fun P w base =>
 have F:=XO (st:=st) l c k
 ⟨f,_,F,F.binds b,⟨a,i,k⟩⟩
theorem Vl (X:K.In h) (G:h.Ns mainGlobals mg) (ps:List Str) (aC:PySem.W.nsIn K mainGlobals x=some (some (.ref C))) (mk:PySem.W.makesIn K C=true) (kc:PySem.W.keepIn K (.ref C)=true)
  (a:PySem.W.findIn K (.ref C) "__init__"=some (some (.ref f))) (i:PySem.W.isFn K (.ref f)=true) (l:K.lookup f=some ⟨oc,od,.func (PySem.W.fnOf "__init__" qual (Yx st) (Yr st) (Yd st) .none kV dc pm an cd ct),sl⟩) (c:PySem.W.codeIn K cd qual=true) (k:PySem.W.keepIn K (.ref f)=true)
  (b:∀ (kV doc pm:Value) (an:Option Addr) (cdv ct:Value) (us:List Value),us.length=ps.length→bindArgs (PySem.W.fnOf "__init__" qual (Yx st) (Yr st) (Yd st) .none kV doc pm an cdv ct) ⟨us,[]⟩=pure (ps.zip us)) :
  ∀ P w base,(Gx.mk P w K mg base).RawI x C qual st ps:=fun P w base =>
 have F:=XO (st:=st) l c k
 ⟨f,_,F,F.binds b,⟨mk,a,i,kc⟩,PySem.W.mg_of X G aC⟩
end
def Q6 (K:PySem.W.Frag) (mg:Str→Option Value) (st:Stmt) (x n:Str):Prop:=∃ f fd,Fun K n n st f fd∧(∀ (s:Shared) (u:Value),BindsTo s fd ⟨[u],[]⟩ [(x,u)])∧mg n=some (.ref f)
theorem Q7 {K:PySem.W.Frag} {h:Heap} {mg:Str→Option Value} {f:Addr} {x n:Str} {st:Stmt} {oc kV dc pm cd ct:Value} {od an:Option Addr} {sl:Array (Option Value)} (X:K.In h) (G:h.Ns mainGlobals mg)
  (a:PySem.W.nsIn K mainGlobals n=some (some (.ref f))) (l:K.lookup f=some ⟨oc,od,.func (PySem.W.fnOf n n (Yx st) (Yr st) (Yd st) .none kV dc pm an cd ct),sl⟩) (c:PySem.W.codeIn K cd n=true) (k:PySem.W.keepIn K (.ref f)=true)
  (b:∀ (kV doc pm:Value) (an:Option Addr) (cdv ct:Value) (s:Shared) (u:Value),BindsTo s (PySem.W.fnOf n n (Yx st) (Yr st) (Yd st) .none kV doc pm an cdv ct) ⟨[u],[]⟩ [(x,u)]):Q6 K mg st x n :=
 ⟨f,_,XO (st:=st) l c k,b kV dc pm an cd ct,PySem.W.mg_of X G a⟩
end L2
namespace L2
open PySem PySem.Spec PyProof.Rows
section
variable {X:Cx}
theorem UV {a:Int} {m:Nat} (h:a.natAbs<2^m):Builtin.Int.intBits a≤m:=by
 unfold Builtin.Int.intBits
 split
 ·omega
 ·rename_i h0
  have h0:a.natAbs≠0:=by simpa using h0
  have:=(Nat.log2_lt h0).mpr h
  omega
def VV (i j:Int):Prop:=∃ m n:Nat,i.natAbs<2^m∧j.natAbs<2^n∧m+n≤100000000
theorem VV.ok {i j:Int} (h:VV i j):IntMulOk i j:=by
 obtain ⟨m,n,h1,h2,h3⟩:=h
 exact IntMulOk.of_le (UV h1) (UV h2) (by omega)
def Ybk (i j:Int):Prop:=0<j∧j.natAbs<2^9000
theorem XS:OpR X (binaryOp .FloorDiv) (rI Ybk fun i j => .int (i / j)):=opI fun i j _ _ _ _ _ hc q=>by
 have h1:(0:Int)<j:=hc.1
 have h2:=hc.2
 have h3:j.natAbs≠0:=by omega
 exact floordiv_int (by omega) (by rw [Int.fdiv_eq_ediv_of_nonneg i (by omega)];exact q) (.inl (PyProof.noPylong_of_log2 ((Nat.log2_lt h3).mpr h2)))
theorem Q8 {j:Int} (h:0<j) (h2:j<1073741824) {i:Int}:Ybk i j:=⟨h,Nat.lt_of_lt_of_le (show j.natAbs<2^30 by omega) (Nat.pow_le_pow_right (by decide) (by decide))⟩
end
end L2
namespace L2
open PySem PySem.Spec PyProof.Rows
theorem Ycp {CX:CXT} {P:Program} {w:World} {K:PySem.W.Frag} {mg:Str→Option Value} {base:Heap} {N:List Str} {qual:Str} {scope:Scope} {f:Addr} {cd:Value} {A:Around} {outer:List Env} {s:Shared} {H:Hp} {E:XK} :
  (XE CX P w K mg base N qual scope f cd A outer s H E).K=K:=rfl
theorem nox_K {X:Cx}:X.nox.K=X.K:=rfl
section
variable {g:TG} {tb:TS} {D:Ends} {σ:St} {H:Hp}
theorem UE {ta:TA} {n:Nat} (Pv:Nat→St→Hp→Prop) (ha:∀ R:List V→Hp→Prop,R [.int n] H→ta σ H R) (hn:n<2^62) (h0:Pv 0 σ H)
  (hs:∀ i σ H,i<n→Pv i σ H→g (.int i) σ H fun σ2 H2=>tb { D with nx:=Pv (i+1),ct:=Pv (i+1),bk:=D.nx } σ2 H2) (hd:∀ σ H,Pv n σ H→D.nx σ H):tFor (VO ta) g tb D σ H:=by
 refine ha _ ⟨n,rfl,by omega,by omega,?_⟩
 refine Vs (lo:=0) (n:=n) Pv h0 (fun i σ H hi p=>?_) hd
 have e:(0:Int)+i=i:=by omega
 rw [e];exact hs i σ H hi p
end
end L2
namespace L2
open PySem PySem.Spec PyProof.Rows
section
variable {X:Cx}
end
section
variable {X:Cx} {elts:List Expr} {kk:Nat} {tpos:Pos}
end
end L2
namespace L2
open PySem PySem.Spec PyProof.Rows
mutual
inductive Den (K:PySem.W.Frag) (H:Hp):V→PyData→Prop
 | non:Den K H .non .none
 | bl (b:Bool):Den K H (.bl b) (.bool b)
 | int (i:Int):Den K H (.int i) (.int i)
 | str (x:Str) (h:PyData.strOk x=true):Den K H (.str x) (.str x)
 | lst {a:Addr} {vs:List V} {ds:List PyData}:SqL K H a vs→Dens K H vs ds→Den K H (.ref a) (.list ds)
 | tup {a:Addr} {vs:List V} {ds:List PyData}:SqT K H a vs→Dens K H vs ds→Den K H (.ref a) (.tuple ds)
inductive Dens (K:PySem.W.Frag) (H:Hp):List V→List PyData→Prop
 | nil:Dens K H [] []
 | cons {v:V} {d:PyData} {vs:List V} {ds:List PyData}:Den K H v d→Dens K H vs ds→Dens K H (v::vs) (d::ds)
end
mutual
theorem Den.keep {K:PySem.W.Frag} {H H':Hp} (e:Yj H H'):∀ {v:V} {d:PyData},Den K H v d→Den K H' v d
 | _,_,.non => .non
 | _,_,.bl b => .bl b
 | _,_,.int i => .int i
 | _,_,.str x h => .str x h
 | _,_,.lst h hs => .lst (e.seq h) (hs.keep e)
 | _,_,.tup h hs => .tup (e.tup h) (hs.keep e)
theorem Dens.keep {K:PySem.W.Frag} {H H':Hp} (e:Yj H H'):∀ {vs:List V} {ds:List PyData},Dens K H vs ds→Dens K H' vs ds
 | _,_,.nil => .nil
 | _,_,.cons h hs => .cons (h.keep e) (hs.keep e)
end
mutual
theorem Den.lay {K:PySem.W.Frag} {H:Hp}:∀ {v:V} {d:PyData},Den K H v d→d.canLay0=true
 | _,_,.non=>rfl
 | _,_,.bl b=>rfl
 | _,_,.int i=>rfl
 | _,_,.str x h=>by simpa [PyData.canLay0] using h
 | _,_,.lst _ hs=>by rw [PyData.canLay0];exact hs.lay
 | _,_,.tup _ hs=>by rw [PyData.canLay0];exact hs.lay
theorem Dens.lay {K:PySem.W.Frag} {H:Hp}:∀ {vs:List V} {ds:List PyData},Dens K H vs ds→PyData.canLayAll0 ds=true
 | _,_,.nil=>rfl
 | _,_,.cons h hs=>by rw [PyData.canLayAll0,h.lay,hs.lay];rfl
end
theorem Dens.length {K:PySem.W.Frag} {H:Hp}:∀ {vs:List V} {ds:List PyData},Dens K H vs ds→vs.length=ds.length
 | _,_,.nil=>rfl
 | _,_,.cons _ hs=>congrArg (·+1) hs.length
theorem Dens.append {K:PySem.W.Frag} {H:Hp} {vs':List V} {ds':List PyData}:∀ {vs:List V} {ds:List PyData},Dens K H vs ds→Dens K H vs' ds'→Dens K H (vs++vs') (ds++ds')
 | _,_,.nil,h=>h
 | _,_,.cons a b,h => .cons a (b.append h)
section
variable {X:Cx}
mutual
theorem Den.reads {pins:List (Addr×Obj)} {σ:St} {H:Hp} {s:Shared} (I:Inv X pins σ H s):∀ {v:V} {d:PyData} {u:Value},Den X.K H v d→Ym v u→∃ as,Reads s.heap u d as
 | _,_,u,.non,r=>by cases (show u = .none from r);exact ⟨_,.none⟩
 | _,_,u,.bl b,r=>by cases (show u = .bool b from r);exact ⟨_,.bool b⟩
 | _,_,u,.int i,r=>by obtain ⟨t,rfl⟩:=r;exact ⟨_,.int i t⟩
 | _,_,u,.str x h,r=>by obtain ⟨t,rfl⟩:=r;exact ⟨_,.str x t⟩
 | _,_,u,.lst (a:=a) h hs,r=>by
  cases (show u = .ref a from r)
  obtain ⟨its,rv,pl,hz⟩:=I.list h
  obtain ⟨as,ra⟩:=hs.reads I rv
  obtain ⟨o,e1,e2,n,e3⟩:=pl.isList
  exact ⟨_,.list e1 e2 e3 (by simpa using ra)⟩
 | _,_,u,.tup (a:=a) h hs,r=>by
  cases (show u = .ref a from r)
  obtain ⟨its,rv,pl,hz⟩:=I.tuple h
  obtain ⟨as,ra⟩:=hs.reads I rv
  obtain ⟨o,e1,e2,n,e3⟩:=(show s.heap.IsTuple a its.toArray from pl)
  exact ⟨_,.tuple e1 e2 e3 (by simpa using ra)⟩
theorem Dens.reads {pins:List (Addr×Obj)} {σ:St} {H:Hp} {s:Shared} (I:Inv X pins σ H s):∀ {vs:List V} {ds:List PyData} {us:List Value},Dens X.K H vs ds→Yl vs us→∃ as,ReadsAll s.heap us ds as
 | _,_,us,.nil,r=>by cases r;exact ⟨_,.nil⟩
 | _,_,us,.cons h hs,r=>by
  cases r with
  | cons r rr =>
   obtain ⟨as,ra⟩:=h.reads I r
   obtain ⟨bs,rb⟩:=hs.reads I rr
   exact ⟨_,.cons ra rb⟩
end
theorem Ycq (hu:X.A.units+64<cLine):OpR X (compareOp .Eq) (fun x y H Q=>∃ d e,Den X.K H x d∧Den X.K H y e∧d.depth≤64∧Q (.bl (PyData.eqv d e)) H):=by
 intro pins s σ H x y v u Q I rx ry h
 obtain ⟨d,e,hd,he,dp,q⟩:=h
 obtain ⟨as,ra⟩:=hd.reads I rx
 obtain ⟨bs,rb⟩:=he.reads I ry
 exact SeqAt.rcAt_reads ra rb hd.lay he.lay (by omega) _ _ _ _ ⟨.bl _,H,I,rfl,q⟩
theorem Q9 (hu:X.A.units+64<cLine):OpR X (compareOp .NotEq) (fun x y H Q=>∃ d e,Den X.K H x d∧Den X.K H y e∧d.depth≤64∧Q (.bl (!PyData.eqv d e)) H):=by
 intro pins s σ H x y v u Q I rx ry h
 obtain ⟨d,e,hd,he,dp,q⟩:=h
 obtain ⟨as,ra⟩:=hd.reads I rx
 obtain ⟨bs,rb⟩:=he.reads I ry
 exact SeqAt.compareNe_reads ra rb hd.lay he.lay (by omega) ⟨.bl _,H,I,rfl,q⟩
end
theorem VC {α:Type} {l:List α} {i:Nat} {x:α} (h:l[i]?=some x):l.take (i+1)=l.take i++[x]:=by
 obtain ⟨hi,hc⟩:=List.getElem?_eq_some_iff.mp h
 rw [List.take_succ_eq_append_getElem hi,hc]
theorem Ycr {J:It} {P:Hp→Prop} {xs:List V} (hJ:W8 J P xs) {src:List (Option Nat)} {te:TE} {σ:St} {H1:Hp} {Q:VK} {D:Addr} (ys:List V) (hP:∀ H',Yj H1 H'→P H') (hD:H1 D=none) (hl:ys.length=xs.length) (hlen:xs.length≤100000)
  (step:∀ (i:Nat) x y H',xs[i]?=some x→ys[i]?=some y→Yj H1 H'→∀ R:VK,(∀ H'',Yj H' H''→R y H'')→te (some x::YW src σ) H' R)
  (fin:∀ H',Yj H1 H'→H' D=some (.lst ys)→Q (.ref D) H'):LC (none::src) J (Xi 0) V8 te σ H1 Q D:=by
 have h6:100000<sizeLine:=by decide
 refine lc_on hJ (fun i zs σ' H'=>zs=ys.take i∧(∃ o,σ'=o::YW src σ)∧Yj H1 H'∧H' D=some (.lst zs)) ⟨by simp,⟨none,rfl⟩,.upd_new hD _,Ye⟩ (fun i zs σ' H' p=>⟨hP _ p.2.2.1,p.2.2.2⟩) (Qs 0) ?_ ?_
 ·rintro i zs σ' H' x hx ⟨rfl,⟨o,rfl⟩,sm,hd⟩
  have hi:=(List.getElem?_eq_some_iff.mp hx).1
  have hy:ys[i]?=some (ys[i]'(by omega)):=List.getElem?_eq_getElem _
  show te (some x::YW src σ) H' _
  refine step i x _ H' hx hy sm _ fun H'' s2=>⟨s2 _ _ hd,?_,(VC hy).symm,⟨_,rfl⟩,.upd_over hD (sm.trans s2) _,Ye⟩
  rw [List.length_take];omega
 ·rintro zs σ' H' ⟨rfl,_,sm,hd⟩
  rw [← hl,List.take_length] at hd
  exact fin H' sm hd
end L2
namespace L2
open PySem PySem.Spec PyProof.Rows
section
variable {a b c d e r:TS} {D:Ends} {σ:St} {H:Hp} (M:St→Hp→Prop) (h1:∀ σ H,M σ H→r D σ H)
include h1
theorem cut1 (h2:∀ N:St→Hp→Prop,(∀ σ H,M σ H→N σ H)→a { D with nx:=N } σ H):Y9 a r D σ H:=h2 (r D) h1
theorem Ub (h2:∀ N:St→Hp→Prop,(∀ σ H,M σ H→N σ H)→Y9 a b { D with nx:=N } σ H):Y9 a (Y9 b r) D σ H:=h2 (r D) h1
theorem cut5 (h2:∀ N:St→Hp→Prop,(∀ σ H,M σ H→N σ H)→Y9 a (Y9 b (Y9 c (Y9 d e))) { D with nx:=N } σ H):Y9 a (Y9 b (Y9 c (Y9 d (Y9 e r)))) D σ H:=h2 (r D) h1
end
theorem YbQ (i j:Int):Qf (.int i) (.int j)=true:=rfl
theorem X9 (i j:Str):Qf (.str i) (.str j)=true:=rfl
end L2
namespace L2
open PySem PySem.Spec PyProof.Rows
theorem Uc {α:Type} {c:TT} {tb:TS} {D:Ends} {σ:St} {H:Hp} (Pv:α→St→Hp→Prop) (cond:α→Bool) (μ:α→Nat) (a₀:α) (h0:Pv a₀ σ H)
  (hc:∀ a σ H,Pv a σ H→∀ R:Bool→Hp→Prop,(∀ H',Pv a σ H'→R (cond a) H')→c σ H R)
  (hb:∀ a σ H,Pv a σ H→cond a=true→tb { D with nx:=fun σ' H'=>∃ a',Pv a' σ' H'∧μ a'<μ a,ct:=fun σ' H'=>∃ a',Pv a' σ' H'∧μ a'<μ a,bk:=D.nx } σ H)
  (hd:∀ a σ H,Pv a σ H→cond a=false→D.nx σ H):QR c tb D σ H:=by
 refine ⟨fun m σ H=>∃ a,m=μ a∧Pv a σ H,⟨_,a₀,rfl,h0⟩,?_⟩
 rintro m σ H ⟨a,rfl,p⟩
 refine hc a σ H p _ fun H' p'=>?_
 cases e:cond a with
 | true=>exact ⟨_,fun σ' H' ⟨a',q,l⟩=>⟨_,l,a',rfl,q⟩,hb a σ H' p' e⟩
 | false=>exact hd a σ H' p' e
section
variable {X:Cx} {tg:Expr}
end
end L2
namespace L2
open PySem PySem.Spec PyProof.Rows
end L2
namespace L2
open PySem PySem.Spec PyProof.Rows
section
variable {src:List (Option Nat)} {te:TE} {σ:St} {H:Hp} {Q:VK}
end
end L2
namespace L2
open PySem PySem.Spec PyProof.Rows
section
variable {src:List (Option Nat)} {te:TE} {σ:St} {H:Hp} {Q:VK}
end
section
variable {X:Cx} {K:PySem.W.Frag}
end
end L2
namespace L2
open PySem PySem.Spec PyProof.Rows
section
variable {tb:TS} {D:Ends} {σ:St} {H:Hp}
end
end L2
namespace L2
open PySem PySem.Spec PyProof.Rows
section
variable {X:Cx} {e st:Expr} {te ts:TE} {pos p2:Pos}
def tRev (K:PySem.W.Frag) (te ts:TE):TE:=fun σ H Q=>te σ H fun x H1=>ts σ H1 fun y H2=>y = .int (-1)∧∃ a xs,x = .ref a∧SqL K H2 a xs∧∀ p,H2 p=none→Q (.ref p) (upd H2 p (.lst xs.reverse))
end
end L2
namespace L2
open PySem PySem.Spec PyProof.Rows
section
variable {X:Cx} {pos:Pos}
theorem Ycs:OpR X (compareOp .Is) (fun x y H Q=>∃ a b,x = .bl a∧y = .bl b∧Q (.bl (a==b)) H):=by
 intro pins s σ H x y v u Q I rx ry h
 obtain ⟨a,b,rfl,rfl,q⟩:=h
 cases rx
 cases ry
 exact is_bool ⟨.bl _,H,I,rfl,q⟩
def rBits:V→List V→Hp→VK→Prop:=fun x vs H Q=>∃ i,x = .int i∧vs=[]∧Q (.int (Builtin.Int.intBits i:Nat)) H
def rFind:V→List V→Hp→VK→Prop:=fun x vs H Q=>∃ (z y:Str),x = .str z∧vs=[.str y]∧Q (.int (Txt.find z y)) H
def Yct:TE:=fun _ H Q=>∀ p,H p=none→Q (.ref p) (upd H p (.dK []))
end
section
variable {X:Cx} {g:Gx} {x:Str} {pos:Pos}
def tConT (K:PySem.W.Frag) (xs:List V):TE:=fun _ H Q=>∀ c,SqT K H c xs→Q (.ref c) H
end
end L2
namespace L2
open PySem PySem.Spec PyProof.Rows
theorem YG {c A B:Prop} [Decidable c] (h:¬ c) (hb:B):if c then A else B:=by rw [if_neg h];exact hb
theorem XT {c A B:Prop} [Decidable c] (h:c) (ha:A):if c then A else B:=by rw [if_pos h];exact ha
section
variable {src:List (Option Nat)} {te:TE} {σ:St} {H:Hp} {Q:VK}
end
section
variable {X:Cx} {K:PySem.W.Frag} {o e:Expr} {es:List Expr} {to:TE} {t:TA} {name:Str} {apos cpos:Pos} {T id:String} {r:V→List V→Hp→VK→Prop}
end
section
variable {X:Cx}
def CMulC (i j:Int):Prop:=VV i j∨CMul i j
theorem Wa:OpR X (binaryOp .Mult) (rI CMulC fun i j => .int (i*j)):=opI fun _ _ _ _ _ _ _ hc q=>mul_int q (hc.elim (fun h=>h.ok) fun h=>h.ok)
end
end L2
namespace L2
open PySem PySem.Spec PyProof.Rows
section
variable {prog:Program} {w:World} {A:Around} {E:Value→Shared→Prop} {s:Shared} {z TI TO i1 i2 T:Addr} {S1 S2:Nat→Heap→Prop} {R1 R2:Heap→(Nat→Option Value)→Prop} {g1 g2:Nat→Option Value} {k:Nat} {a b:Value} {f:Bool} {oT:Obj}
end
section
variable {prog:Program} {w:World} {A:Around} {s:Shared} {R:Result→Shared→Prop} {z TI TO i1 i2 S p1 p2:Addr} {xs ys:List Value}
end
end L2
namespace L2
open PySem PySem.Calls PySem.Spec PyProof.Rows PyProof.V
section
variable {prog:Program} {w:World} {A:Around} {E:Value→Shared→Prop} {s:Shared} {z TI TO i1 i2 p1 p2:Addr} {xs ys:List Value}
end
end L2
namespace L2
open PySem PySem.Spec PyProof.Rows
section
variable {X:Cx} {pins:List (Addr×Obj)} {σ:St} {H H':Hp} {s:Shared} {h':Heap}
end
section
variable {X:Cx}
def tLZ (K:PySem.W.Frag) (ta:TA):TE:=fun σ H Q=>ta σ H fun vs H1=>∃ a b xs ys,vs=[.ref a,.ref b]∧SqT K H1 a xs∧SqT K H1 b ys∧xs.length=ys.length ∧
 ∀ (l:Addr) (as:List Addr) (H2:Hp),H1 l=none→Yj H1 H2→H2 l=some (.lst (as.map V.ref))→as.length=xs.length →
  (∀ (j:Nat) a x y,as[j]?=some a→xs[j]?=some x→ys[j]?=some y→H1 a=none∧H2 a=some (.tup [x,y]))→Q (.ref l) H2
end
end L2
namespace L2
open PySem PySem.Spec PyProof.Rows
section
variable {src:List (Option Nat)} {te:TE} {σ:St} {H:Hp} {Q:VK}
end
end L2
namespace L2
open PySem PySem.Spec PyProof.Rows
section
variable {X:Cx}
end
end L2
namespace L2
open PySem PySem.Spec PyProof.Rows
def Yp {α:Type}:Sem α→Prop
 | .pure _=>True
 | .raise _=>True
 | .unsupported _=>True
 | .rule _ k=>Yp (k ())
 | .at _ k=>Yp (k ())
 | .load _ _ k=>∀ o,Yp (k o)
 | .update _ _ f k=>(∀ o:Obj,(f o).dict=o.dict∧(f o).isFreed=o.isFreed)∧Yp (k ())
 | .alloc _ k=>∀ a,Yp (k a)
 | .stack k=>∀ x,Yp (k x)
 | _=>False
def Y5 (h:Heap) (e:Addr) (dc:Option Addr):Prop:=∃ o,h.get? e=some o∧o.dict=dc
theorem Yaa {α β:Type} {f:α→Sem β} (m:Sem α):Yp m→(∀ a,Yp (f a))→Yp (m.bind f):=by
 induction m with
 | pure a=>intro _ hf;exact hf a
 | raise e=>intro _ _;simp only [Sem.bind,Yp]
 | unsupported e=>intro _ _;simp only [Sem.bind,Yp]
 | rule n k ih=>intro h hf;simp only [Yp] at h;simp only [Sem.bind,Yp];exact ih () h hf
 | «at» n k ih=>intro h hf;simp only [Yp] at h;simp only [Sem.bind,Yp];exact ih () h hf
 | load a b k ih=>intro h hf;simp only [Yp] at h;simp only [Sem.bind,Yp];exact fun o=>ih o (h o) hf
 | update a b g k ih=>intro h hf;simp only [Yp] at h;simp only [Sem.bind,Yp];exact ⟨h.1,ih () h.2 hf⟩
 | alloc a k ih=>intro h hf;simp only [Yp] at h;simp only [Sem.bind,Yp];exact fun o=>ih o (h o) hf
 | stack k ih=>intro h hf;simp only [Yp] at h;simp only [Sem.bind,Yp];exact fun o=>ih o (h o) hf
 | _=>intro h;simp only [Yp] at h
theorem YbR {M:Model} {Γ:PySem.Ctx} {α:Type} {Q:α→Pos→Shared→Prop} {E:Value→Pos→Shared→Prop} {e:Addr} {dc:Option Addr} (t:Sem α):Yp t→∀ (p:Pos) (s:Shared),Sem.wp M Γ t Q E p s→Y5 s.heap e dc→Sem.wp M Γ t (fun a p s'=>Q a p s'∧Y5 s'.heap e dc) (fun v p s'=>E v p s'∧Y5 s'.heap e dc) p s:=by
 induction t with
 | pure a=>intro _ p s h d;simp only [Sem.wp] at h ⊢;exact ⟨h,d⟩
 | raise a=>intro _ p s h d;simp only [Sem.wp] at h ⊢;exact ⟨h,d⟩
 | unsupported a=>intro _ p s h d;simp only [Sem.wp] at h
 | rule n k ih=>intro t p s h d;simp only [Yp] at t;simp only [Sem.wp] at h ⊢;exact ih () t p s h d
 | «at» n k ih=>intro t p s h d;simp only [Yp] at t;simp only [Sem.wp] at h ⊢;exact ih () t n s h d
 | load a b k ih=>intro t p s h d;simp only [Yp] at t;simp only [Sem.wp] at h ⊢;obtain ⟨o,h1,h2⟩:=h;exact ⟨o,h1,ih o (t o) p s h2 d⟩
 | update a b f k ih =>
  intro t p s h d
  simp only [Yp] at t
  simp only [Sem.wp] at h ⊢
  obtain ⟨o,d1,d2⟩:=d
  refine ⟨h.1,ih () t.2 p _ h.2 ?_⟩
  by_cases c:a=e
  ·subst c
   exact ⟨f o,Heap.get?_update_self f d1 (by rw [(t.1 o).2];exact (Heap.get?_some_iff.mp d1).2),by rw [(t.1 o).1];exact d2⟩
  ·exact ⟨o,(Heap.get?_update_other _ _ c).trans d1,d2⟩
 | alloc a k ih=>intro t p s h d;simp only [Yp] at t;simp only [Sem.wp] at h ⊢;obtain ⟨o1,d1,d2⟩:=d;exact ih _ (t _) p _ h ⟨o1,Heap.get?_push_of_some _ d1,d2⟩
 | stack k ih=>intro t p s h d;simp only [Yp] at t;simp only [Sem.wp] at h ⊢;exact ih _ (t _) p s h d
 | _=>intro t;simp only [Yp] at t
theorem XU {M:Model} {A:Around} {α:Type} {t:Sem α} {Q:α→Shared→Prop} {E:Value→Shared→Prop} {s:Shared} {e:Addr} {dc:Option Addr} (T:Yp t) (d:Y5 s.heap e dc) (h:wpAny M A t Q E s):wpAny M A t (fun a s'=>Q a s'∧Y5 s'.heap e dc) (fun v s'=>E v s'∧Y5 s'.heap e dc) s :=
 fun Γ p hΓ=>YbR t T p s (h Γ p hΓ) d
theorem Yw {α β:Type} {m:Sem α} {f:α→Sem β} (h:Yp m) (hf:∀ a,Yp (f a)):Yp (m >>= f):=Yaa m h hf
theorem Wb {α:Type} (a:α):Yp (pure a:Sem α):=trivial
theorem Ycu {α:Type} (x:String):Yp (unsupported x:Sem α):=trivial
theorem Qu:Yp stack:=fun _=>trivial
theorem YaG (a:Addr) (f:Obj→Obj) (h:∀ o:Obj,(f o).dict=o.dict∧(f o).isFreed=o.isFreed):Yp (update a f):=⟨h,trivial⟩
theorem VI (v:Value):Yp (fieldsOf v):=by
 unfold fieldsOf
 cases v<;>first | trivial | skip
 refine Yw (fun o=>trivial) fun o=>?_
 cases o.data<;>trivial
theorem XG (v:Value) (i:Nat):Yp (field v i):=by
 unfold field
 refine Yw (VI v) fun vs=>?_
 cases vs[i]?<;>trivial
theorem mapF (f:Array Value→Array Value) (o:Obj):(Obj.mapFields f o).dict=o.dict∧(Obj.mapFields f o).isFreed=o.isFreed:=by
 obtain ⟨c,d,dt,sl⟩:=o
 cases dt<;>exact ⟨rfl,rfl⟩
theorem WY (a:Addr) (i:Nat) (v:Value):Yp (updateField a i v):=by
 unfold updateField
 refine Yw (fun o=>trivial) fun o=>?_
 cases o.data with
 | fields vs =>
  dsimp only
  split
  ·exact ⟨mapF _,trivial⟩
  ·trivial
 | _=>trivial
theorem Xj (v:Value) (i:Nat) (x:Value):Yp (setField v i x):=by
 unfold setField
 cases v<;>first | trivial | exact WY _ _ _
theorem Xu (v:Value) (f:Option Addr):Yp (setFlight v f):=by
 unfold setFlight
 refine Yw (XG _ _) fun tb=>?_
 split
 ·exact Xj _ _ _
 ·trivial
theorem VJ (env:Env) (b:Bool) (l:List Env):Yp (keptBack env b l):=by
 cases l with
 | nil =>
  rw [keptBack]
  by_cases c:(env.scope.isGenerator||env.scope.isCoroutine)=true
  ·rw [if_pos c];exact Wb _
  ·rw [if_neg c]
   refine Yw ?_ fun x=>Wb _
   unfold underTheClaimsCaller
   exact Yw Qu fun x=>Wb _
 | cons x r=>rw [keptBack];exact Wb _
theorem W9:∀ l:List Env,Yp (readyFrames l)
 | []=>trivial
 | env::outer=>by
  unfold readyFrames
  cases env.frame with
  | none=>trivial
  | some f =>
   dsimp only
   refine Yw (fun o=>trivial) fun o=>?_
   split
   ·trivial
   ·refine Yw ?_ fun b=>Yw (VJ _ _ _) fun k=>Yw (YaG _ _ fun o=>by obtain ⟨c,d,dt,sl⟩:=o;cases dt<;>exact ⟨rfl,rfl⟩) fun _=>W9 outer
    unfold behindIsImport
    split
    ·trivial
    ·split
     ·trivial
     ·exact Yw (XG _ _) fun x=>trivial
theorem WD (env:Env):Yp (PySem.frameOf env):=by
 unfold PySem.frameOf frameEnvs
 refine Yw (Yw (fun x=>trivial) fun x=>trivial) fun l=>?_
 generalize l.dropWhile _=l'
 refine Yw ?_ fun r=>?_
 ·cases l' with
  | nil=>trivial
  | cons x r =>
   unfold frameObject
   exact Yw (W9 _) fun _=>trivial
 ·cases r<;>trivial
theorem Vm (ty:String) (vs:List Value):Yp (newFields ty vs):=by
 unfold newFields newObj
 dsimp only
 split
 ·exact Yw (Ycu _) fun _=>Yw (fun _=>trivial) fun _=>Wb _
 ·exact Yw (m:=alloc _) (fun _=>trivial) fun _=>Wb _
theorem Wp (a b c d e:Value) (pl:List Value):Yp (EntryCells.newEntry a b c d e pl):=Vm _ _
theorem Va (f:Addr) (b:Bool):Yp (entryPlaceOf f b):=by
 unfold entryPlaceOf
 refine Yw (fun x=>trivial) fun l=>?_
 split<;>trivial
theorem Wc (e:Value) (env:Env):Yp (noteFrame e env):=by
 unfold noteFrame
 cases env.frame with
 | none=>trivial
 | some f =>
  dsimp only
  refine Yw (XG _ _) fun hd=>?_
  split
  ·refine Yw (XG _ _) fun x=>?_
   split
   ·trivial
   ·exact Yw (Xj _ _ _) fun _=>Yw (WD _) fun _=>Yw (Va _ _) fun _=>Yw (Wp _ _ _ _ _ _) fun _=>Xj _ _ _
  ·exact Yw (WD _) fun _=>Yw (Va _ _) fun _=>Yw (Wp _ _ _ _ _ _) fun _=>Xj _ _ _
theorem WE (env:Env) (e:Value):Yp (leaving env e):=by
 unfold leaving
 exact Yw (Wc _ _) fun _=>Xu _ _
structure Fly (P:Program) (w:World) (l:List Env) (H:Hp) (h:Heap) (e:Addr) (cls:Value) (H':Hp) (h' B:Heap):Prop where
 fl:∃ a0,Heap.FlyingW B l e cls a0 h'
 hok:HOk P w H' B
 keep:∀ b o,h.get? b=some o→H b=none→b∉frs l→B.get? b=some o
 slot:∀ b o,h.get? b=some o→H b=none→b∈frs l→∃ sl,h'.get? b=some { o with slots:=sl }
 al:∀ b o,h.get? b=some o→b∉frs l→∃ o',B.get? b=some o'
 free:∀ b o,h.get? b=some o→H b=none→H' b=none
 tups:∀ b xs,H b=some (.tup xs)→H' b=some (.tup xs)
 frzs:∀ b o u,H b=some (.frz o u)→H' b=some (.frz o u)
 tbls:∀ b ps,H b=some (.tbl ps)→∃ more,H' b=some (.tbl (ps++more))
section
variable {P:Program} {w:World} {l:List Env} {H H':Hp} {h h' h'' B:Heap} {e:Addr} {cls:Value}
theorem Fly.un (F:Fly P w l H h e cls H' h' B) (hf:∀ b∈frs l,H b=none):Un (frs l) [] H H' h h':=by
 obtain ⟨a0,fl⟩:=F.fl
 refine ⟨fun b o q n hb _=>fl.1 b o (F.keep b o q n hb),fun b o q n hb _=>F.slot b o q n hb,fun b o q n _=>F.free b o q n,fun b o q _=>?_,F.tups,F.frzs,F.tbls⟩
 by_cases hb:b∈frs l
 ·obtain ⟨sl,z⟩:=F.slot b o q (hf b hb) hb
  exact ⟨_,z⟩
 ·obtain ⟨o',z⟩:=F.al b o q hb
  exact ⟨o',fl.1 b o' z⟩
theorem Fly.held (F:Fly P w l H h e cls H' h' B):HOk P w H' h':=by
 obtain ⟨a0,fl⟩:=F.fl
 exact F.hok.kept fl.1
theorem Fly.on (F:Fly P w l H h e cls H' h' B) (fl:∃ a0,Heap.FlyingW B l e cls a0 h'') (nf:∀ b∈frs l,∀ o,h.get? b=some o→∀ vs,o.data ≠ .fields vs) (sm:h'.UpToSlots h''):Fly P w l H h e cls H' h'' B :=
 ⟨fl,F.hok,F.keep,fun b o q n hb=>by
  obtain ⟨sl,z⟩:=F.slot b o q n hb
  obtain ⟨sl',z'⟩:=sm b _ z (nf b hb o q)
  exact ⟨sl',z'⟩,F.al,F.free,F.tups,F.frzs,F.tbls⟩
end
section
variable {X:Cx} {pins:List (Addr×Obj)} {σ:St} {H H':Hp} {s s':Shared} {h' B:Heap} {e:Addr} {cls:Value} {M:Model} {A:Around} {Q:Unit→Shared→Prop} {EE:Value→Shared→Prop}
theorem Inv.notL (I:Inv X pins σ H s) {b:Addr} {o:Obj} (q:X.s₀.heap.get? b=some o):b≠X.env.locals:=Nat.ne_of_lt (Nat.lt_of_lt_of_le (Heap.lt_size q) I.ok.above)
theorem Inv.notStk (I:Inv X pins σ H s) (hf:X.env.frame=some X.env.locals) {b:Addr} {o:Obj} (q:X.s₀.heap.get? b=some o) (n:b∉X.fs):b∉frs (X.env::X.outer):=fun z=>by
 unfold frs at z
 rw [List.filterMap_cons,hf] at z
 rcases List.mem_cons.mp z with z | z
 ·exact I.notL q z
 ·exact n z
theorem Inv.inStk (I:Inv X pins σ H s) (hf:X.env.frame=some X.env.locals) {b:Addr} (n:b∈X.fs):b∈frs (X.env::X.outer):=by
 unfold frs
 rw [List.filterMap_cons,hf]
 exact List.mem_cons_of_mem _ n
theorem Inv.leave_on (I:Inv X pins σ H s) (hs:X.stack=X.env::X.outer) (hf:X.env.frame=some X.env.locals) (hex:X.ex=[]) (hA:A.frames=some (X.env::X.outer)) (F:Fly X.prog X.w X.stack H s.heap e cls H' s'.heap B) {dc:Option Addr} (hd:Y5 s'.heap e dc)
  (hQ:∀ h'',Fly X.prog X.w X.outer X.H₀ X.s₀.heap e cls H' h'' B→Y5 h'' e dc→Q () { s' with heap:=h'' }):wpAny M A (leaving X.env (.ref e)) Q EE s':=by
 have nx:∀ b:Addr,b∉X.ex:=by
  rw [hex]
  intro b z
  cases z
 rw [hs] at F
 obtain ⟨a0,fl⟩:=F.fl
 refine wpAny_mono (XU (WE _ _) hd (wpAny_leaves_onW (Q:=fun _ s2=>∃ h'',s2={ s' with heap:=h'' }∧Fly X.prog X.w X.outer X.H₀ X.s₀.heap e cls H' h'' B) hA hf fl fun h'' x1 x2=>⟨h'',rfl,?_⟩)) (fun _ s2 z=>by
  obtain ⟨⟨h'',rfl,F⟩,d⟩:=z
  exact hQ h'' F d) fun _ _ z=>z.1
 refine ⟨⟨_,x1⟩,F.hok,fun b o q n nb=>F.keep b o (I.base.keep b o q n nb (nx b)) (I.base.free b o q n (nx b)) (I.notStk hf q nb),fun b o q n hb=>?_,fun b o q nb=>?_,fun b o q n=>?_,fun b xs q=>F.tups b xs (I.base.tups b xs q),fun b o u q=>F.frzs b o u (I.base.frzs b o u q),fun b ps q=>?_⟩
 ·obtain ⟨sl,e1⟩:=I.base.slot b o q n hb (nx b)
  obtain ⟨sl1,e2⟩:=F.slot b _ e1 (I.base.free b o q n (nx b)) (I.inStk hf hb)
  obtain ⟨_,o',e',d⟩:=I.ok.funs.mem hb
  rw [q] at e'
  cases e'
  obtain ⟨sl',e3⟩:=x2 b _ e2 d
  exact ⟨sl',e3⟩
 ·obtain ⟨o',e1⟩:=I.base.there b o q (nx b)
  exact F.al b o' e1 (I.notStk hf q nb)
 ·obtain ⟨o',e1⟩:=I.base.there b o q (nx b)
  exact F.free b o' e1 (I.base.free b o q n (nx b))
 ·obtain ⟨m1,e1⟩:=I.base.tbls b ps q
  obtain ⟨m2,e2⟩:=F.tbls b _ e1
  exact ⟨m1++m2,by rw [e2,Array.append_assoc]⟩
end
def CXF (P:Program) (w:World):CXT:=fun l H s E e s'=>∃ (a:Addr) (cls:Value) (H':Hp) (B:Heap) (dc:Option Addr),e = .ref a∧s'.os=s.os∧AllBare s'.gens∧Fly P w l H s.heap a cls H' s'.heap B∧Y5 s'.heap a dc∧E cls dc H'
abbrev Gx.cxX (g:Gx) (N:List Str) (qual:Str) (st:Stmt) (f:Addr) (cdv:Value) (A:Around) (outer:List Env) (s:Shared) (H:Hp) (E:XK):Cx:=XE (CXF g.P g.w) g.P g.w g.K g.mg g.base N qual (Yd st) f cdv A outer s H E
section
variable {g:Gx} {N:List Str} {qual:Str} {st:Stmt} {f:Addr} {cdv:Value} {A:Around} {outer:List Env} {s:Shared} {H:Hp} {E:XK}
theorem Qv:Xh (CXF g.P g.w) (g.cxX N qual st f cdv A outer s H E) E:=by
 intro pins σ H1 s1 e s' I hq
 obtain ⟨a,cls,H',B,dc,he,os,bare,F,hd,q⟩:=hq
 subst he
 exact I.leave_on rfl rfl rfl I.ok.frames F hd fun h'' F' hd'=>⟨a,cls,H',B,dc,rfl,os.trans I.os,bare,F',hd',q⟩
end
def Gx.FnX (g:Gx) (k:Nat) (x:Str) (ps:List Str) (sp:Sp):Prop:=∃ f fd,FnOk g.P g.w g.K g.mg g.base (CXF g.P g.w) k f fd ps sp∧YA g.K fd ps []∧PySem.W.keepIn g.K (.ref f)=true∧g.mg x=some (.ref f)
def Ybl (g:Gx) (k:Nat) (N:List Str) (qual:Str) (st:Stmt) (sp:Sp):Prop:=∀ (f:Addr) (cdv:Value) (A:Around) (outer:List Env) (s:Shared) (H:Hp) (vs:List V) (Q:VK) (E:XK),Room k (g.cxX N qual st f cdv A outer s H E).A→sp vs H Q E →
 ∃ t,PSs (g.cxX N qual st f cdv A outer s H E) (Yr st) t∧t { nx:=fun _ H'=>Q .non H',rt:=Q } (YY N vs) H
section
variable {g:Gx} {k:Nat} {x qual m:Str} {st:Stmt} {N ps:List Str} {sp:Sp} {C:Addr}
theorem Gx.Raw.fnX (R:g.Raw x qual st ps) (S:FnScope N ps (Yd st)) (len:∀ vs H Q E,sp vs H Q E→vs.length=ps.length) (b:Ybl g k N qual st sp):g.FnX (k+1) x ps sp:=by
 obtain ⟨f,fd,F,bd,hm⟩:=R
 refine ⟨f,fd,?_,bd,F.kp,hm⟩
 obtain ⟨oc,od,kV,doc,pm,an,cdv,ct,osl,rfl,lk,hcd⟩:=F.ex
 exact VQ lk hcd S len fun A outer s H vs Q E hr h=>b f cdv A outer s H vs Q E hr h
theorem Gx.FnX.mono {j:Nat} (F:g.FnX j x ps sp) (h:j≤k):g.FnX k x ps sp:=by
 obtain ⟨f,fd,F,r⟩:=F
 exact ⟨f,fd,F.mono h,r⟩
end
section
variable {g:Gx} {X:Cx} {k j:Nat} {x:Str} {ps:List Str} {sp:Sp} {E:XK} {e:Expr} {es:List Expr} {t:TA} {p pos cpos np:Pos}
theorem Vb (F:g.FnX j x ps sp) (hr:Room k X.A) (hp:Xh (CXF g.P g.w) X E) (ha:PA X (e::es) t) (hj:j≤k) (hX:X.gx=g) (hg:Gl X x) (hdb:(x==("__debug__":Str))=false)
  (he:starEach (e::es) X.env=(false,eval e X.env)::starEach es X.env) (hpl:(backTo pos (starEach es X.env)).any (·.1)=false):PE X (.Call (.Name x p) (e::es) [] pos) (WQ sp [] E t):=by
 subst hX
 obtain ⟨f,fd,F,b,kp,hm⟩:=F
 exact UO F (hr.mono hj) hg hm kp b .nil hp ha hdb he hpl
theorem PS.nox {st:Stmt} {t:TS} (h:PS X.nox st t):PS X st t:=fun pins s σ H D I hw =>
 wpAny_mono (h pins s σ H D (I.wish _) hw) (fun _ _ q=>q.unwish) fun _ _ z=>False.elim z
abbrev Vc:List Value:=[.type "ValueError",.type "Exception",.type "BaseException",.type "object"]
def Ycv (C:Addr) (E:XK) (t:TA):TS:=fun _ σ H=>t σ H fun vs H1=>vs.length≤sizeLine∧E (.ref C) none H1
end
abbrev Cx.caught (X:Cx) (e:Addr):Cx:={ X with A:=X.A.mark (some (.ref e)),calm:=false,xe:=fun _ _=>False }
section
variable {X:Cx} {pins:List (Addr×Obj)} {σ:St} {H H' H1:Hp} {s s1 s':Shared} {e:Value} {D:Ends} {ts:TS} {b₀:Stmt} {suite:List Stmt} {c:Str} {cv:Value} {cp hpos:Pos}
theorem Inv.caught (I:Inv X pins σ H s) (a:Addr):Inv (X.caught a) pins σ H s :=
 ⟨⟨I.ok.mod,I.ok.kind,I.ok.glob,I.ok.blt,I.ok.above,I.ok.inj,I.ok.has,I.ok.cab,fun z=>(by cases z),I.ok.frames,I.ok.stk,I.ok.exf,I.ok.bs,I.ok.bsz,I.ok.noex,I.ok.exfs,I.ok.funs,I.ok.frf⟩,I.os,I.bare,I.base,I.loc,I.cell,I.free,I.freeC,I.pin,I.hok,I.len⟩
theorem Inv.uncaught {a:Addr} (hd:X.calm=true→X.A.handled=none) (I:Inv (X.caught a) pins σ H s):Inv X pins σ H s :=
 ⟨⟨I.ok.mod,I.ok.kind,I.ok.glob,I.ok.blt,I.ok.above,I.ok.inj,I.ok.has,I.ok.cab,hd,I.ok.frames,I.ok.stk,I.ok.exf,I.ok.bs,I.ok.bsz,I.ok.noex,I.ok.exfs,I.ok.funs,I.ok.frf⟩,I.os,I.bare,I.base,I.loc,I.cell,I.free,I.freeC,I.pin,I.hok,I.len⟩
theorem Inv.seen {a:Addr} {cls:Value} {B:Heap} (I:Inv X pins σ H1 s1) (F:Fly X.prog X.w X.stack H1 s1.heap a cls H' s'.heap B) (os:s'.os=s1.os) (bare:AllBare s'.gens):Inv X pins σ H' s' :=
 I.call' (ch:=[]) os (F.un I.stkFree) F.held bare fun b z=>nomatch z
theorem Inv.stkData (I:Inv X pins σ H1 s1):∀ b∈frs X.stack,∀ o,s1.heap.get? b=some o→∀ vs,o.data ≠ .fields vs:=fun b hb o q=>by
 obtain ⟨_,o',e',d⟩:=I.stack.mem hb
 rw [q] at e'
 cases e'
 exact d
end
def tTry (K:PySem.W.Frag) (cv:Value) (sp:Sp) (t:TA) (i:Nat) (ts:TS):TS:=fun D σ H=>t σ H fun vs H1=>sp (vs++[]) H1 (fun v H2=>D.nx (σ.set i (some v)) H2) (fun cls _ H2=>PySem.W.exmOne K cls cv=some true∧ts D σ H2)
section
variable {g:Gx} {X:Cx} {k j i:Nat} {x f c:Str} {ps:List Str} {sp:Sp} {e:Expr} {es:List Expr} {t:TA} {ts:TS} {b₀:Stmt} {suite:List Stmt} {cv:Value} {fp px cp hpos apos cpos pos:Pos}
end
end L2
namespace L2
open PySem PySem.Spec PyProof.Rows
section
variable {prog:Program} {w:World} {A:Around} {E:Value→Shared→Prop} {s:Shared}
open AutoSeq1 (wpAny_loadPart') in
end
section
variable {X:Cx} {elts:List Expr} {kk:Nat} {tpos:Pos}
end
section
variable {g:TG} {tb:TS} {D:Ends} {σ:St} {H:Hp}
end
end L2
namespace L2
open PySem PySem.Spec PyProof.Rows
section
variable {prog:Program} {w:World} {A:Around} {E:Value→Shared→Prop} {s:Shared}
open AutoSeq1 (wpAny_loadPart') in
end
end L2
namespace L2
open PySem PySem.Spec PyProof.Rows
section
variable {X:Cx} {elts:List Expr} {kk:Nat} {tpos:Pos}
end
section
variable {g:TG} {tb:TS} {D:Ends} {σ:St} {H:Hp}
end
section
variable {X:Cx} {tg:Expr}
end
end L2
namespace L2
open PySem PySem.Spec PyProof.Rows
def Xe (a:Addr) (cls:Value) (dc:Option Addr):HO := .ext fun h=>∃ o vs,h.get? a=some o∧o.cls=cls∧o.data = .fields vs∧o.dict=dc
section
variable {P:Program} {w:World} {l:List Env} {H H':Hp} {h h' h'' B:Heap} {a e:Addr} {cls:Value} {o:HO}
theorem Yu.alive (x:Yu P w H h a o):∃ u,h.get? a=some u:=by
 cases o with
 | lst xs=>obtain ⟨_,_,_,_,e⟩:=x;exact ⟨_,e⟩
 | tup xs=>obtain ⟨_,_,_,u,e,_⟩:=x;exact ⟨_,e⟩
 | dK kvs=>obtain ⟨_,_,_,_,o,_,_,e,_⟩:=x;exact ⟨_,e⟩
 | dT kvs=>obtain ⟨_,_,_,_,o,_,_,e,_⟩:=x;exact ⟨_,e⟩
 | set S n=>obtain ⟨o,_,_,_,e,_⟩:=x;exact ⟨_,e⟩
 | ins C dx fs=>obtain ⟨_,_,_,e,_⟩:=x;exact ⟨_,e⟩
 | own y=>exact x
 | xd fs=>obtain ⟨_,⟨_,_,_,e,_⟩,_⟩:=x;exact ⟨_,e⟩
 | rng lo hi=>obtain ⟨_,_,_,e⟩:=x;exact ⟨_,e⟩
 | frz ob u=>obtain ⟨e,_⟩:=x;exact ⟨_,e⟩
 | tbl ps=>exact ⟨_,(show h.get? a=some _ from x)⟩
 | met f y=>exact ⟨_,(show h.get? a=some _ from x)⟩
 | ext φ=>exact x.2.1
theorem Fly.new (F:Fly P w l H h e cls H' h' B) (hf:∀ b∈frs l,H b=none) (nf:∀ b∈frs l,∀ o,h.get? b=some o→∀ vs,o.data ≠ .fields vs):h.get? e=none:=by
 obtain ⟨a0,fl⟩:=F.fl
 cases q:h.get? e with
 | none=>rfl
 | some o =>
  by_cases hb:e∈frs l
  ·obtain ⟨sl,z⟩:=F.slot e o q (hf e hb) hb
   obtain ⟨oe,vs,z',_,d,_⟩:=fl.first
   rw [z] at z'
   cases z'
   exact absurd d (nf e hb o q vs)
  ·obtain ⟨o',z⟩:=F.al e o q hb
   rw [fl.2.1] at z
   cases z
theorem Fly.out (F:Fly P w l H h e cls H' h' B):H' e=none:=by
 obtain ⟨a0,fl⟩:=F.fl
 cases q:H' e with
 | none=>rfl
 | some u =>
  obtain ⟨o,z⟩:=(F.hok e u q).alive
  rw [fl.2.1] at z
  cases z
theorem Fly.track (F:Fly P w l H h e cls H' h' B) (hf:∀ b∈frs l,H b=none) (nf:∀ b∈frs l,∀ o,h.get? b=some o→∀ vs,o.data ≠ .fields vs) {dc:Option Addr} (hd:Y5 h' e dc) :
  Un (frs l) [] H (upd H' e (Xe e cls dc)) h h'∧HOk P w (upd H' e (Xe e cls dc)) h':=by
 have n1:=F.new hf nf
 have n2:=F.out
 have u:=F.un hf
 have ok:=F.held
 obtain ⟨a0,fl⟩:=F.fl
 refine ⟨⟨u.keep,u.slot,fun b o q n hx=>?_,u.there,fun b xs q=>?_,fun b o x q=>?_,fun b ps q=>?_⟩,fun b x q=>?_⟩
 ·rw [Yb (fun z=>by rw [z,n1] at q;cases q)]
  exact u.free b o q n hx
 ·rw [Yb (Yg (u.tups b xs q) n2)]
  exact u.tups b xs q
 ·rw [Yb (Yg (u.frzs b o x q) n2)]
  exact u.frzs b o x q
 ·obtain ⟨m,z⟩:=u.tbls b ps q
  exact ⟨m,by rw [Yb (Yg z n2)];exact z⟩
 ·by_cases hb:b=e
  ·subst hb
   rw [Ye] at q
   cases q
   obtain ⟨oe,vs,z1,z2,z3,_⟩:=fl.first
   obtain ⟨od,d1,d2⟩:=hd
   rw [z1] at d1
   cases d1
   exact ⟨⟨oe,vs,z1,z2,z3,d2⟩,⟨oe,z1⟩,fun h1 h2 p k=>by obtain ⟨o,vs,y1,y2,y3⟩:=p;exact ⟨o,vs,k o y1,y2,y3⟩⟩
  ·rw [Yb hb] at q
   exact (ok b x q).stay (fun c v _ r=>r) (fun c r=>by rw [Yb (Yg r n2)];exact r) fun c xs r=>by rw [Yb (Yg r n2)];exact r
end
section
variable {X:Cx} {pins:List (Addr×Obj)} {σ:St} {H H' H1:Hp} {s s1 s':Shared}
theorem YbS {M:Model} {A:Around} {E:Value→Shared→Prop} {j:Nat} {n:Str} {pos:Pos} {Q:Unit→Shared→Prop} (I:Inv X pins σ H s) (hN:X.N.Nodup) (hj:X.N[j]?=some n) (hk:X.env.scope.names.lookup n=some .local)
  (h:∀ s',Inv X pins (σ.set j none) H s'→Q () s'):wpAny M A (do bindName X.env n .none;unbindBehindTheSuite X.env n pos) Q E s:=by
 obtain ⟨m,hn,hl⟩:=id I.loc
 have hcls:(X.env.scope.kind == .class||(X.env.scope.kind == .module&&X.env.locals != X.env.globals))=false:=by rw [I.ok.kind];rfl
 have cne:=I.cne
 have tracked:∀ {a:Addr} {h':Heap},(∃ o,s.heap.get? a=some o∧H a=none)→Heap.SameBut a s.heap h'→HOk X.prog X.w H h':=fun {a h'} ha hs b ob e=>by
  obtain ⟨_,_,hfree⟩:=ha
  refine (I.hok b ob e).stay (fun c w' hc q=>(hs.2 c ?_).trans q) (fun _ q=>q) fun _ _ q=>q
  rintro rfl
  rcases hc with rfl | hc
  ·rw [hfree] at e;cases e
  ·rw [hfree] at hc;cases hc
 refine wpAny_nameGoes_keeps hk hn hcls fun h' v hn' hs=>?_
 obtain ⟨oL,_,_,hoL,_⟩:=id hn
 refine h _ ⟨I.ok,I.os,I.bare,⟨fun b o e n hb hx=>?_,fun b o e n hb hx=>?_,I.base.free,fun b o e hx=>?_,I.base.tups,I.base.frzs,I.base.tbls⟩,⟨_,hn',fun i y v' e1 e2 e3=>?_⟩,fun y c e=>?_,I.free,I.freeC,fun p hp=>?_,tracked ⟨oL,hoL,I.free⟩ hs,by simpa using I.len⟩
 ·exact (hs.2 b (I.notL e)).trans (I.base.keep b o e n hb hx)
 ·obtain ⟨sl,e1⟩:=I.base.slot b o e n hb hx
  exact ⟨sl,(hs.2 b (I.notL e)).trans e1⟩
 ·obtain ⟨o',e1⟩:=I.base.there b o e hx
  exact ⟨o',(hs.2 b (I.notL e)).trans e1⟩
 ·by_cases hji:i=j
  ·subst hji
   rw [List.getElem?_set] at e2
   split at e2
   ·split at e2<;>cases e2
   ·rename_i z;exact absurd rfl z
  ·rw [List.getElem?_set_ne (Ne.symm hji)] at e2
   obtain ⟨u',r',q⟩:=hl i y v' e1 e2 e3
   refine ⟨u',r',?_⟩
   rcases q with ⟨k,e⟩ | ⟨k,c,e,z⟩
   ·refine .inl ⟨k,?_⟩
    have:y≠n:=fun e=>hji (WX hN e1 (e▸hj))
    simp [this,e]
   ·exact .inr ⟨k,c,e,z.sameBut hs (cne y c e)⟩
 ·obtain ⟨w',z⟩:=I.cell y c e
  exact ⟨w',z.sameBut hs (cne y c e)⟩
 ·obtain ⟨e,n,ne,nf,d⟩:=I.pin p hp
  exact ⟨(hs.2 p.1 ne).trans e,n,ne,nf,d⟩
end
def Ends.gone (D:Ends) (j:Nat):Ends:={ nx:=fun σ H=>D.nx (σ.set j none) H,rt:=D.rt,bk:=fun σ H=>D.bk (σ.set j none) H,ct:=fun σ H=>D.ct (σ.set j none) H }
section
variable {X:Cx} {pins:List (Addr×Obj)} {σ:St} {H H' H1:Hp} {s s1 s':Shared} {e:Value} {D:Ends} {ts:TS} {b₀:Stmt} {suite:List Stmt} {c n:Str} {cv:Value} {cp hpos:Pos} {j:Nat}
theorem Inv.catchAs (I:Inv X pins σ H1 s1) (hs:X.stack=X.env::X.outer) (hf:X.env.frame=some X.env.locals) (hN:X.N.Nodup) (hj:X.N[j]?=some n) (hk:X.env.scope.names.lookup n=some .local)
  (hq:CXF X.prog X.w X.stack H1 s1 (fun cls dc H2=>PySem.W.exmOne X.K cls cv=some true∧∀ a,H2 a=none→ts (D.gone j) (σ.set j (some (.ref a))) (upd H2 a (Xe a cls dc))) e s')
  (hsu:∀ a,PSs (X.caught a) (b₀::suite) ts) (hc:Gl X c) (hcm:X.mg c=some cv) (hdb:(c==("__debug__":Str))=false) :
  wpAny (model X.prog X.w) X.A (noteFrame e X.env) (fun _ s₂=>wpAny (model X.prog X.w) X.A (setFlight e none) (fun _ s₃=>wpAny (model X.prog X.w) X.A (handleBy e X.env [.ExceptHandler (some (.Name c cp)) (some n) (b₀::suite) hpos]) (SP X pins D) X.xe s₃) X.xe s₂) X.xe s':=by
 obtain ⟨a,cls,H2,B,dc,rfl,os,bare,F,hdc,hm,ht⟩:=hq
 obtain ⟨a0,fl⟩:=F.fl
 have nf:=I.stkData
 have fl':=fl
 rw [hs] at fl'
 have hfr:=I.ok.frames
 rw [hs] at hfr
 refine wpAny_mono (XU (Wc _ _) hdc (wpAny_looks_onW (Q:=fun _ s₂=>∃ h₄ L,s₂={ s' with heap:=h₄ }∧Heap.HeldW B (X.env::X.outer) a cls a0 L h₄∧s'.heap.UpToSlots h₄) (E:=X.xe) hfr hf fl' fun h₄ held sm4=>⟨h₄,_,rfl,held,sm4⟩)) ?_ fun _ _ z=>z.1
 rintro _ s₂ ⟨⟨h₄,L4,rfl,held,sm4⟩,hd4⟩
 refine wpAny_mono (XU (Xu _ _) hd4 (wpAny_landsW (Q:=fun _ s₃=>∃ h₅,s₃={ s' with heap:=h₅ }∧Heap.FlyingW B (X.env::X.outer) a cls a0 h₅∧h₄.UpToSlots h₅) (E:=X.xe) held fun h₅ fl5 sm5=>⟨h₅,rfl,fl5,sm5⟩)) ?_ fun _ _ z=>z.1
 rintro _ s₃ ⟨⟨h₅,rfl,fl5,sm5⟩,hd5⟩
 rw [← hs] at fl5
 have F5:=F.on ⟨a0,fl5⟩ nf (sm4.trans sm5)
 have I5:Inv X pins σ H2 { s' with heap:=h₅ }:=I.seen (s':={ s' with heap:=h₅ }) F5 os bare
 have I5c:=I5.caught a
 refine wpAny_handleBy_cons (codeAny_handlers_test (Xk I5c hc hcm ?_ hdb)) (by intro q;cases q)
 obtain ⟨ob,hob,hcl⟩:=fl5.there
 have LT:PySem.W.Looks (model X.prog X.w) h₅ (typeOf (.ref a)) cls:=by
  subst hcl
  exact (PySem.W.Looks.ld hob).andThen .now
 refine PySem.W.exm_one (K:=X.K) (h:=h₅) I5.kIn LT hm _ _ _ _ (fun _ _ z=>z) ?_
 refine codeAny_handlers_suite_as ?_
 refine wpAny_mono (XU (Xu _ _) hd5 (lands_againW (Q:=fun _ s₄=>∃ h₆,s₄={ s' with heap:=h₆ }∧Heap.FlyingW B X.stack a cls a0 h₆∧h₅.UpToSlots h₆) (E:=fun _ _=>False) fl5 fun h₆ fl6 sm6=>⟨h₆,rfl,fl6,sm6⟩)) ?_ fun _ _ z=>z.1.elim
 rintro _ s₄ ⟨⟨h₆,rfl,fl6,sm6⟩,hd6⟩
 have F6:=F5.on ⟨a0,fl6⟩ nf sm6
 obtain ⟨u6,ok6⟩:=F6.track I.stkFree nf hd6
 have I6:Inv X pins σ (upd H2 a (Xe a cls dc)) { s' with heap:=h₆ }:=I.call' (s':={ s' with heap:=h₆ }) (ch:=[]) os u6 ok6 bare fun b z=>nomatch z
 have I6c:=I6.caught a
 refine Xt (X:=X.caught a) I6c hN hj (.inl hk) (v := .ref a) rfl (fun s7 I7=>?_) (.inr hk)
 refine wpAny_mono (hsu a pins _ _ _ (D.gone j) I7 (ht a F6.out)) (fun f s8 z=>?_) fun _ _ z=>z.elim
 have key:∀ {σ':St} {H':Hp} {Q:St→Hp→Prop},Inv (X.caught a) pins σ' H' s8→Q (σ'.set j none) H'→∀ {R:Unit→Shared→Prop},(∀ s9,Inv X pins (σ'.set j none) H' s9→R () s9)→wpAny (model X.prog X.w) X.A (do bindName X.env n .none;unbindBehindTheSuite X.env n hpos) R X.xe s8 :=
  fun {σ' H' Q} J _ {R} hR=>YbS (J.uncaught I.ok.hd) hN hj hk hR
 cases f with
 | next=>obtain ⟨σ',H',J,q⟩:=z;exact key (Q:=fun _ _=>True) J trivial fun s9 J9=>⟨_,_,J9,q⟩
 | brk=>obtain ⟨σ',H',J,q⟩:=z;exact key (Q:=fun _ _=>True) J trivial fun s9 J9=>⟨_,_,J9,q⟩
 | cont=>obtain ⟨σ',H',J,q⟩:=z;exact key (Q:=fun _ _=>True) J trivial fun s9 J9=>⟨_,_,J9,q⟩
 | ret u=>obtain ⟨v,σ',H',J,r,q⟩:=z;exact key (Q:=fun _ _=>True) J trivial fun s9 J9=>⟨v,_,_,J9,r,q⟩
end
end L2
namespace L2
open PySem PySem.Spec PyProof.Rows
def Ycw (K:PySem.W.Frag) (cv:Value) (sp:Sp) (t:TA) (i j:Nat) (ts:TS):TS:=fun D σ H=>t σ H fun vs H1=>sp (vs++[]) H1 (fun v H2=>D.nx (σ.set i (some v)) H2) (fun cls dc H2=>PySem.W.exmOne K cls cv=some true∧∀ a,H2 a=none→ts (D.gone j) (σ.set j (some (.ref a))) (upd H2 a (Xe a cls dc)))
section
variable {g:Gx} {X:Cx} {k jj i j:Nat} {x f c n:Str} {ps:List Str} {sp:Sp} {e:Expr} {es:List Expr} {t:TA} {ts:TS} {b₀:Stmt} {suite:List Stmt} {cv:Value} {fp px cp hpos apos cpos pos:Pos}
end
structure RoomM (k:Nat) (A:Around):Prop where
 dp:A.depth+3*k+5<recursionLimit
 un:A.units+16*k+200<cLine
theorem Room.m {k:Nat} {A:Around} (r:Room k A) (h:Option Value):RoomM k (A.mark h):=⟨r.dp,r.un⟩
theorem RoomM.mono {j k:Nat} {A:Around} (r:RoomM k A) (h:j≤k):RoomM j A:=⟨by have:=r.dp;omega,by have:=r.un;omega⟩
theorem RoomM.deeper {k:Nat} {A:Around} (r:RoomM (k+1) A) (env:Env):RoomM k (A.deeper env) :=
 ⟨by have:=r.dp;show A.depth+1+3*k+5<_;omega,by have:=r.un;show A.units+3+16*k+200<_;omega⟩
structure FnOkM (P:Program) (w:World) (K:PySem.W.Frag) (mg:Str→Option Value) (base:Heap) (k:Nat) (f:Addr) (fd:FuncData) (ps:List Str) (sp:Sp):Prop where
 len:∀ vs H Q E,sp vs H Q E→vs.length=ps.length
 run:∀ (A:Around) (outer:List Env) (s:Shared) (H:Hp) (args:Args) (us:List Value) (vs:List V) (Q:VK) (E:XK),RoomM k A→Env0 P w K mg base A outer s H→BindsTo s fd args (ps.zip us)→Yl vs us→sp vs H Q E →
  codeAny (model P w) A (.call (.ref f) args) (CR CX0 outer P w H s Q E) s
def Gx.FnM (g:Gx) (k:Nat) (x:Str) (ps:List Str) (sp:Sp):Prop:=∃ f fd,FnOkM g.P g.w g.K g.mg g.base k f fd ps sp∧YA g.K fd ps []∧PySem.W.keepIn g.K (.ref f)=true∧g.mg x=some (.ref f)
abbrev Gx.cxM (g:Gx) (N:List Str) (qual:Str) (st:Stmt) (f:Addr) (cdv:Value) (A:Around) (outer:List Env) (s:Shared) (H:Hp) (E:XK):Cx:={ XE CX0 g.P g.w g.K g.mg g.base N qual (Yd st) f cdv A outer s H E with calm:=false,xe:=fun _ _=>False }
def BodyM (g:Gx) (k:Nat) (N:List Str) (qual:Str) (st:Stmt) (sp:Sp):Prop:=∀ (f:Addr) (cdv:Value) (A:Around) (outer:List Env) (s:Shared) (H:Hp) (vs:List V) (Q:VK) (E:XK),RoomM k (g.cxM N qual st f cdv A outer s H E).A→sp vs H Q E →
 ∃ t,PSs (g.cxM N qual st f cdv A outer s H E) (Yr st) t∧t { nx:=fun _ H'=>Q .non H',rt:=Q } (YY N vs) H
section
variable {g:Gx} {k:Nat} {x qual:Str} {st:Stmt} {N ps:List Str} {sp:Sp}
theorem Gx.FnM.mono {j:Nat} (F:g.FnM j x ps sp) (h:j≤k):g.FnM k x ps sp:=by
 obtain ⟨f,fd,F,r⟩:=F
 exact ⟨f,fd,⟨F.len,fun A outer s H args us vs Q E hr=>F.run A outer s H args us vs Q E (hr.mono h)⟩,r⟩
theorem Gx.Raw.fnM (R:g.Raw x qual st ps) (S:FnScope N ps (Yd st)) (len:∀ vs H Q E,sp vs H Q E→vs.length=ps.length) (b:BodyM g k N qual st sp):g.FnM (k+1) x ps sp:=by
 obtain ⟨f,fd,F,bd,hm⟩:=R
 refine ⟨f,fd,⟨len,fun A outer s H args us vs Q E hr e0 hb r hsp=>?_⟩,bd,F.kp,hm⟩
 obtain ⟨oc,od,kV,doc,pm,an,cdv,ct,osl,rfl,lk,hcd⟩:=F.ex
 have hl:=len _ _ _ _ hsp
 have KX:g.K.In s.heap:=e0.mod.kin.keeps fun b o e=>(e0.bs b o e).1
 have lim:s.heap.NoLimit:=e0.mod.nolimit.keeps fun b o e=>(e0.bs b o e).1
 have hkind:∀ y∈ps.zip us,(Yd st).names.lookup y.1=some .local∨((Yd st).names.lookup y.1=some .cell∧((cellsFrom (s.heap.objs.size+1) (Yd st).names []).lookup y.1).isSome=true):=fun ⟨n,v⟩ hy=>by
  rcases S.par n (List.of_mem_zip hy).1 with q | q
  ·exact .inl q
  ·exact .inr ⟨q,PySem.W.cellsFrom_some _ _ _ (.inl q)⟩
 refine codeAny_call_function (by have:=hr.dp;omega) (KX _ _ lk) rfl S.co S.gen rfl (PySem.W.codeRec_of KX hcd) (hb _ _ _ _ ?_)
 refine wpAny_newFunctionEnv_cells S.kind hkind fun env he s1 y=>?_
 subst he
 refine ⟨lim.keeps y.toInCall.keep,codeAny_func ?_⟩
 obtain ⟨t,ht,hq⟩:=b f cdv A outer s H vs Q E (hr.deeper _) hsp
 have e0':Env0 g.P g.w g.K g.mg g.base { A with handled:=Option.none } outer s H:=⟨e0.frames,e0.mod,e0.bs,e0.bsz,e0.funs,e0.frf,e0.hok,e0.bare⟩
 have I0:Inv (XE CX0 g.P g.w g.K g.mg g.base N qual (Yd st) f cdv { A with handled:=Option.none } outer s H E) [] (YY N vs) H s1:=Vy S rfl e0' hl r y
 have I:Inv (g.cxM N qual st f cdv A outer s H E) [] (YY N vs) H s1 :=
  ⟨⟨I0.ok.mod,I0.ok.kind,I0.ok.glob,I0.ok.blt,I0.ok.above,I0.ok.inj,I0.ok.has,I0.ok.cab,fun z=>(by cases z),Around.frames_deeper e0.frames,I0.ok.stk,I0.ok.exf,I0.ok.bs,I0.ok.bsz,I0.ok.noex,I0.ok.exfs,I0.ok.funs,I0.ok.frf⟩,I0.os,I0.bare,I0.base,I0.loc,I0.cell,I0.free,I0.freeC,I0.pin,I0.hok,I0.len⟩
 refine wpAny_mono (ht [] s1 (YY N vs) H _ I hq) (fun fl s' hs=>?_) fun e s' hs=>hs.elim
 have fin:∀ {σ':St} {H':Hp} {v:V} {u:Value},Inv (g.cxM N qual st f cdv A outer s H E) [] σ' H' s'→Ym v u→Q v H'→CE outer g.P g.w H s Q u s' :=
  fun {σ' H' v u} J rv q=>⟨v,H',J.os,J.bare,J.base,J.hok,rv,q⟩
 cases fl with
 | ret u =>
  obtain ⟨v,σ',H',J,rv,q⟩:=hs
  exact fin J rv q
 | next =>
  obtain ⟨σ',H',J,q⟩:=hs
  exact fin (v:=V.non) (u:=Value.none) J rfl q
 | brk =>
  obtain ⟨_,_,_,q⟩:=hs
  exact False.elim q
 | cont =>
  obtain ⟨_,_,_,q⟩:=hs
  exact False.elim q
end
section
variable {g:Gx} {X:Cx} {k j:Nat} {x:Str} {ps:List Str} {sp:Sp} {e:Expr} {es:List Expr} {t:TA} {p pos:Pos}
theorem Ud (F:g.FnM j x ps sp) (hr:RoomM k X.A) (ha:PA X (e::es) t) (hj:j≤k) (hX:X.gx=g) (hg:Gl X x) (hdb:(x==("__debug__":Str))=false)
  (he:starEach (e::es) X.env=(false,eval e X.env)::starEach es X.env) (hpl:(backTo pos (starEach es X.env)).any (·.1)=false):PE X (.Call (.Name x p) (e::es) [] pos) (WQ sp [] E0 t):=by
 subst hX
 obtain ⟨f,fd,F,b,kp,hm⟩:=F
 intro pins s σ H Q I h
 refine wpAny_Call_Name_kw (Xk I hg hm ?_ hdb)
 refine PySem.W.callWith_K (h₀:=X.base) I.ok.mod.kin kp (thn (ha pos pins s σ H _ I h) fun us s1 ⟨vs,H1,I1,r,q⟩=>⟨I1.kIn,?_⟩) he hpl
 have r2:Yl (vs++[]) (us++[]):=r.append .nil
 have hl:(us++[]).length=ps.length:=by rw [← r2.length];exact F.len _ _ _ _ q
 refine wpAny_call (codeAny_mono (F.run X.A X.stack s1 H1 ⟨us,[]⟩ (us++[]) (vs++[]) Q E0 (hr.mono hj) I1.env0 (b s1 us I1.kIn hl) r2 q) fun r s' hq=>?_)
 cases r with
 | error e=>exact False.elim hq
 | ok fl =>
  cases fl with
  | ret u=>exact I1.after hq
  | next=>exact False.elim hq
  | brk=>exact False.elim hq
  | cont=>exact False.elim hq
end
end L2
namespace PySem.W
open PySem PySem.Calls PyProof.Rows Builtin Builtin.ObjectAttr Builtin.Getset_descriptor
section
variable {prog:Program} {w:World} {A:Around} {E:Value→Shared→Prop} {K:Frag} {x C:Addr} {ox:Obj} {hh:Heap} {g:Array GenState} {d:Drawn} {t:Nat} {os:OsState}
theorem VD (v:Value):bindSpecial (.builtin "BaseException.__getattribute__") v=pure (.builtin "BaseException.__getattribute__",[v]):=by
 have h1:withoutEnding? "BaseException.__getattribute__" "#opaque"=none:=by decide +kernel
 have h2:withoutEnding? "BaseException.__getattribute__" "#data"=none:=by decide +kernel
 have h3:builtinKind "BaseException.__getattribute__"=some .slot:=by decide +kernel
 simp only [bindSpecial,typeOf,builtinType,h1,h2,h3]
 rfl
theorem Yab {tp:Value} {R:Result→Shared→Prop} (In:K.In hh) (hx:hh.get? x=some ox) (hc:ox.cls = .ref C) (hm:mroIn K C (.type "object")=some true)
  (h:R (.ok (.ret (.ref C))) ⟨hh,g,d,t,os⟩):codeAny (model prog w) A (.call (.builtin "getset_descriptor.__get__") ⟨[.builtin "object.__class__",.ref x,tp],[]⟩) R ⟨hh,g,d,t,os⟩:=by
 have L0:Looks (model prog w) hh (typeOf (.ref x)) (.ref C):=by rw [← hc];exact (Looks.ld hx).andThen .now
 have L1:=looks_mroIn (M:=model prog w) In hm
 refine codeAny_call_builtin KF.slot_gs.plain KF.entry_gs (KF.slot_gs.check _ _ _ _ _ _ _ _ KF.type_class (KF.args_gs _ _ _) ?_)
 unfold Builtin.«getset_descriptor.__get__»
 unfold descrGet
 rw [dga_obj]
 refine wpAny_bind (wpAny_pure ?_)
 unfold descrGetter
 unfold descrCheckInstance descrNameAndClass
 unfold isInstance
 simp only [KF.owner_class]
 repeat lk
 refine ⟨Code.quiet_builtin _ (by decide +kernel),codeAny_builtin KF.entry_class ?_⟩
 unfold Builtin.«object.__class__»
 unfold shownTypeOf
 repeat lk
 exact h
theorem UF {tk:Tok} {Q:Fin→Shared→Prop} (In:K.In hh) (hx:hh.get? x=some ox) (hc:ox.cls = .ref C) (hm:mroIn K C (.type "object")=some true) (ha:findIn K (.ref C) "__class__"=some (some (.builtin "object.__class__")))
  (hq:Q (.done (.ret (.ref C))) ⟨hh,g,d,t,os⟩):wpAny (model prog w) A (Builtin.«object.__getattribute__» ⟨[.ref x,.str "__class__" tk],[]⟩) Q E ⟨hh,g,d,t,os⟩:=by
 have hT5:(⟨hh,g,d,t,os⟩:Shared).TypeIs (.builtin "object.__class__") "getset_descriptor":=F.typeOf_object_class
 have f5:=F.typeOf_object_class
 have f6:=F.slot_gs_get.lookup
 have f7:=F.slot_gs_set.lookup
 have L3:=looks_findIn (M:=model prog w) In ha
 repeat (any_goals (first | assumption | (with_reducible refine wpAny_loadPart_at hx ?_;rw [hc]) | with_reducible refine L3.at ?_ | wp_step))
 refine Yab In hx hc hm ?_
 repeat (any_goals (first | assumption | wp_step))
theorem WW {nv:Value} {Q:Unit→Shared→Prop} (In:K.In hh) (hx:hh.get? x=some ox) (hc:ox.cls = .ref C) (hb:mroIn K C (.type "BaseException")=some true) (hq:Q () ⟨hh,g,d,t,os⟩) :
  wpAny (model prog w) A (checkBuiltinCall "BaseException.__getattribute__" ⟨[.ref x,nv],[]⟩) Q E ⟨hh,g,d,t,os⟩:=by
 have k1:builtinKind "BaseException.__getattribute__"=some .slot:=by decide +kernel
 have k2:splitId "BaseException.__getattribute__"=some ("BaseException","__getattribute__"):=by decide +kernel
 have k3:=F.args_bexc_ga (.ref x) nv
 have L1:=looks_mroIn (M:=model prog w) In hb
 simp only [checkBuiltinCall,k1,k2]
 refine wpAny_bind ?_
 unfold isInstance
 repeat (first | (with_reducible refine wpAny_loadPart_at hx ?_;rw [hc]) | with_reducible refine L1.at ?_ | wp_step)
 exact hq
theorem Qw {tk:Tok} {R:Result→Shared→Prop} (In:K.In hh) (hx:hh.get? x=some ox) (hc:ox.cls = .ref C) (hm:mroIn K C (.type "object")=some true) (hb:mroIn K C (.type "BaseException")=some true) (ha:findIn K (.ref C) "__class__"=some (some (.builtin "object.__class__")))
  (hq:R (.ok (.ret (.ref C))) ⟨hh,g,d,t,os⟩):codeAny (model prog w) A (.call (.builtin "BaseException.__getattribute__") ⟨[.ref x,.str "__class__" tk],[]⟩) R ⟨hh,g,d,t,os⟩ :=
 codeAny_call_builtin (by decide +kernel) F.entry_bexc_ga (WW In hx hc hb (UF In hx hc hm ha hq))
theorem YaH {tk:Tok} {Q:Value→Shared→Prop} (In:K.In hh) (hx:hh.get? x=some ox) (hc:ox.cls = .ref C) (hm:mroIn K C (.type "object")=some true) (hb:mroIn K C (.type "BaseException")=some true) (ha:findIn K (.ref C) "__class__"=some (some (.builtin "object.__class__")))
  (hga:findIn K (.ref C) "__getattribute__"=some (some (.builtin "BaseException.__getattribute__"))) (hgt:findIn K (.ref C) "__getattr__"=some none) (hbd:bindSpecial (.builtin "BaseException.__getattribute__") (.ref x)=pure (.builtin "BaseException.__getattribute__",[.ref x])) (hq:Q (.ref C) ⟨hh,g,d,t,os⟩) :
  wpAny (model prog w) A (getAttrBy (.ref x) (.str "__class__" tk) false) Q E ⟨hh,g,d,t,os⟩:=by
 have e2:(Value.builtin "BaseException.__getattribute__"==Value.builtin "object.__getattribute__")=false:=by decide +kernel
 have e1:(onTheHeap (Value.ref C)&&Value.builtin "BaseException.__getattribute__"==Value.builtin "object.__getattribute__")=false:=by rw [e2];rfl
 have e0:(false&&onTheHeap (Value.builtin "BaseException.__getattribute__"))=false:=rfl
 have L1:=looks_findIn (M:=model prog w) In hga
 have L2:=looks_findIn (M:=model prog w) In hgt
 repeat (any_goals (first | assumption | (with_reducible refine wpAny_loadPart_at hx ?_;rw [hc]) | with_reducible refine L1.at ?_ | with_reducible refine L2.at ?_ | wp_step))
 refine Qw In hx hc hm hb ha ?_
 repeat (any_goals (first | assumption | wp_step))
theorem Qx {Q:Option Value→Shared→Prop} (In:K.In hh) (hx:hh.get? x=some ox) (hc:ox.cls = .ref C) (hm:mroIn K C (.type "object")=some true) (hb:mroIn K C (.type "BaseException")=some true) (ha:findIn K (.ref C) "__class__"=some (some (.builtin "object.__class__")))
  (hga:findIn K (.ref C) "__getattribute__"=some (some (.builtin "BaseException.__getattribute__"))) (hgt:findIn K (.ref C) "__getattr__"=some none) (hq:Q (some (.ref C)) ⟨hh,g,d,t+1,os⟩) :
  wpAny (model prog w) A (getAttr? (.ref x) "__class__") Q E ⟨hh,g,d,t,os⟩:=by
 unfold getAttr? getAttrBy?
 refine wpAny_bind (wpAny_mkText (wpAny_bind (wpAny_attempt (YaH In hx hc hm hb ha hga hgt ?_ (wpAny_pure hq)))))
 exact VD (.ref x)
theorem kitx_exc (hd:hasDictIn K C=true) (hm:mroIn K C (.type "object")=some true) (hb:mroIn K C (.type "BaseException")=some true) (ha:findIn K (.ref C) "__class__"=some (some (.builtin "object.__class__")))
  (hga:findIn K (.ref C) "__getattribute__"=some (some (.builtin "BaseException.__getattribute__"))) (hgt:findIn K (.ref C) "__getattr__"=some none):KitX K (.ref x) (.ref C) (fun h=>∃ o,h.get? x=some o∧o.cls = .ref C) where
 ty:=fun M h _ ⟨o,hx,hc⟩=>by rw [← hc];exact (Looks.ld hx).andThen .now
 it:=fun M h In _=>by
  obtain ⟨cd,e,_⟩:=any_some hd
  unfold clsIn at e
  split at e
  case h_2=>cases e
  case h_1 q =>
   intro A' Q' E' s' k z
   unfold isType
   unfold loadHead
   exact wpAny_bind (wpAny_loadPart (k _ _ (In _ _ q)) (wpAny_pure z))
 ne:=fun h tp dd its n sl In htp=>by
  obtain ⟨cd,e,_⟩:=any_some hd
  refine Bool.eq_false_iff.mpr fun z=>?_
  have z1:C=tp:=Value.ref.inj (beq_iff_eq.mp z)
  subst z1
  unfold clsIn at e
  split at e
  case h_2=>cases e
  case h_1 q =>
   have y:=(In _ _ q).symm.trans htp
   cases y
 ca:=fun {prog w A E Q s} In ⟨o,hx,hc⟩ k=>by
  obtain ⟨hh,g,d,t,os⟩:=s
  exact Qx In hx hc hm hb ha hga hgt k
end
end PySem.W
namespace L2
open PySem PySem.Spec PyProof.Rows
structure ExcT (K:PySem.W.Frag) (C:Addr):Prop where
 hd:PySem.W.hasDictIn K C=true
 hm:PySem.W.mroIn K C (.type "object")=some true
 hb:PySem.W.mroIn K C (.type "BaseException")=some true
 ha:PySem.W.findIn K (.ref C) "__class__"=some (some (.builtin "object.__class__"))
 hga:PySem.W.findIn K (.ref C) "__getattribute__"=some (some (.builtin "BaseException.__getattribute__"))
 hgt:PySem.W.findIn K (.ref C) "__getattr__"=some none
section
variable {X:Cx}
theorem YT {g:Gx} {x:Str} {C:Addr} {pos:Pos} (h:g.mg x=some (.ref C)) (hX:X.gx=g:=by rfl) (hg:Gl X x:=by rfl) (hd:(x==("__debug__":Str))=false:=by decide):PE X (.Name x pos) (tC (.ref C)):=by
 subst hX
 exact Ybu hg h rfl hd
end
theorem YaI {X:Cx} {a:Addr}:(X.caught a).K=X.K:=rfl
end L2
namespace L2
open PySem PySem.Spec PyProof.Rows
theorem Xc {K:PySem.W.Frag} {C:Addr} {f:Str} (h:PySem.W.findIn K (.ref C) f=some none):Yk K C f:=h
end L2
namespace L2
open PySem PySem.Spec PyProof.Rows
section
variable {src:List (Option Nat)} {te:TE} {σ:St} {H:Hp} {Q:VK}
end
end L2
namespace L2
open PySem PySem.Spec PyProof.Rows
section
variable {X:Cx}
end
end L2
namespace L2
open PySem PySem.Spec PyProof.Rows
section
variable {src:List (Option Nat)} {te:TE} {σ:St} {H:Hp} {Q:VK}
end
end L2
namespace L2
open PySem PySem.Spec PyProof.Rows
def SqX (K:PySem.W.Frag) (H:Hp) (a:Addr) (xs:List V):Prop:=Rd H a (.lst xs)∨∃ (its:Array Value) (n:Nat),K.lookup a=some { cls := .type "list",data := .seq its n }∧its.size≤sizeLine∧Yl xs its.toList
theorem SqX.sq {K:PySem.W.Frag} {H:Hp} {a:Addr} {xs:List V} (h:SqX K H a xs):SqL K H a xs:=by
 rcases h with h | ⟨its,n,h1,h2,h3⟩
 ·exact .inl h
 ·exact .inr ⟨_,its,n,h1,rfl,rfl,rfl,h2,h3⟩
theorem SqX.of {K:PySem.W.Frag} {H:Hp} {a:Addr} {xs:List V} (h:H a=some (.lst xs)):SqX K H a xs := .inl (.of h)
theorem SqX.keep {K:PySem.W.Frag} {H H':Hp} {a:Addr} {xs:List V} (h:SqX K H a xs) (s:Yj H H'):SqX K H' a xs:=by
 rcases h with h | h
 ·rcases h with h | ⟨o,h⟩
  ·exact .inl (.inl (s _ _ h))
  ·exact .inl (.inr ⟨o,s _ _ h⟩)
 ·exact .inr h
section
variable {X:Cx}
end
end L2
namespace L2
open PySem PySem.Spec PyProof.Rows
section
variable {X:Cx} {g:Gx} {k j i:Nat} {x:Str} {ps:List Str} {sp:Sp} {p pos:Pos} {e:Expr} {es:List Expr} {t:TA}
end
theorem Ue (es:List Expr) (x:Nat) (p:Pos) (es':List Expr) (env:Env):starEach (.Tuple es x p::es') env=(false,eval (.Tuple es x p) env)::starEach es' env:=rfl
theorem Wl (es:List Expr) (p:Pos) (es':List Expr) (env:Env):starEach (.List es p::es') env=(false,eval (.List es p) env)::starEach es' env:=rfl
end L2
namespace L2
open PySem PySem.Spec PyProof.Rows
section
variable {X:Cx} {pins:List (Addr×Obj)} {σ:St} {H:Hp} {s:Shared} {A:Around} {E Q:Value→Shared→Prop}
end
section
variable {X:Cx}
end
section
variable {src:List (Option Nat)} {te:TE} {σ:St} {Q:VK}
variable {X:Cx} {H:Hp}
end
end L2
namespace L2
open PySem PySem.Spec PyProof.Rows
section
open PySem.SeqAt
open PySem.AutoSeq1 (wpAny_loadPart')
open PySem.MeetsSeq PySem.MeetsSeq2 PySem.MeetsSeq3
variable {X:Cx}
end
end L2
namespace L2
open PySem PySem.Spec PyProof.Rows
section
open PySem.SeqAt
open PySem.AutoSeq1 (wpAny_loadPart')
open PySem.MeetsSeq PySem.MeetsSeq2 PySem.MeetsSeq3
variable {X:Cx}
variable {K:PySem.W.Frag}
end
end L2
namespace L2
open PySem
mutual
inductive KD:PyData→Prop
 | int (i:Int):KD (.int i)
 | tup {ds:List PyData}:KDs ds→KD (.tuple ds)
inductive KDs:List PyData→Prop
 | nil:KDs []
 | cons {d:PyData} {ds:List PyData}:KD d→KDs ds→KDs (d::ds)
end
mutual
theorem KD.eqv:∀ {d e:PyData},KD d→KD e→(PyData.eqv d e=true↔d=e)
 | _,_,.int i,.int j=>by rw [PyData.eqv];simp
 | _,_,.int i,.tup _=>by rw [PyData.eqv];simp
 | _,_,.tup _,.int i=>by rw [PyData.eqv];simp
 | _,_,.tup h,.tup k=>by
  rw [PyData.eqv,h.eqv k]
  simp
theorem KDs.eqv:∀ {ds es:List PyData},KDs ds→KDs es→(PyData.eqvAll ds es=true↔ds=es)
 | _,_,.nil,.nil=>by simp [PyData.eqvAll]
 | _,_,.nil,.cons _ _=>by simp [PyData.eqvAll]
 | _,_,.cons _ _,.nil=>by simp [PyData.eqvAll]
 | _,_,.cons (d:=d) (ds:=ds) h hs,.cons (d:=e) (ds:=es) k ks=>by
  rw [PyData.eqvAll,Bool.and_eq_true,h.eqv k,hs.eqv ks]
  simp
end
mutual
inductive KLt:PyData→PyData→Prop
 | int {i j:Int}:i<j→KLt (.int i) (.int j)
 | mix {i:Int} {ds:List PyData}:KLt (.int i) (.tuple ds)
 | tup {ds es:List PyData}:KLs ds es→KLt (.tuple ds) (.tuple es)
inductive KLs:List PyData→List PyData→Prop
 | nil {e:PyData} {es:List PyData}:KLs [] (e::es)
 | here {d e:PyData} {ds es:List PyData}:KLt d e→KLs (d::ds) (e::es)
 | there {d:PyData} {ds es:List PyData}:KLs ds es→KLs (d::ds) (d::es)
end
mutual
theorem KLt.trans:∀ {a b c:PyData},KLt a b→KLt b c→KLt a c
 | _,_,_,.int h,.int k => .int (by omega)
 | _,_,_,.int h,.mix => .mix
 | _,_,_,.mix,.tup _ => .mix
 | _,_,_,.tup h,.tup k => .tup (h.trans k)
theorem KLs.trans:∀ {a b c:List PyData},KLs a b→KLs b c→KLs a c
 | _,_,_,.nil,.here _ => .nil
 | _,_,_,.nil,.there _ => .nil
 | _,_,_,.here h,.here k => .here (h.trans k)
 | _,_,_,.here h,.there _ => .here h
 | _,_,_,.there _,.here k => .here k
 | _,_,_,.there h,.there k => .there (h.trans k)
end
end L2
namespace L2
open PySem
section
variable {src:List (Option Nat)} {te:TE} {σ:St} {H:Hp} {Q:VK}
end
end L2
namespace L2
open PySem
mutual
inductive VL (H:Hp):V→PyData→List Addr→Prop
 | int (i:Int):VL H (.int i) (.int i) []
 | str (x:Str) (h:PyData.strOk x=true):VL H (.str x) (.str x) []
 | lst {a:Addr} {vs:List V} {ds:List PyData} {L:List Addr}:H a=some (.lst vs)→vs.length≤10000→VLs H vs ds L→VL H (.ref a) (.list ds) (a::L)
 | tup {a:Addr} {vs:List V} {ds:List PyData} {L:List Addr}:H a=some (.tup vs)→vs.length≤10000→VLs H vs ds L→VL H (.ref a) (.tuple ds) L
inductive VLs (H:Hp):List V→List PyData→List Addr→Prop
 | nil:VLs H [] [] []
 | cons {v:V} {d:PyData} {L:List Addr} {vs:List V} {ds:List PyData} {L':List Addr}:VL H v d L→VLs H vs ds L'→VLs H (v::vs) (d::ds) (L++L')
end
def Tps (H H':Hp):Prop:=∀ a vs,H a=some (.tup vs)→H' a=some (.tup vs)
theorem Yj.tps {H H':Hp} (s:Yj H H'):Tps H H':=fun a vs h=>s a _ h
theorem Tps.trans {H H' H'':Hp} (s:Tps H H') (t:Tps H' H''):Tps H H'':=fun a vs h=>t a vs (s a vs h)
theorem Tps.upd_lst {H:Hp} {p:Addr} {xs ys:List V} (h:H p=some (.lst xs)):Tps H (upd H p (.lst ys)):=fun a vs ha=>by
 rw [Yb (YN ha h (by intro z;cases z))];exact ha
mutual
theorem VL.keepL {H H':Hp} (t:Tps H H'):∀ {v:V} {d:PyData} {L:List Addr},VL H v d L→(∀ a∈L,∀ vs,H a=some (.lst vs)→H' a=some (.lst vs))→VL H' v d L
 | _,_,_,.int i,_ => .int i
 | _,_,_,.str x h,_ => .str x h
 | _,_,_,.lst h hn hs,e => .lst (e _ (.head _) _ h) hn (hs.keepL t fun a ha=>e a (.tail _ ha))
 | _,_,_,.tup h hn hs,e => .tup (t _ _ h) hn (hs.keepL t e)
theorem VLs.keepL {H H':Hp} (t:Tps H H'):∀ {vs:List V} {ds:List PyData} {L:List Addr},VLs H vs ds L→(∀ a∈L,∀ vs,H a=some (.lst vs)→H' a=some (.lst vs))→VLs H' vs ds L
 | _,_,_,.nil,_ => .nil
 | _,_,_,.cons h hs,e => .cons (h.keepL t fun a ha=>e a (List.mem_append_left _ ha)) (hs.keepL t fun a ha=>e a (List.mem_append_right _ ha))
end
theorem VL.keep {H H':Hp} {v:V} {d:PyData} {L:List Addr} (h:VL H v d L) (s:Yj H H'):VL H' v d L:=h.keepL s.tps fun a _ vs e=>s _ _ e
theorem VLs.keep {H H':Hp} {vs:List V} {ds:List PyData} {L:List Addr} (h:VLs H vs ds L) (s:Yj H H'):VLs H' vs ds L:=h.keepL s.tps fun a _ vs e=>s _ _ e
mutual
theorem VL.mem {H:Hp}:∀ {v:V} {d:PyData} {L:List Addr},VL H v d L→∀ a∈L,∃ vs,H a=some (.lst vs)∧vs.length≤10000
 | _,_,_,.lst (a:=b) h hn hs,a,ha=>by
  rcases List.mem_cons.mp ha with e | ha
  ·subst e;exact ⟨_,h,hn⟩
  ·exact hs.mem a ha
 | _,_,_,.tup h hn hs,a,ha=>hs.mem a ha
theorem VLs.mem {H:Hp}:∀ {vs:List V} {ds:List PyData} {L:List Addr},VLs H vs ds L→∀ a∈L,∃ vs,H a=some (.lst vs)∧vs.length≤10000
 | _,_,_,.cons h hs,a,ha=>by
  rcases List.mem_append.mp ha with ha | ha
  ·exact h.mem a ha
  ·exact hs.mem a ha
end
mutual
theorem VL.den {K:PySem.W.Frag} {H:Hp}:∀ {v:V} {d:PyData} {L:List Addr},VL H v d L→Den K H v d
 | _,_,_,.int i => .int i
 | _,_,_,.str x h => .str x h
 | _,_,_,.lst h _ hs => .lst (SqL.of h) hs.den
 | _,_,_,.tup h _ hs => .tup (SqT.of h) hs.den
theorem VLs.den {K:PySem.W.Frag} {H:Hp}:∀ {vs:List V} {ds:List PyData} {L:List Addr},VLs H vs ds L→Dens K H vs ds
 | _,_,_,.nil => .nil
 | _,_,_,.cons h hs => .cons h.den hs.den
end
theorem VLs.length {H:Hp}:∀ {vs:List V} {ds:List PyData} {L:List Addr},VLs H vs ds L→vs.length=ds.length
 | _,_,_,.nil=>rfl
 | _,_,_,.cons _ hs=>congrArg (·+1) hs.length
theorem VLs.append {H:Hp} {vs':List V} {ds':List PyData} {L':List Addr}:∀ {vs:List V} {ds:List PyData} {L:List Addr},VLs H vs ds L→VLs H vs' ds' L'→VLs H (vs++vs') (ds++ds') (L++L')
 | _,_,_,.nil,h=>h
 | _,_,_,.cons a b,h=>by rw [List.append_assoc];exact .cons a (b.append h)
theorem VL.one {H:Hp} {v:V} {d:PyData} {L:List Addr} (h:VL H v d L):VLs H [v] [d] L:=by
 have:=VLs.cons h .nil
 rwa [List.append_nil] at this
theorem VLs.take {H:Hp}:∀ {vs:List V} {ds:List PyData} {L:List Addr} (n:Nat),VLs H vs ds L→∃ L',VLs H (vs.take n) (ds.take n) L'∧∀ a∈L',a∈L
 | _,_,_,0,_=>by simp;exact ⟨[],.nil,fun a h=>by cases h⟩
 | _,_,_,n+1,.nil=>by simp;exact ⟨[],.nil,fun a h=>by cases h⟩
 | _,_,_,n+1,.cons a b=>by
  obtain ⟨L',h1,h2⟩:=b.take n
  exact ⟨_,.cons a h1,fun x hx=>by
   rcases List.mem_append.mp hx with h | h
   ·exact List.mem_append_left _ h
   ·exact List.mem_append_right _ (h2 x h)⟩
theorem VLs.drop {H:Hp}:∀ {vs:List V} {ds:List PyData} {L:List Addr} (n:Nat),VLs H vs ds L→∃ L',VLs H (vs.drop n) (ds.drop n) L'∧∀ a∈L',a∈L
 | _,_,_,0,h=>⟨_,h,fun a h=>h⟩
 | _,_,_,n+1,.nil=>⟨[],by simp;exact .nil,fun a h=>by cases h⟩
 | _,_,_,n+1,.cons a b=>by
  obtain ⟨L',h1,h2⟩:=b.drop n
  exact ⟨L',h1,fun x hx=>List.mem_append_right _ (h2 x hx)⟩
structure Own (H0 H:Hp) (v:V) (d:PyData) (L:List Addr):Prop where
 vl:VL H v d L
 nd:L.Nodup
 new:∀ a∈L,H0 a=none
structure Owns (H0 H:Hp) (vs:List V) (ds:List PyData) (L:List Addr):Prop where
 vl:VLs H vs ds L
 nd:L.Nodup
 new:∀ a∈L,H0 a=none
theorem Owns.ext {H0 H1 H2:Hp} {vs:List V} {ds:List PyData} {L L':List Addr} {ys:List V} {es:List PyData} {D:Addr} {zs zs':List V} (h:Owns H0 H1 vs ds L) (hD:∀ a∈L,a≠D) (s0:Yj H0 H1) (s:Yj H1 H2) (o:Owns H1 H2 ys es L') (h1:H1 D=some (.lst zs)):Owns H0 (upd H2 D (.lst zs')) (vs++ys) (ds++es) (L++L')∧∀ a∈L++L',a≠D:=by
 have hD':∀ a∈L',a≠D:=fun a ha e=>by have:=o.new a ha;rw [e,h1] at this;cases this
 have t:Tps H2 (upd H2 D (.lst zs')) := .upd_lst (s _ _ h1)
 refine ⟨⟨((h.vl.keep s).keepL t fun a ha vs e=>by rw [Yb (hD a ha)];exact e).append (o.vl.keepL t fun a ha vs e=>by rw [Yb (hD' a ha)];exact e),?_,fun a ha=>?_⟩,fun a ha=>?_⟩
 ·refine List.nodup_append.mpr ⟨h.nd,o.nd,fun a ha b hb e=>?_⟩
  subst e
  obtain ⟨vs,e1,_⟩:=h.vl.mem a ha
  rw [o.new a hb] at e1
  cases e1
 ·rcases List.mem_append.mp ha with ha | ha
  ·exact h.new a ha
  ·exact s0.free (o.new a ha)
 ·rcases List.mem_append.mp ha with ha | ha
  ·exact hD a ha
  ·exact hD' a ha
theorem Own.inv {H0 H:Hp} {D:Addr} {ds:List PyData} {L:List Addr} (h:Own H0 H (.ref D) (.list ds) L):∃ ys L1,L=D::L1∧H D=some (.lst ys)∧ys.length≤10000∧Owns H0 H ys ds L1∧D∉L1∧H0 D=none:=by
 obtain ⟨vl,nd,new⟩:=h
 cases vl with
 | lst h1 h2 h3 =>
  have:=List.nodup_cons.mp nd
  exact ⟨_,_,rfl,h1,h2,⟨h3,this.2,fun a ha=>new a (.tail _ ha)⟩,this.1,new _ (.head _)⟩
section
variable {src:List (Option Nat)} {te:TE} {σ:St} {H:Hp} {Q:VK}
end
end L2
namespace L2
open PySem PySem.Spec PyProof.Rows
section
variable {X:Cx} {pos:Pos}
end
def dg (i:Int):List Nat:=(Str.ofString (toString i)).cps.toList
theorem Ycx (n:Nat):dg (n:Int)=(Nat.toDigits 10 n).map Char.toNat:=PySem.W.KIN.signs_num n
theorem WF {n k:Nat} (hk:0<k) (h:n<10^k):(dg (n:Int)).length≤k:=by
 rw [Ycx,List.length_map]
 have:=(Nat.length_repr_le_iff hk).mpr h
 rwa [← String.length_toList,Nat.toList_repr] at this
end L2
namespace L2
open PySem
section
variable {src:List (Option Nat)} {te:TE} {σ:St} {H:Hp} {Q:VK}
end
end L2
namespace L2
open PySem PySem.Spec PyProof.Rows
section
variable {g:Gx} {k:Nat} {x qual m:Str} {st:Stmt} {N ps:List Str} {sp:Sp} {C:Addr}
end
section
variable {g:Gx} {X:Cx} {k j:Nat} {x m:Str} {ps:List Str} {sp:Sp} {E:XK} {C:Addr} {e o:Expr} {es:List Expr} {t:TA} {ta:TE} {p pos apos:Pos}
end
theorem Yac {P:Program} {w:World} {X:Cx}:Xh (CXF P w) X (fun _ _ _=>False):=by
 intro pins σ H s e s' I h
 obtain ⟨_,_,_,_,_,_,_,_,_,_,z⟩:=h
 exact z.elim
section
variable {g:Gx} {X:Cx} {k jj j:Nat} {f c n:Str} {ps:List Str} {sp:Sp} {e:Expr} {es:List Expr} {t:TA} {ts:TS} {b₀:Stmt} {suite:List Stmt} {cv:Value} {fp cp hpos apos cpos pos:Pos}
end
end L2
namespace L2
open PySem PySem.Spec PyProof.Rows
def YbT (l:List Str) (v:Str):List Str:=if l.any (·==v) then l else l++[v]
def met (val:Nat→Str) (i:Nat):List Str:=((List.range i).map val).foldl YbT []
section
variable {prog:Program} {w:World} {A:Around} {R:Result→Shared→Prop} {I:Addr} {fp wr:List Addr} {G:Array GenState→Array GenState→Prop} {n:Nat} {P:Nat→Value→Prop} {St:Nat→Shared→Prop}
end
end L2
namespace L2
open PySem PySem.Spec PyProof.Rows
def sg (x:Str) (i:Nat):Str:=⟨#[x.cps.getD i 0]⟩
section
variable {prog:Program} {w:World} {A:Around} {E:Value→Shared→Prop} {s:Shared}
end
def SetO (a:Addr) (n:Nat):HO := .ext fun h=>∃ (o:Obj) (es:Array (Int×Value)) (ep:Nat) (t:SetTable),h.get? a=some o∧o.ExactSet∧o.data = .set es ep t∧t.fits es.size=true∧es.size=n∧n<scanBound
section
variable {X:Cx}
end
end L2
namespace L2
open PySem PySem.Spec PyProof.Rows
section
variable {X:Cx}
end
end L2
namespace L2
open PySem PySem.Spec PyProof.Rows
section
variable {X:Cx}
end
end L2
namespace L2
open PySem PySem.Spec PyProof.Rows
section
variable {X:Cx}
end
end L2
namespace L2
open PySem PySem.Spec PyProof.Rows
section
variable {X:Cx} {e lo st:Expr} {te tl ts:TE} {pos p2:Pos}
def YbU (K:PySem.W.Frag) (te tl ts:TE):TE:=fun σ H Q=>te σ H fun x H1=>tl σ H1 fun y H2=>ts σ H2 fun z H3 =>
 ∃ (a:Addr) (xs:List V) (k n:Int),x = .ref a∧y = .int k∧z = .int n∧0≤k∧0<n∧SqL K H3 a xs∧∀ p ys,H3 p=none→(∀ v∈ys,v∈xs)→ys.length≤xs.length→Q (.ref p) (upd H3 p (.lst ys))
end
structure ClsFn (K:PySem.W.Frag) (B:Addr) (m:Str) (f:Addr):Prop where
 ga:PySem.W.specialIn K (.ref B) "__getattribute__"=some (some (.builtin "type.__getattribute__"))
 rd:PySem.W.readsIn K B (.type "type")=true
 at_:PySem.W.findCls K (.ref B) (.type "type") m=some (.val (.ref f))
 kp:PySem.W.keepIn K (.ref f)=true
def Gx.Cf (g:Gx) (k:Nat) (x m:Str) (ps:List Str) (sp:Sp):Prop:=∃ B f fd,FnOk g.P g.w g.K g.mg g.base CX0 k f fd ps sp∧YA g.K fd ps []∧ClsFn g.K B m f∧g.mg x=some (.ref B)
def Gx.RawC (g:Gx) (x m qual:Str) (st:Stmt) (ps:List Str):Prop:=∃ B f fd,Fun g.K m qual st f fd∧YA g.K fd ps []∧ClsFn g.K B m f∧g.mg x=some (.ref B)
theorem Gx.Cf.mono {g:Gx} {j k:Nat} {x m:Str} {ps:List Str} {sp:Sp} (F:g.Cf j x m ps sp) (h:j≤k):g.Cf k x m ps sp:=by
 obtain ⟨B,f,fd,F,r⟩:=F
 exact ⟨B,f,fd,F.mono h,r⟩
section
variable {g:Gx} {X:Cx} {k j:Nat} {x m:Str} {ps:List Str} {sp:Sp} {e:Expr} {es:List Expr} {t:TA} {p pos apos:Pos}
theorem Ybm {pl:Sem Bool} (F:g.Cf j x m ps sp) (hr:Room k X.A) (ha:PA X (e::es) t) (hj:j≤k) (hX:X.gx=g) (hg:Gl X x) (hdb:(x==("__debug__":Str))=false)
  (hst:starEach (e::es) X.env=(false,eval e X.env)::starEach es X.env) (hpl:(backTo pos (starEach es X.env)).any (·.1)=false)
  (ht:eval (.Call (.Attribute (.Name x p) m apos) (e::es) [] pos) X.env=(do
   let ov ← eval (.Name x p) X.env
   standAt apos.atName
   let (f,first) ← holding [ov] (getMethod ov m pl)
   callWith pos f first (backTo pos (starEach (e::es) X.env)) (backToKw pos (keywordEach [] X.env)))):PE X (.Call (.Attribute (.Name x p) m apos) (e::es) [] pos) (WQ sp [] E0 t):=by
 subst hX
 obtain ⟨B,f,fd,F,b,c,hm⟩:=F
 intro pins s σ H Q I h
 refine PySem.W.methodCall_KW (pl:=pl) (thn (YT (g:=X.gx) (pos:=p) hm rfl hg hdb pins s σ H (fun v H1=>v = .ref B∧H1=H) I ⟨rfl,rfl⟩) fun u s1 ⟨v,H1,I1,rv,e1,e2⟩=>?_) ht
 subst e1 e2
 obtain rfl:u=Value.ref B:=rv
 refine PySem.W.method_cls I1.kIn c.ga (PySem.W.cls_value I1.kIn c.rd c.at_ rfl ?_)
 have I2:=I1.tok (s1.toks+1)
 refine PySem.W.callWith_K (h₀:=X.base) I.ok.mod.kin c.kp (thn (ha pos pins _ σ H1 _ I2 h) fun us s2 ⟨vs,H2,I3,r,q2⟩=>⟨I3.kIn,?_⟩) hst hpl
 exact W3 (dvs:=[]) (ds:=[]) F (hr.mono hj) b .nil WR I3 r q2
end
end L2
namespace L2
open PySem PySem.Spec PyProof.Rows
def UW:R2:=fun y x H Q=>∃ a o,x = .ref a∧XQ H a y o∧Q (.bl (!o.isSome)) H
def rInD:R2:=fun y x H Q=>∃ a o,x = .ref a∧XQ H a y o∧Q (.bl o.isSome) H
section
variable {X:Cx}
theorem Yad (hu:X.A.units+1<cLine):OpR X (compareOp .NotIn) UW:=by
 intro pins s σ H x y v u Q I rx ry h
 obtain ⟨a,o,rfl,g,q⟩:=h
 obtain rfl:u=Value.ref a:=ry
 exact YbH hu I g rx fun s3 I3=>⟨.bl (!o.isSome),H,I3,rfl,q⟩
end
section
variable {K:PySem.W.Frag} {h:Heap} {mg:Str→Option Value} {P:Program} {w:World} {base:Heap} {f B:Addr} {x qual m:Str} {st:Stmt} {ps N:List Str} {oc kV dc pm cd ct:Value} {od an:Option Addr} {sl:Array (Option Value)} {g:Gx} {k:Nat} {sp:Sp}
theorem Gx.RawC.cf (R:g.RawC x m qual st ps) (S:FnScope N ps (Yd st)) (len:∀ vs H Q E,sp vs H Q E→vs.length=ps.length) (b:WC g k N qual st sp):g.Cf (k+1) x m ps sp:=by
 obtain ⟨B,f,fd,F,bd,c,hm⟩:=R
 exact ⟨B,f,fd,F.ok S len fun cdv A outer s H vs Q E hr h=>b f cdv A outer s H vs Q E hr h,bd,c,hm⟩
theorem YbV (X:K.In h) (G:h.Ns mainGlobals mg) (ps:List Str) (aB:PySem.W.nsIn K mainGlobals x=some (some (.ref B))) (ga:PySem.W.specialIn K (.ref B) "__getattribute__"=some (some (.builtin "type.__getattribute__")))
  (rd:PySem.W.readsIn K B (.type "type")=true) (a:PySem.W.findCls K (.ref B) (.type "type") m=some (.val (.ref f)))
  (l:K.lookup f=some ⟨oc,od,.func (PySem.W.fnOf m qual (Yx st) (Yr st) (Yd st) .none kV dc pm an cd ct),sl⟩) (c:PySem.W.codeIn K cd qual=true) (k:PySem.W.keepIn K (.ref f)=true)
  (b:∀ (kV doc pm:Value) (an:Option Addr) (cdv ct:Value) (us:List Value),us.length=ps.length→bindArgs (PySem.W.fnOf m qual (Yx st) (Yr st) (Yd st) .none kV doc pm an cdv ct) ⟨us,[]⟩=pure (ps.zip us)) :
  ∀ P w base,(Gx.mk P w K mg base).RawC x m qual st ps:=fun P w base =>
 have F:=XO (st:=st) l c k
 ⟨B,f,_,F,F.binds b,⟨ga,rd,a,k⟩,PySem.W.mg_of X G aB⟩
end
end L2
namespace L2
def UX (a b:TE):TE:=fun σ H Q=>a σ H Q∨b σ H Q
theorem WG {X:Cx} {e:PySem.Expr} {a b:TE} (ha:PE X e a) (hb:PE X e b):PE X e (UX a b):=fun pins s σ H Q I h=>h.elim (fun z=>ha pins s σ H Q I z) (fun z=>hb pins s σ H Q I z)
end L2
namespace L2
open PySem PySem.Spec PyProof.Rows
section
variable {g:TG} {tb:TS} {D:Ends} {σ:St} {H:Hp}
end
def V0s (H:Hp) (us:List V) (ds:List PyData):Prop:=us.length=ds.length∧∀ (i:Nat) u d,us[i]?=some u→ds[i]?=some d→VL H u d []
theorem V0s.keep {H H':Hp} {us:List V} {ds:List PyData} (h:V0s H us ds) (t:Tps H H'):V0s H' us ds:=⟨h.1,fun i u d h1 h2=>(h.2 i u d h1 h2).keepL t fun a ha=>absurd ha (by simp)⟩
theorem V0s.nil {H:Hp}:V0s H [] []:=⟨rfl,fun i u d h=>by simp at h⟩
theorem V0s.one {H:Hp} {u:V} {d:PyData} (h:VL H u d []):V0s H [u] [d]:=⟨rfl,fun i x y h1 h2=>by
 cases i with
 | zero =>
  have e1:u=x:=by simpa using h1
  have e2:d=y:=by simpa using h2
  subst e1 e2
  exact h
 | succ i=>simp at h1⟩
theorem V0s.append {H:Hp} {us us':List V} {ds ds':List PyData} (h:V0s H us ds) (h':V0s H us' ds'):V0s H (us++us') (ds++ds'):=by
 refine ⟨by rw [List.length_append,List.length_append,h.1,h'.1],fun i u d h1 h2=>?_⟩
 by_cases hi:i<us.length
 ·rw [List.getElem?_append_left hi] at h1
  rw [List.getElem?_append_left (by rw [← h.1];exact hi)] at h2
  exact h.2 i u d h1 h2
 ·rw [List.getElem?_append_right (by omega)] at h1
  rw [List.getElem?_append_right (by rw [← h.1];omega),← h.1] at h2
  exact h'.2 _ u d h1 h2
theorem V0s.take {H:Hp} {us:List V} {ds:List PyData} (h:V0s H us ds) (n:Nat):V0s H (us.take n) (ds.take n):=by
 refine ⟨by rw [List.length_take,List.length_take,h.1],fun i u d h1 h2=>?_⟩
 rw [List.getElem?_take] at h1 h2
 split at h1
 ·rw [if_pos (by assumption)] at h2;exact h.2 i u d h1 h2
 ·cases h1
theorem V0s.drop {H:Hp} {us:List V} {ds:List PyData} (h:V0s H us ds) (n:Nat):V0s H (us.drop n) (ds.drop n):=by
 refine ⟨by rw [List.length_drop,List.length_drop,h.1],fun i u d h1 h2=>?_⟩
 rw [List.getElem?_drop] at h1 h2
 exact h.2 _ u d h1 h2
theorem V0s.of {H:Hp}:∀ {us:List V} {ds:List PyData} {L:List Addr},VLs H us ds L→L=[]→V0s H us ds
 | _,_,_,.nil,_ => .nil
 | _,_,_,.cons h hs,e=>by
  obtain ⟨e1,e2⟩:=List.append_eq_nil_iff.mp e
  subst e1
  have:=(V0s.of hs e2)
  exact V0s.append (.one h) this
end L2
namespace L2
open PySem
end L2
namespace L2
open PySem
end L2
namespace L2
open PySem PySem.Spec PyProof.Rows
section
variable {X:Cx} {elts:List Expr} {kk:Nat} {tpos:Pos}
end
section
variable {tb:TS} {D:Ends} {σ:St} {H:Hp}
end
end L2
namespace L2
open PySem
end L2
namespace L2
open PySem PySem.Spec PyProof.Rows
abbrev FnO (f:Addr) (fd:FuncData):HO := .ext fun h=>h.get? f=some { cls := .type "function",data := .func fd }
abbrev CdO (c:Addr) (q:Str):HO := .ext fun h=>h.CodeRec (.ref c) q
abbrev XH (c:Addr) (v:V):HO := .ext fun h=>∃ u,Ym v u∧h.IsCell c (some u)
section
variable {P:Program} {w:World} {H H':Hp} {h h':Heap}
theorem Yae {f:Addr} {fd:FuncData} (e:h.get? f=some { cls := .type "function",data := .func fd }):Yu P w H h f (FnO f fd):=⟨e,⟨_,e⟩,fun _ _ p k=>k _ p⟩
theorem Ycy {c:Addr} {q:Str} (e:h.CodeRec (.ref c) q):Yu P w H h c (CdO c q):=by
 obtain ⟨c',o,vs,t,e1,e2,e3⟩:=id e
 cases e1
 refine ⟨e,⟨_,e2⟩,fun h1 h2 p k=>?_⟩
 obtain ⟨c',o,vs,t,e1,e2,e3⟩:=p
 cases e1
 exact ⟨c,o,vs,t,rfl,k _ e2,e3⟩
theorem YaJ {c:Addr} {v:V} {u:Value} (r:Ym v u) (e:h.IsCell c (some u)):Yu P w H h c (XH c v):=by
 obtain ⟨o,e1,e2⟩:=id e
 refine ⟨⟨u,r,e⟩,⟨_,e1⟩,fun h1 h2 p k=>?_⟩
 obtain ⟨u,r,o,e1,e2⟩:=p
 exact ⟨u,r,o,k _ e1,e2⟩
theorem HOk.track {c:Addr} {o:HO} (x:HOk P w H h) (hn:H c=none) (new:Yu P w (upd H c o) h c o):HOk P w (upd H c o) h:=fun b u e=>by
 by_cases hb:b=c
 ·subst hb;rw [Ye] at e;cases e;exact new
 ·rw [Yb hb] at e
  exact (x b u e).stay (fun _ _ _ q=>q) (fun d q=>by rw [Yb (Yg q hn)];exact q) fun d xs q=>by rw [Yb (Yg q hn)];exact q
end
def off (H:Hp) (cs:List Addr):Hp:=fun b=>if b∈cs then none else H b
def on (H' H:Hp) (cs:List Addr):Hp:=fun b=>if b∈cs then H b else H' b
section
variable {H H':Hp} {cs:List Addr} {b:Addr} {o:HO}
theorem WH (h:b∈cs):off H cs b=none:=if_pos h
theorem YE (h:b∉cs):off H cs b=H b:=if_neg h
theorem Qy (h:b∈cs):on H' H cs b=H b:=if_pos h
theorem XD (h:b∉cs):on H' H cs b=H' b:=if_neg h
theorem Xv (h:H b=none):off H cs b=none:=by unfold off;split<;>first | rfl | exact h
theorem Ycz (h:off H cs b=some o):H b=some o∧b∉cs:=by
 by_cases hb:b∈cs
 ·rw [WH hb] at h;cases h
 ·rw [YE hb] at h;exact ⟨h,hb⟩
end
abbrev Yn:=List (Str×Addr×V)
def Yn.cl (l:Yn):List (Str×Addr):=l.map fun p=>(p.1,p.2.1)
def Yn.as (l:Yn):List Addr:=l.map fun p=>p.2.1
def Yn.vs (l:Yn):List V:=l.map fun p=>p.2.2
def Yn.In (l:Yn) (H:Hp):Prop:=∀ p∈l,H p.2.1=some (XH p.2.1 p.2.2)
theorem Yn.In.keep {l:Yn} {H H':Hp} (h:l.In H) (s:Yj H H'):l.In H':=fun p hp=>s _ _ (h p hp)
section
variable {l:Yn} {H:Hp}
theorem XI {c:Addr} (h:c∈l.as):∃ p∈l,p.2.1=c:=by
 obtain ⟨p,hp,e⟩:=List.mem_map.mp h
 exact ⟨p,hp,e⟩
theorem Xr:∀ {l:Yn} {x:Str} {c:Addr},l.cl.lookup x=some c→∃ p∈l,p.1=x∧p.2.1=c
 | p::l,x,c,h=>by
  rw [Yn.cl,List.map_cons,List.lookup_cons] at h
  cases hb:x==p.1 with
  | true=>rw [hb] at h;exact ⟨p,.head _,(eq_of_beq hb).symm,Option.some.inj h⟩
  | false =>
   rw [hb] at h
   obtain ⟨q,h1,h2⟩:=Xr (l:=l) h
   exact ⟨q,.tail _ h1,h2⟩
theorem Uf:∀ {l:Yn},(l.map (·.1)).Nodup→∀ p∈l,l.cl.lookup p.1=some p.2.1
 | a::q,nd,p,hp=>by
  rw [List.map_cons,List.nodup_cons] at nd
  rw [Yn.cl,List.map_cons,List.lookup_cons]
  rcases List.mem_cons.mp hp with rfl | hp
  ·simp
  ·have:(p.1==a.1)=false:=by
    rw [beq_eq_false_iff_ne]
    intro z
    exact nd.1 (z▸List.mem_map_of_mem hp)
   rw [this]
   exact Uf nd.2 p hp
end
def Qz (P:Program) (w:World) (K:PySem.W.Frag) (mg:Str→Option Value) (base:Heap) (N:List Str) (qual:Str) (scope:Scope) (f:Addr) (cd:Value) (cl:List (Str×Addr)) (A:Around) (outer:List Env) (s:Shared) (H:Hp):Cx where
 prog:=P
 w:=w
 K:=K
 mg:=mg
 base:=base
 A:=A.deeper (PySem.W.envX qual scope s.heap.objs.size f cd cl)
 N:=N
 s₀:=s
 H₀:=H
 env:=PySem.W.envX qual scope s.heap.objs.size f cd cl
 outer:=outer
 stack:=PySem.W.envX qual scope s.heap.objs.size f cd cl::outer
 ex:=[]
 calm:=true
 fn:=fun _=>false
 pn:=[]
 xe:=fun _ _=>False
structure ClScope (N ps:List Str) (l:List Str) (sc:Scope):Prop where
 kind:sc.kind = .function
 co:sc.isCoroutine=false
 gen:sc.isGenerator=false
 nd:N.Nodup
 pre:N.take ps.length=ps
 suf:N.drop (N.length - l.length)=l
 len:ps.length+l.length≤N.length
 par:∀ x∈ps,sc.names.lookup x=some .local
 fre:∀ x∈l,sc.names.lookup x=some .free
 nocell:∀ y∈sc.names,y.2 ≠ .cell
 all:∀ y∈sc.names,y.2 = .free→y.1∈l
def Vd (N:List Str) (vs fv:List V):St:=vs.map some++List.replicate (N.length - vs.length - fv.length) none++fv.map some
section
variable {P:Program} {w:World} {K:PySem.W.Frag} {mg:Str→Option Value} {base:Heap} {N ps:List Str} {qual name:Str} {scope:Scope} {f c:Addr} {A:Around} {outer:List Env} {s:Shared} {H:Hp} {us:List Value} {vs:List V} {l:Yn} {cd:Value}
theorem Vn:∀ {ps:List Str} {us:List Value} {i:Nat} {x:Str} {u:Value},ps.Nodup→ps[i]?=some x→us[i]?=some u→(ps.zip us).reverse.lookup x=some u:=by
 intro ps us i x u nd h1 h2
 have hm:(x,u)∈ps.zip us:=List.mem_of_getElem? (show (ps.zip us)[i]?=some (x,u) from List.getElem?_zip_eq_some.mpr ⟨h1,h2⟩)
 have key:∀ (q:List (Str×Value)),(q.map (·.1)).Nodup→(x,u)∈q→q.lookup x=some u:=by
  intro q
  induction q with
  | nil=>intro _ h;cases h
  | cons a q ih =>
   intro nd h
   rw [List.lookup_cons]
   rw [List.map_cons,List.nodup_cons] at nd
   rcases List.mem_cons.mp h with rfl | h
   ·simp
   ·have:(x==a.1)=false:=by
     rw [beq_eq_false_iff_ne]
     intro z
     exact nd.1 (z▸List.mem_map_of_mem h)
    rw [this]
    exact ih nd.2 h
 refine key _ ?_ (List.mem_reverse.mpr hm)
 rw [List.map_reverse]
 have hz:∀ (ps:List Str) (us:List Value),ps.Nodup→((ps.zip us).map (·.1)).Nodup∧∀ z∈(ps.zip us).map (·.1),z∈ps:=by
  intro ps
  induction ps with
  | nil=>intro us _;simp
  | cons a ps ih =>
   intro us nd
   cases us with
   | nil=>simp
   | cons u us =>
    have nd':=List.nodup_cons.mp nd
    obtain ⟨i1,i2⟩:=ih us nd'.2
    rw [List.zip_cons_cons,List.map_cons]
    refine ⟨List.nodup_cons.mpr ⟨fun hm=>nd'.1 (i2 _ hm),i1⟩,fun z hz=>?_⟩
    rcases List.mem_cons.mp hz with rfl | hz
    ·exact .head _
    ·exact .tail _ (i2 z hz)
 exact List.pairwise_reverse.mpr ((hz ps us nd).1.imp fun h=>Ne.symm h)
theorem QA {h1:Heap} {tk:Nat} (S:ClScope N ps (l.map (·.1)) scope) (hnd:l.as.Nodup) (hd:A.handled=none) (e0:Env0 P w K mg base A outer s H) (hl:vs.length=ps.length) (r:Yl vs us) (cellAt:∀ p∈l,∃ u,Ym p.2.2 u∧s.heap.IsCell p.2.1 (some u)) (hoff:HOk P w (off H l.as) s.heap)
  (hns:h1.Ns s.heap.objs.size (fun x=>(ps.zip us).reverse.lookup x)) (hk:∀ b o,s.heap.get? b=some o→h1.get? b=some o) :
  Inv (Qz P w K mg base N qual scope f cd l.cl A outer s (off H l.as)) [] (Vd N vs l.vs) (off H l.as) { s with heap:=h1,toks:=tk }:=by
 have lfst:l.cl.map (·.1)=l.map (·.1):=by rw [Yn.cl,List.map_map];rfl
 have ndN:(l.map (·.1)).Nodup:=by rw [← S.suf];exact S.nd.sublist (List.drop_sublist _ _)
 have noA:∀ b:Addr,b∉(Qz P w K mg base N qual scope f cd l.cl A outer s (off H l.as)).ex:=fun b z=>absurd (show b∈([]:List Addr) from z) (by simp)
 have lk:=Uf ndN
 have cinj:∀ p∈l,∀ q∈l,p.2.1=q.2.1→p=q:=fun p hp q hq e=>by
  obtain ⟨i,hi,e1⟩:=List.getElem_of_mem hp
  obtain ⟨j,hj,e2⟩:=List.getElem_of_mem hq
  have h1:l.as[i]?=some p.2.1:=by rw [Yn.as,List.getElem?_map,List.getElem?_eq_getElem hi,e1];rfl
  have h2:l.as[j]?=some p.2.1:=by rw [Yn.as,List.getElem?_map,List.getElem?_eq_getElem hj,e2,e];rfl
  have hij:i=j:=by
   obtain ⟨g1,g2⟩:=List.getElem?_eq_some_iff.mp h1
   obtain ⟨g3,g4⟩:=List.getElem?_eq_some_iff.mp h2
   exact (List.getElem_inj hnd).mp (g2.trans g4.symm)
  subst hij
  rw [← e1,← e2]
 refine ⟨⟨e0.mod,S.kind,rfl,rfl,Nat.le_refl _,fun y z c h1 h2=>?_,fun y hy=>?_,fun y c h _=>absurd h (by show ¬ (false=true);decide),fun _=>hd,Around.frames_deeper e0.frames,.inr ⟨rfl,rfl⟩,fun b z=>absurd z (noA b),fun b o e=>⟨(e0.bs b o e).1,Xv (e0.bs b o e).2⟩,e0.bsz,fun b _ _=>noA b,fun b z=>absurd z (noA b),e0.funs,fun b hb=>Xv (e0.frf b hb)⟩,
  rfl,e0.bare,Un.kept hk,⟨_,hns,fun i y v h1 h2 h3=>?_⟩,fun y c h=>?_,Xv (e0.hok.fresh (Nat.le_refl _)),fun y c h=>?_,fun p hp=>absurd (show p∈([]:List (Addr×Obj)) from hp) (by simp),hoff.kept hk,?_⟩
 ·obtain ⟨p,hp,e1,e2⟩:=Xr h1
  obtain ⟨q,hq,e3,e4⟩:=Xr h2
  have:=cinj p hp q hq (e2.trans e4.symm)
  rw [← e1,← e3,this]
 ·have hy:scope.names.lookup y=some .cell∨scope.names.lookup y=some .free:=hy
  rcases hy with hy | hy
  ·exact absurd rfl (S.nocell _ (PySem.mem_of_lookup hy))
  ·obtain ⟨p,hp,e⟩:=List.mem_map.mp (S.all _ (PySem.mem_of_lookup hy) rfl)
   exact ⟨p.2.1,by show l.cl.lookup y=_;rw [← show p.1=y from e];exact lk p hp⟩
 ·have hvl:l.vs.length=(l.map (·.1)).length:=by rw [Yn.vs,List.length_map,List.length_map]
  have hsl:=S.len
  unfold Vd at h2
  by_cases hi:i<vs.length
  ·have ha:vs[i]?=some v:=by
    rw [List.append_assoc,List.getElem?_append_left (by simpa using hi),List.getElem?_map] at h2
    cases e:vs[i]? with
    | none=>rw [e] at h2;cases h2
    | some a=>rw [e] at h2;cases h2;rfl
   obtain ⟨u,hu,rv⟩:=r.get ha
   have hp:ps[i]?=some y:=by
    rw [← S.pre,List.getElem?_take_of_lt (by omega)];exact h1
   have ndP:ps.Nodup:=by rw [← S.pre];exact S.nd.sublist (List.take_sublist _ _)
   exact ⟨u,rv,.inl ⟨S.par y (List.mem_of_getElem? hp),Vn ndP hp hu⟩⟩
  ·by_cases hi2:i<vs.length+(N.length - vs.length - l.vs.length)
   ·rw [List.getElem?_append_left (by rw [List.length_append,List.length_map,List.length_replicate];exact hi2),List.getElem?_append_right (by rw [List.length_map];omega),List.getElem?_replicate] at h2
    split at h2<;>cases h2
   ·rw [List.getElem?_append_right (by rw [List.length_append,List.length_map,List.length_replicate];omega),List.length_append,List.length_map,List.length_replicate,List.getElem?_map] at h2
    obtain ⟨v',hv',e⟩:=Option.map_eq_some_iff.mp h2
    cases e
    have hv2:(l.map fun p=>p.2.2)[i - (vs.length+(N.length - vs.length - l.vs.length))]?=some _:=hv'
    rw [List.getElem?_map] at hv2
    obtain ⟨p,hp,rfl⟩:=Option.map_eq_some_iff.mp hv2
    have hpm:=List.mem_of_getElem? hp
    have hy:(l.map (·.1))[i - (vs.length+(N.length - vs.length - l.vs.length))]?=some y:=by
     rw [← S.suf,List.getElem?_drop]
     rw [show N.length - (l.map (·.1)).length+(i - (vs.length+(N.length - vs.length - l.vs.length)))=i by omega]
     exact h1
    rw [List.getElem?_map,hp] at hy
    have ey:p.1=y:=Option.some.inj hy
    obtain ⟨u,ru,hc⟩:=cellAt p hpm
    obtain ⟨o,ho,hd'⟩:=hc
    refine ⟨u,ru,.inr ⟨.inr ?_,p.2.1,by show l.cl.lookup y=_;rw [← ey];exact lk p hpm,o,hk _ _ ho,hd'⟩⟩
    exact S.fre y (by rw [← ey];exact List.mem_map_of_mem hpm)
 ·obtain ⟨p,hp,e1,e2⟩:=Xr (show l.cl.lookup y=some c from h)
  obtain ⟨u,ru,o,ho,hd'⟩:=cellAt p hp
  exact ⟨some u,o,by rw [← e2];exact hk _ _ ho,hd'⟩
 ·obtain ⟨p,hp,e1,e2⟩:=Xr (show l.cl.lookup y=some c from h)
  exact WH (by rw [← e2];exact List.mem_map_of_mem hp)
 ·unfold Vd
  show _=N.length
  have hvl:l.vs.length=(l.map (·.1)).length:=by rw [Yn.vs,List.length_map,List.length_map]
  have hsl:=S.len
  rw [List.length_append,List.length_append,List.length_map,List.length_map,List.length_replicate]
  omega
end
def ClIn (H:Hp) (f c:Addr) (fd:FuncData) (qual:Str) (l:Yn):Prop:=H f=some (FnO f fd)∧H c=some (CdO c qual)∧l.In H
theorem ClIn.keep {H H':Hp} {f c:Addr} {fd:FuncData} {qual:Str} {l:Yn} (h:ClIn H f c fd qual l) (s:Yj H H'):ClIn H' f c fd qual l:=⟨s _ _ h.1,s _ _ h.2.1,h.2.2.keep s⟩
end L2
namespace L2
open PySem PySem.Spec PyProof.Rows
def Bm (mg:Str→Option Value) (base:Heap):Prop:=∃ bm ob,mg "__builtins__"=some (.ref bm)∧bm≠builtinsNs∧bm≠mainGlobals∧base.get? bm=some ob∧ob.cls = .type "module"∧ob.dict=some builtinsNs∧ob.data = .plain
section
variable {X:Cx} {pins:List (Addr×Obj)} {σ:St} {H:Hp} {s:Shared}
theorem Inv.madeF {P c':Addr} {ps more:Array Value} {h':Heap} {tk:Nat} {fd:FuncData} {qual:Str} (I:Inv X pins σ H s) (hP:H P=some (.tbl ps)) (hx:Heap.ExtBut P s.heap h') (hge:s.heap.objs.size≤c') (hlt:c'<h'.objs.size) (hrec:h'.CodeRec (.ref c') qual) (htb:h'.get? P=some (PySem.W.tabObj (ps++more))) :
  Inv X pins σ (upd (upd (upd H P (.tbl (ps++more))) c' (CdO c' qual)) h'.objs.size (FnO h'.objs.size fd)) { s with heap:=h'.push { cls := .type "function",data := .func fd },toks:=tk }:=by
 have hPl:P<s.heap.objs.size:=I.hok.lt hP
 have hcf:s.heap.objs.size≤h'.objs.size:=Nat.le_trans hge (Nat.le_of_lt hlt)
 have hlc:∀ {b:Addr},b<s.heap.objs.size→b≠c'∧b≠h'.objs.size:=fun e=>⟨Nat.ne_of_lt (Nat.lt_of_lt_of_le e hge),Nat.ne_of_lt (Nat.lt_of_lt_of_le e hcf)⟩
 have hHc:∀ {b:Addr} {o:HO},H b=some o→b≠c'∧b≠h'.objs.size:=fun e=>hlc (I.hok.lt e)
 have push:∀ b o,h'.get? b=some o→(h'.push { cls := .type "function",data := .func fd }).get? b=some o:=fun b o e=>Heap.get?_push_of_some _ e
 have hget:∀ {b:Addr},b≠P→b≠c'→b≠h'.objs.size→(upd (upd (upd H P (.tbl (ps++more))) c' (CdO c' qual)) h'.objs.size (FnO h'.objs.size fd)) b=H b:=fun h1 h2 h3=>by rw [Yb h3,Yb h2,Yb h1]
 have atP:(upd (upd (upd H P (.tbl (ps++more))) c' (CdO c' qual)) h'.objs.size (FnO h'.objs.size fd)) P=some (.tbl (ps++more)):=by rw [Yb (hlc hPl).2,Yb (hlc hPl).1,Ye]
 refine I.un ⟨fun b o e n _ _=>push b o (hx b o (fun z=>by rw [z,hP] at n;cases n) e),fun b o e n _ _=>⟨o.slots,push b o (hx b o (fun z=>by rw [z,hP] at n;cases n) e)⟩,fun b o e n _=>?_,fun b o e _=>?_,fun b xs e=>?_,fun b o u e=>?_,fun b qs e=>?_⟩ fun b o e=>?_
 ·have:=Heap.lt_size e
  rw [hget (fun z=>by rw [z,hP] at n;cases n) (hlc this).1 (hlc this).2];exact n
 ·by_cases hb:b=P
  ·subst hb;exact ⟨_,push _ _ htb⟩
  ·exact ⟨o,push b o (hx b o hb e)⟩
 ·rw [hget (YN e hP (by intro z;cases z)) (hHc e).1 (hHc e).2];exact e
 ·rw [hget (YN e hP (by intro z;cases z)) (hHc e).1 (hHc e).2];exact e
 ·by_cases hb:b=P
  ·subst hb
   rw [hP] at e;cases e
   exact ⟨more,atP⟩
  ·exact ⟨#[],by rw [hget hb (hHc e).1 (hHc e).2,e];simp⟩
 ·by_cases h3:b=h'.objs.size
  ·subst h3
   rw [Ye] at e;cases e
   exact Yae (Heap.get?_push_size _ rfl)
  ·by_cases h2:b=c'
   ·subst h2
    rw [Yb h3,Ye] at e;cases e
    exact Ycy (hrec.push _)
   ·by_cases h1:b=P
    ·subst h1
     rw [atP] at e;cases e
     exact push _ _ htb
    ·rw [hget h1 h2 h3] at e
     refine (I.hok b o e).stay (fun c u hc q=>push c u (hx c u ?_ q)) (fun c q=>?_) fun c xs q=>?_
     ·rcases hc with rfl | hc
      ·exact h1
      ·exact YN hc hP (by intro z;cases z)
     ·rw [hget (YN q hP (by intro z;cases z)) (hHc q).1 (hHc q).2];exact q
     ·rw [hget (YN q hP (by intro z;cases z)) (hHc q).1 (hHc q).2];exact q
end
def Made (P:Addr) (pos:Pos) (q:Str) (mk:Addr→FuncData→Prop) (H:Hp) (Q:VK):Prop:=∃ ps,H P=some (.tbl ps)∧TriplesOk ps.toList ∧
 ((codeAmong pos ps.toList=none∧∀ f c fd,H f=none→H c=none→f≠c→mk c fd→Q (.ref f) (upd (upd (upd H P (.tbl (ps++#[rawInt pos.line,rawInt pos.col,.ref c]))) c (CdO c q)) f (FnO f fd))) ∨
  ∃ c,codeAmong pos ps.toList=some (.ref c)∧∀ f fd,H f=none→mk c fd→Q (.ref f) (upd H f (FnO f fd)))
section
variable {X:Cx} {c P:Addr} {name qual:Str} {params:Arguments} {body:List Stmt} {eb:Expr} {scope:Scope} {clos:List (Str×Addr)} {pos:Pos} {ln:Nat}
abbrev FnMk (name qual:Str) (params:Arguments) (body:List Stmt) (scope:Scope) (clos:List (Str×Addr)) (c:Addr) (fd:FuncData):Prop:=∃ doc pm ctv,fd=PySem.W.fnX name qual params body scope clos .none .none doc pm none (.ref c) ctv
theorem Yaf {pins:List (Addr×Obj)} {σ:St} {H:Hp} {s:Shared} {ps:Array Value} (I:Inv X pins σ H s) (bm:Bm X.mg X.base) (hP:H P=some (.tbl ps)):mainGlobals≠P∧s.heap.BuiltinsAt X.mg P:=by
 refine ⟨fun z=>?_,?_⟩
 ·obtain ⟨o,es,ep,e,_⟩:=I.mod.glob
  have:=(I.bs _ _ e).2
  rw [z,hP] at this;cases this
 ·obtain ⟨b,ob,h1,h2,h3,h4,h5⟩:=bm
  refine ⟨b,ob,h1,h2,h3,fun z=>?_,(I.bs _ _ h4).1,h5⟩
  have:=(I.bs _ _ h4).2
  rw [z,hP] at this;cases this
theorem mk_fn {pins:List (Addr×Obj)} {σ:St} {H:Hp} {s:Shared} {Q:VK} (bm:Bm X.mg X.base) (C:PySem.W.CodeHd X.base c P) (hcode:X.env.code = .ref c) (hcl:closureFor scope X.env=pure clos) (I:Inv X pins σ H s) (h:Made P pos qual (FnMk name qual params body scope clos) H Q) :
  wpAny (model X.prog X.w) X.A (makeFunction name qual params (.stmts body) scope X.env [] [] [] pos ln) (EP X pins σ Q) X.xe s:=by
 obtain ⟨ps,hP,ht,h⟩:=h
 obtain ⟨hgP,hb⟩:=Yaf I bm hP
 have hPo:s.heap.get? P=some (PySem.W.tabObj ps):=I.hok P _ hP
 rcases h with ⟨hnf,h⟩ | ⟨c',hf,h⟩
 ·refine PySem.W.makeFunction_K (mg:=X.mg) hcl I.ok.glob (I.mod.glob.keeps I.bk) hcode (C.keeps I.bk) hPo ht hnf hgP hb fun c' ctv doc h' tk hx hge hlt hrec htb=>?_
  refine ⟨.ref h'.objs.size,_,I.madeF hP hx hge hlt hrec htb,rfl,h _ _ _ (I.hok.fresh (Nat.le_trans hge (Nat.le_of_lt hlt))) (I.hok.fresh hge) (Nat.ne_of_gt hlt) ⟨_,_,_,rfl⟩⟩
 ·refine PySem.W.makeFunction_hit (mg:=X.mg) hcl I.ok.glob (I.mod.glob.keeps I.bk) hcode (C.keeps I.bk) hPo ht hf hb fun ctv doc h' tk hk hsz=>?_
  exact ⟨.ref h'.objs.size,_,I.laid (fun b o e=>Heap.get?_push_of_some _ (hk b o e)) hsz (Yae (Heap.get?_push_size _ rfl)),rfl,h _ _ (I.hok.fresh hsz) ⟨_,_,_,rfl⟩⟩
def tDef (i:Nat) (P:Addr) (pos:Pos) (q:Str) (mk:Addr→FuncData→Prop):TS:=fun D σ H=>Made P pos q mk H fun v H'=>D.nx (σ.set i (some v)) H'
theorem YcA (i:Nat) (bm:Bm X.mg X.base) (C:PySem.W.CodeHd X.base c P) (hcode:X.env.code = .ref c) (hcl:closureFor scope X.env=pure clos) (hN:X.N.Nodup) (hi:X.N[i]?=some name) (hx:Loc X.env.scope name) (hq:qualnameIn X.env name name=qual)
  (hd0:params.defaults=[]) (hk0:params.kw_defaults=[]) (ha:annTrees params none X.env=[]) (hf:X.fn name=true∨X.env.scope.names.lookup name=some .local) :
  PS X (.FunctionDef name params body [] none [] scope none name pos) (tDef i P pos qual (FnMk name qual params body scope clos)):=by
 intro pins s σ H D I h
 refine PySem.W.nestDef_K hd0 hk0 ha ?_
 rw [hq]
 refine thn (mk_fn bm C hcode hcl I h) fun v s1 ⟨x,H1,I1,r,q⟩=>?_
 exact Xt I1 hN hi hx r (fun s2 I2=>⟨_,H1,I2,q⟩) hf
end
def XJ (X:Cx) (σ:St) (l:Yn):Prop:=l.as.Nodup∧∀ p∈l,∃ i:Nat,X.N[i]?=some p.1∧σ[i]?=some (some p.2.2)∧X.env.kindOf p.1=some .cell∧X.env.cells.lookup p.1=some p.2.1
section
variable {X:Cx} {st:Stmt} {YD:List Stmt} {t:TS} {u:(St→V→Hp→Prop)→St→Hp→Prop} {e:Expr} {te:TE} {pos:Pos}
end
end L2
namespace L2
open PySem PySem.Spec PyProof.Rows
def YcB (g:Gx) (k i:Nat) (t:TA):TE:=fun σ H Q=>∃ f fd ps sp,σ[i]?=some (some (.ref f))∧FnOk g.P g.w g.K g.mg g.base CX0 k f fd ps sp∧(∀ us:List Value,us.length=ps.length→bindArgs fd ⟨us,[]⟩=pure (ps.zip us))∧H f=some (FnO f fd)∧t σ H fun vs H1=>H1 f=some (FnO f fd)∧sp vs H1 Q E0
section
variable {X:Cx} {g:Gx} {k j i:Nat} {x:Str} {p pos:Pos} {e:Expr} {es:List Expr} {t:TA}
theorem UY {pins:List (Addr×Obj)} {σ:St} {H:Hp} {s:Shared} {f:Addr} {fd:FuncData} (I:Inv X pins σ H s) (h:H f=some (FnO f fd)):PySem.W.FnAt f s.heap:=⟨_,_,_,_,(I.hok _ _ h).1⟩
theorem YaK (i:Nat) (hr:Room k X.A) (ha:PA X (e::es) t) (hj:j≤k) (hX:X.gx=g) (hN:X.N[i]?=some x) (hv:Vis X.env.scope x) (hdb:(x==("__debug__":Str))=false)
  (hcd:(x==("__classdict__":Str))=false) (he:starEach (e::es) X.env=(false,eval e X.env)::starEach es X.env) (hpl:(backTo pos (starEach es X.env)).any (·.1)=false):PE X (.Call (.Name x p) (e::es) [] pos) (YcB g j i t):=by
 subst hX
 intro pins s σ H Q I h
 obtain ⟨f,fd,ps,sp,hσ,F,b,hf,ht⟩:=h
 refine wpAny_Call_Name_kw (thn (QP hN hv hdb hcd pins s σ H (fun v H1=>v = .ref f∧H1 f=some (FnO f fd)∧t σ H1 fun vs H1=>H1 f=some (FnO f fd)∧sp vs H1 Q E0) I ⟨.ref f,hσ,rfl,hf,ht⟩) fun u s1 ⟨v,H1,I1,r,e,hf1,ht⟩=>?_)
 subst e
 obtain rfl:u=Value.ref f:=r
 refine PySem.W.callWith_F (UY I1 hf1) (thn (ha pos pins s1 σ H1 _ I1 ht) fun us s2 ⟨vs,H2,I2,r2,hf2,q⟩=>⟨UY I2 hf2,?_⟩) he hpl
 exact W3 F (hr.mono hj) (.all b) .nil WR I2 r2 (by rw [List.append_nil];exact q)
end
abbrev Tbs:=List (Str×Addr×Addr)
theorem Yag {P:Program} {w:World} {K:PySem.W.Frag} {mg mb:Str→Option Value} {CX:CXT} {k:Nat} {fa a:Addr} {fd:FuncData} {x:Str} {sp:Sp} {s₁:Shared} {vs:List Value} {ns:List Int} (tabs:Tbs)
  (KX:K.In s₁.heap) (hns:s₁.heap.Ns mainGlobals mg) (hb:s₁.heap.Ns builtinsNs mb) (hbb:∀ x:Str,x≠"__name__"→mb x=bootBuiltins x) (hlim:s₁.heap.NoLimit) (hg:s₁.gens=#[])
  (ha:s₁.heap.get? a=some { cls := .type "list",data := .seq vs.toArray }) (hi:IntsAre vs ns) (hl:ns.length≤sizeLine) (hr:Room k callerA)
  (hT:∀ q∈tabs,PySem.W.CodeHd s₁.heap q.2.1 q.2.2∧s₁.heap.get? q.2.2=some (PySem.W.tabObj #[])) (hK:∀ q∈tabs,K.lookup q.2.2=none)
  (bmn:∃ bm ob,mg "__builtins__"=some (.ref bm)∧bm≠builtinsNs∧s₁.heap.get? bm=some ob∧ob.cls = .type "module"∧ob.dict=some builtinsNs∧ob.data = .plain)
  (F:∀ base:Heap,K.In base→base.Ns mainGlobals mg→Bm mg base→(∀ q∈tabs,PySem.W.CodeHd base q.2.1 q.2.2)→FnOk P w K mg base CX k fa fd [x] sp) (hbind:∀ (s:Shared) (u:Value),BindsTo s fd ⟨[u],[]⟩ [(x,u)])
  (hsp:∀ H:Hp,(∀ q∈tabs,H q.2.2=some (.tbl #[]))→SqL K H a (ns.map V.int)→sp [.ref a] H (fun v _=>v = .bl true) fun _ _ _=>False)
  (hCX:∀ H e s',CX [] H s₁ (fun _ _ _=>False) e s'→False) :
  codeAny (model P w) callerA (.call (.ref fa) ⟨[.ref a],[]⟩) (fun r s'=>r = .ok (.ret (.bool true))∧OldK s₁.heap s'.heap∧s'.os=s₁.os∧AllBare s'.gens) s₁:=by
 have rv:=Vz hi
 have lenV:=hi.length
 have tobj:∀ b∈tabs.map (·.2.2),s₁.heap.get? b=some (PySem.W.tabObj #[]):=fun b hb=>by
  obtain ⟨q,hq,rfl⟩:=List.mem_map.mp hb
  exact (hT q hq).2
 have aT:a∉tabs.map (·.2.2):=fun hb=>by
  have:=tobj a hb
  rw [ha] at this
  cases this
 have core:∀ H:Hp,(∀ b,H b=none∨(∃ o xs,H b=some (.frz o (.lst xs)))∨(b∈tabs.map (·.2.2)∧H b=some (.tbl #[])))→SqL K H a (ns.map V.int)→HOk P w H s₁.heap→(∀ b,H b≠none→b=a∨b∈tabs.map (·.2.2))→(H a≠none→K.lookup a=none)→(∀ q∈tabs,H q.2.2=some (.tbl #[])) →
   codeAny (model P w) callerA (.call (.ref fa) ⟨[.ref a],[]⟩) (fun r s'=>r = .ok (.ret (.bool true))∧OldK s₁.heap s'.heap∧s'.os=s₁.os∧AllBare s'.gens) s₁:=by
  intro H hO hS hok hA hKa hTb
  have base_of:∀ {b:Addr} {o:Obj},s₁.heap.get? b=some o→H b=none→(XL s₁.heap H).get? b=some o:=fun e n=>Yav e n
  have noC:∀ {b:Addr} {o:Obj},s₁.heap.get? b=some o→o.cls ≠ .type "list"→o≠PySem.W.tabObj #[]→H b=none:=fun {b o} e d1 d2=>by
   cases q:H b with
   | none=>rfl
   | some u =>
    rcases hA b (by rw [q];simp) with e' | e'
    ·subst e'
     rw [ha] at e;cases e
     exact absurd rfl d1
    ·rw [tobj b e'] at e
     exact absurd (Option.some.inj e).symm d2
  have noA:∀ {b:Addr} {o:Obj} {es:Array DictEntry} {ep:Nat},s₁.heap.get? b=some o→o.data = .dict es ep→H b=none:=fun {b o es ep} e d=>by
   cases q:H b with
   | none=>rfl
   | some u =>
    rcases hA b (by rw [q];simp) with e' | e'
    ·subst e'
     rw [ha] at e;cases e
     have d':Data.seq vs.toArray _=Data.dict es ep:=d
     cases d'
    ·rw [tobj b e'] at e
     cases e
     have d':Data.fields #[]=Data.dict es ep:=d
     cases d'
  have nsK:∀ {b:Addr} {m:Str→Option Value},s₁.heap.Ns b m→(XL s₁.heap H).Ns b m:=fun {b m} ⟨o,es,ep,e,d,r⟩=>⟨o,es,ep,base_of e (noA e d),d,r⟩
  have hKb:K.In (XL s₁.heap H):=fun b o e=>base_of (KX b o e) (by
   cases q:H b with
   | none=>rfl
   | some u =>
    rcases hA b (by rw [q];simp) with e' | e'
    ·subst e'
     rw [hKa (by rw [q];simp)] at e;cases e
    ·obtain ⟨z,hz,rfl⟩:=List.mem_map.mp e'
     rw [hK z hz] at e;cases e)
  have hM:Mod K mg (XL s₁.heap H):=⟨hKb,nsK hns,⟨mb,nsK hb,hbb⟩,let ⟨mc,h1,h2⟩:=hlim;⟨mc,nsK h1,h2⟩⟩
  have e0:Env0 P w K mg (XL s₁.heap H) callerA [] s₁ H:=⟨rfl,hM,fun b o e=>Ybs e,Nat.le_of_eq (QN _ _),trivial,fun b hb=>absurd (show b∈([]:List Addr) from hb) (by simp),hok,.of_eq hg⟩
  have hBm:Bm mg (XL s₁.heap H):=by
   obtain ⟨bm,ob,b1,b2,b3,b4,b5,b6⟩:=bmn
   refine ⟨bm,ob,b1,b2,fun z=>?_,base_of b3 (noC b3 (by rw [b4];decide) fun z=>by rw [z] at b4;cases b4),b4,b5,b6⟩
   obtain ⟨o,es,ep,e,d,_⟩:=hns
   rw [z,e] at b3;cases b3
   rw [d] at b6;cases b6
  have hCd:∀ q∈tabs,PySem.W.CodeHd (XL s₁.heap H) q.2.1 q.2.2:=fun q hq=>by
   obtain ⟨o,vs',file,tf,flags,tg,inF,text,tt,e1,e2,r⟩:=(hT q hq).1
   exact ⟨o,vs',file,tf,flags,tg,inF,text,tt,base_of e1 (noC e1 (by rw [e2];decide) fun z=>by rw [z] at e2;cases e2),e2,r⟩
  refine codeAny_mono ((F _ hKb (nsK hns) hBm hCd).run callerA [] s₁ H ⟨[.ref a],[]⟩ [.ref a] [.ref a] _ _ hr e0 (hbind s₁ (.ref a)) (.cons rfl .nil) (hsp H hTb hS)) fun r s' h=>?_
  cases r with
  | error e=>exact (hCX H e s' h).elim
  | ok fl =>
   cases fl with
   | next=>exact False.elim h
   | brk=>exact False.elim h
   | cont=>exact False.elim h
   | ret u =>
    obtain ⟨v,H',os,bare,un,hok',r',q⟩:=h
    have q':v = .bl true:=q
    subst q'
    obtain rfl:u=Value.bool true:=r'
    have each:∀ b o,s₁.heap.get? b=some o→s'.heap.get? b=some o∨((∃ z∈tabs,z.2.2=b)∧o=PySem.W.tabObj #[]∧∃ ps,s'.heap.get? b=some (PySem.W.tabObj ps)):=fun b o e=>by
     rcases hO b with q | ⟨ob,xs,z⟩ | ⟨z1,z2⟩
     ·exact .inl (un.keep b o e q (by intro z;exact absurd (show b∈([]:List Addr) from z) (by simp)) (by simp))
     ·have z2:=un.frzs b ob _ z
      obtain ⟨e1,_⟩:=hok b _ z
      obtain ⟨e2,_⟩:=hok' b _ z2
      rw [e] at e1;cases e1
      exact .inl e2
     ·obtain ⟨q,hq,e3⟩:=List.mem_map.mp z1
      obtain ⟨more,e4⟩:=un.tbls b _ z2
      have e5:s'.heap.get? b=some (PySem.W.tabObj (#[]++more)):=hok' b _ e4
      rw [tobj b z1] at e
      exact .inr ⟨⟨q,hq,e3⟩,(Option.some.inj e).symm,_,e5⟩
    refine ⟨rfl,⟨fun b o e=>?_,fun b o e=>?_⟩,os,bare⟩
    ·rcases each b o e with h | ⟨⟨z,hz,rfl⟩,rfl,ps,h⟩
     ·exact .inl h
     ·exact .inr (.inl ⟨((hT z hz).1.tab (hT z hz).2).isCodeTable,rfl,#[],ps,rfl,by rw [Array.empty_append];exact h⟩)
    ·rcases each b o e with h | ⟨_,_,ps,h⟩
     ·exact ⟨o,h⟩
     ·exact ⟨_,h⟩
 have tbIn:∀ q∈tabs,q.2.2∈tabs.map (·.2.2):=fun q hq=>List.mem_map_of_mem hq
 have tbOk:∀ {H:Hp} {b:Addr},b∈tabs.map (·.2.2)→Yu P w H s₁.heap b (.tbl #[]):=fun hb=>tobj _ hb
 cases hk:K.lookup a with
 | some o =>
  have e:=KX a o hk
  rw [ha] at e
  cases e
  refine core (fun b=>if b∈tabs.map (·.2.2) then some (.tbl #[]) else none) (fun b=>?_) (.inr ⟨_,vs.toArray,_,hk,rfl,rfl,rfl,by rw [List.size_toArray,lenV];exact hl,by simpa using rv⟩) (fun b u z=>?_) (fun b z=>?_) (fun z=>absurd (if_neg aT) z) fun q hq=>if_pos (tbIn q hq)
  ·by_cases hb:b∈tabs.map (·.2.2)
   ·exact .inr (.inr ⟨hb,if_pos hb⟩)
   ·exact .inl (if_neg hb)
  ·by_cases hb:b∈tabs.map (·.2.2)
   ·have z':=(if_pos hb).symm.trans z
    cases z'
    exact tbOk hb
   ·have z':=(if_neg hb).symm.trans z
    cases z'
  ·by_cases hb:b∈tabs.map (·.2.2)
   ·exact .inr hb
   ·exact absurd (if_neg hb) z
 | none =>
  refine core (fun b=>if b∈tabs.map (·.2.2) then some (.tbl #[]) else if b=a then some (.frz { cls := .type "list",data := .seq vs.toArray } (.lst (ns.map V.int))) else none) (fun b=>?_) (.inl (.inr ⟨{ cls := .type "list",data := .seq vs.toArray },(if_neg aT).trans (if_pos rfl)⟩)) (fun b u z=>?_) (fun b z=>?_) (fun _=>hk) fun q hq=>if_pos (tbIn q hq)
  ·by_cases hb:b∈tabs.map (·.2.2)
   ·exact .inr (.inr ⟨hb,if_pos hb⟩)
   ·by_cases hb2:b=a
    ·exact .inr (.inl ⟨_,_,(if_neg hb).trans (if_pos hb2)⟩)
    ·exact .inl ((if_neg hb).trans (if_neg hb2))
  ·by_cases hb:b∈tabs.map (·.2.2)
   ·have z':=(if_pos hb).symm.trans z
    cases z'
    exact tbOk hb
   ·have z1:=(if_neg hb).symm.trans z
    by_cases hb2:b=a
    ·have z':=(if_pos hb2).symm.trans z1
     cases z'
     subst hb2
     exact ⟨ha,by rw [List.length_map];exact hl,vs,_,rv,ha⟩
    ·have z':=(if_neg hb2).symm.trans z1
     cases z'
  ·by_cases hb:b∈tabs.map (·.2.2)
   ·exact .inr hb
   ·by_cases hb2:b=a
    ·exact .inl hb2
    ·exact absurd ((if_neg hb).trans (if_neg hb2)) z
def WT (K:PySem.W.Frag) (tabs:Tbs):Sp:=fun vs H Q _=>∃ (a:Addr) (ns:List Int),vs=[.ref a]∧SqL K H a (ns.map V.int)∧ns.length≤63∧(∀ q∈tabs,H q.2.2=some (.tbl #[]))∧∀ H',Q (.bl true) H'
theorem YaL {l:PySem.W.OpenLaw} {q:Program} {loose:List Str} {XP:(Str→Option Value)→Heap→Prop} {YP:World→Heap→Prop} {d:DefRec} {K:Params→PySem.W.Frag} (tabs:Tbs) (k:Nat) (x:Str) (st:Stmt) (N:List Str) (hn:l.most=some 63) (hdf:d.params.defaults=[]) (hk:Room (k+1) callerA) (S:FnScope N [x] (Yd st))
  (hY:∀ (w:World) (h:Heap),YP w h→(K w.params).In h)
  (hrec:∀ p∈tabs,∃ d',(recsOf q).find? (fun e=>e.name==p.1)=some d')
  (htab:∀ (w:World),∀ p∈tabs,PySem.W.tabIn (K w.params) p.1=some p.2)
  (hno:∀ (w:World),∀ p∈tabs,(K w.params).lookup p.2.2=none)
  (F:∀ (w:World) (mg:Str→Option Value) (h:Heap),(K w.params).In h→h.Ns mainGlobals mg→Q6 (K w.params) mg st x d.name∧∀ base,Bm mg base→(∀ p∈tabs,PySem.W.CodeHd base p.2.1 p.2.2)→WC (Gx.mk l.prog w (K w.params) mg base) k N d.name st (WT (K w.params) tabs)) :
  PySem.W.WalkO q loose XP YP l.row.toRowW d [] (fun f vs=>PySem.call f vs):=by
 refine Att.attach_call hn hdf fun w s₀ s₁ mg mb fa o pm cd doc a vs ns G Y ho hd hcd hmg hobj hints hlen hg=>?_
 have KX:=hY w _ Y
 obtain ⟨⟨f,fd,Fu,hb,hm⟩,B⟩:=F w mg _ KX G.T.g
 have e:=hmg.symm.trans hm
 cases e
 refine Yag (CX:=CX0) (sp:=WT (K w.params) tabs) tabs KX G.T.g G.T.b G.T.builtins G.T.nolimit hg hobj hints (Nat.le_trans hlen (by decide)) hk (fun p hp=>?_) (hno w) G.T.bmain
  (fun base _ _ hB hC=>Fu.ok S (fun vs H Q E h=>by obtain ⟨a,ns,rfl,_⟩:=h;rfl) fun cdv A outer s H vs Q E hr h=>B base hB hC fa cdv A outer s H vs Q E hr h) hb (fun H hT hS=>⟨a,ns,rfl,hS,hlen,hT,fun _=>rfl⟩) fun H e s' z=>z
 obtain ⟨d',hd'⟩:=hrec p hp
 exact PySem.W.tab_of G.T KX hd' (htab w p hp)
def inDef (s:Stmt) (j:Nat):Stmt:=(Yr s).getD j (.Pass ⟨0,0,0,0⟩)
def Gx.RawT (g:Gx) (x qual:Str) (st:Stmt) (ps:List Str) (c:Addr):Prop:=∃ f fd,Fun g.K x qual st f fd∧YA g.K fd ps []∧g.mg x=some (.ref f)∧fd.code = .ref c
theorem YbW {K:PySem.W.Frag} {h:Heap} {mg:Str→Option Value} {f:Addr} {x:Str} {st:Stmt} {c:Addr} {oc kV dc pm cd ct:Value} {od an:Option Addr} {sl:Array (Option Value)} (X:K.In h) (G:h.Ns mainGlobals mg) (ps:List Str)
  (a:PySem.W.nsIn K mainGlobals x=some (some (.ref f))) (l:K.lookup f=some ⟨oc,od,.func (PySem.W.fnOf x x (Yx st) (Yr st) (Yd st) .none kV dc pm an cd ct),sl⟩) (cc:PySem.W.codeIn K cd x=true) (k:PySem.W.keepIn K (.ref f)=true) (e:cd = .ref c)
  (b:∀ (kV doc pm:Value) (an:Option Addr) (cdv ct:Value) (us:List Value),us.length=ps.length→bindArgs (PySem.W.fnOf x x (Yx st) (Yr st) (Yd st) .none kV doc pm an cdv ct) ⟨us,[]⟩=pure (ps.zip us)) :
  ∀ P w base,(Gx.mk P w K mg base).RawT x x st ps c:=fun P w base =>
 have F:=XO (st:=st) l cc k
 ⟨f,_,F,F.binds b,PySem.W.mg_of X G a,e⟩
end L2
namespace HT
open PySem PySem.Spec PyProof.Rows
variable {prog:Program} {w:World} {A:Around} {E:Value→Shared→Prop} {s:Shared}
end HT
namespace L2
open PySem PySem.Spec PyProof.Rows
end L2
namespace L2
open PySem PySem.Spec PyProof.Rows
section
variable {tb:TS} {D:Ends} {σ:St} {H:Hp}
end
section
variable {src:List (Option Nat)} {te:TE} {tt:TT} {σ:St} {H:Hp} {Q:VK}
end
end L2
namespace L2
open PySem PySem.Spec PyProof.Rows
end L2
namespace L2
open PySem PySem.Spec PyProof.Rows
structure FunD (K:PySem.W.Frag) (x qual:Str) (st:Stmt) (f:Addr) (fd:FuncData) (T:Addr):Prop where
 ex:∃ (oc:Value) (od:Option Addr) (kV doc pm:Value) (an:Option Addr) (cdv ct:Value) (osl:Array (Option Value)),
  fd=PySem.W.fnOf x qual (Yx st) (Yr st) (Yd st) (.ref T) kV doc pm an cdv ct∧K.lookup f=some ⟨oc,od,.func fd,osl⟩∧PySem.W.codeIn K cdv qual=true
 kp:PySem.W.keepIn K (.ref f)=true
section
variable {g:Gx} {x qual:Str} {st:Stmt} {N ps:List Str} {dvs:List V} {sp:Sp} {j k:Nat}
variable {X:Cx} {p pos:Pos} {e:Expr} {es:List Expr} {t:TA}
end
section
variable {X:Cx}
end
section
variable {src:List (Option Nat)} {te:TE} {σ:St} {H:Hp} {Q:VK}
theorem QB {ta:TA} {n:Nat} (f:Nat→V) (ha:∀ R:List V→Hp→Prop,(∀ H1,Yj H H1→R [.int n] H1)→ta σ H R) (hlen:n≤100000)
  (step:∀ (i:Nat) H',i<n→Yj H H'→∀ R:VK,(∀ H'',Yj H' H''→R (f i) H'')→te (some (.int i)::YW src σ) H' R)
  (fin:∀ D H',H D=none→Yj H H'→H' D=some (.lst ((List.range n).map f))→Q (.ref D) H'):tLC (none::src) (VO ta) (Xi 0) V8 te σ H Q:=by
 refine ha _ fun H1 s1=>⟨n,rfl,by omega,by omega,fun D hD=>?_⟩
 refine Ycr (UD (lo:=0) (n:=n) (P:=fun _=>True)) ((List.range n).map f) (fun _ _=>trivial) hD (by simp) (by simpa using hlen) (fun i x y H' hx hy sm R r=>?_) fun H' sm hd=>fin D H' (s1.free hD) (s1.trans sm) hd
 have hi:i<n:=by have:=(List.getElem?_eq_some_iff.mp hx).1;simpa using this
 rw [List.getElem?_map,List.getElem?_range hi] at hx hy
 have e:V.int (0+(i:Int))=x:=Option.some.inj hx
 rw [Int.zero_add] at e
 have e2:f i=y:=Option.some.inj hy
 subst e e2
 exact step i H' hi (s1.trans sm) R r
end
end L2
namespace L2
open PySem PySem.Spec PyProof.Rows
mutual
inductive RK (h:Heap):Value→PyData→Prop
 | int (i:Int) (t:Tok):RK h (.int i t) (.int i)
 | str (x:Str) (t:Tok) (hx:PyData.strOk x=true):RK h (.str x t) (.str x)
 | tup {a:Addr} {o:Obj} {vs:Array Value} {n:Nat} {ds:List PyData}:h.get? a=some o→o.cls = .type "tuple"→o.data = .seq vs n→RKs h vs.toList ds→RK h (.ref a) (.tuple ds)
inductive RKs (h:Heap):List Value→List PyData→Prop
 | nil:RKs h [] []
 | cons {v:Value} {d:PyData} {vs:List Value} {ds:List PyData}:RK h v d→RKs h vs ds→RKs h (v::vs) (d::ds)
end
mutual
inductive KO:PyData→Prop
 | int (i:Int):KO (.int i)
 | str (x:Str):KO (.str x)
 | tup {ds:List PyData}:KOs ds→KO (.tuple ds)
inductive KOs:List PyData→Prop
 | nil:KOs []
 | cons {d:PyData} {ds:List PyData}:KO d→KOs ds→KOs (d::ds)
end
mutual
theorem RK.ko {h:Heap}:∀ {v:Value} {d:PyData},RK h v d→KO d
 | _,_,.int i t => .int i
 | _,_,.str x t _ => .str x
 | _,_,.tup _ _ _ hs => .tup hs.ko
theorem RKs.ko {h:Heap}:∀ {vs:List Value} {ds:List PyData},RKs h vs ds→KOs ds
 | _,_,.nil => .nil
 | _,_,.cons a b => .cons a.ko b.ko
end
mutual
theorem RK.reads {h:Heap}:∀ {v:Value} {d:PyData},RK h v d→(∃ as,Reads h v d as)∧d.canLay0=true
 | _,_,.int i t=>⟨⟨_,.int i t⟩,rfl⟩
 | _,_,.str x t hx=>⟨⟨_,.str x t⟩,by simpa [PyData.canLay0] using hx⟩
 | _,_,.tup h1 h2 h3 hs=>by
  obtain ⟨⟨as,r⟩,l⟩:=hs.reads
  exact ⟨⟨_,.tuple h1 h2 h3 r⟩,by rw [PyData.canLay0];exact l⟩
theorem RKs.reads {h:Heap}:∀ {vs:List Value} {ds:List PyData},RKs h vs ds→(∃ as,ReadsAll h vs ds as)∧PyData.canLayAll0 ds=true
 | _,_,.nil=>⟨⟨_,.nil⟩,rfl⟩
 | _,_,.cons a b=>by
  obtain ⟨⟨as,r⟩,l⟩:=a.reads
  obtain ⟨⟨bs,r'⟩,l'⟩:=b.reads
  exact ⟨⟨_,.cons r r'⟩,by rw [PyData.canLayAll0,l,l'];rfl⟩
end
theorem RK.of {h:Heap} {d:PyData} {v:Value} {as:List Addr} (k:KO d) (r:Reads h v d as) (l:d.canLay0=true):RK h v d:=by
 induction k using KO.rec (motive_2:=fun ds _=>∀ {vs:List Value} {as:List Addr},ReadsAll h vs ds as→PyData.canLayAll0 ds=true→RKs h vs ds) generalizing v as with
 | int i=>cases r with | int _ t=>exact .int i t
 | str x=>cases r with | str _ t=>exact .str x t (by simpa [PyData.canLay0] using l)
 | tup _ ih=>cases r with | tuple h1 h2 h3 hs=>exact .tup h1 h2 h3 (ih hs (by rw [PyData.canLay0] at l;exact l))
 | nil=>rename_i r l;cases r;exact .nil
 | cons _ _ ih ihs =>
  rename_i r l
  rw [PyData.canLayAll0,Bool.and_eq_true] at l
  cases r with | cons r rs=>exact .cons (ih r l.1) (ihs rs l.2)
theorem RK.inj {h:Heap} {d:PyData} {v:Value} {e:PyData} (a:RK h v d) (b:RK h v e):d=e:=by
 obtain ⟨⟨_,r⟩,l⟩:=a.reads
 obtain ⟨⟨_,r'⟩,_⟩:=b.reads
 exact (r.unique _ _ r').1
mutual
theorem RK.keeps {h h':Heap} {x:Addr} {o:Obj} {es:Array DictEntry} {ep:Nat} (ho:h.get? x=some o) (hd:o.data = .dict es ep) (hs:Heap.SameBut x h h'):∀ {v:Value} {d:PyData},RK h v d→RK h' v d
 | _,_,.int i t => .int i t
 | _,_,.str y t hy => .str y t hy
 | _,_,.tup (a:=a) h1 h2 h3 ks=>by
  have hne:a≠x:=by
   rintro rfl
   rw [ho] at h1
   cases h1
   rw [hd] at h3
   exact nomatch h3
  exact .tup ((hs.2 a hne).trans h1) h2 h3 (RKs.keeps ho hd hs ks)
theorem RKs.keeps {h h':Heap} {x:Addr} {o:Obj} {es:Array DictEntry} {ep:Nat} (ho:h.get? x=some o) (hd:o.data = .dict es ep) (hs:Heap.SameBut x h h'):∀ {vs:List Value} {ds:List PyData},RKs h vs ds→RKs h' vs ds
 | _,_,.nil => .nil
 | _,_,.cons a b => .cons (RK.keeps ho hd hs a) (RKs.keeps ho hd hs b)
end
noncomputable instance decPy:DecidableEq PyData:=fun a b=>Classical.propDecidable (a=b)
mutual
theorem KO.eqv:∀ {d e:PyData},KO d→KO e→d.eqv e=decide (d=e)
 | .int a,.int b,_,_=>by
  by_cases h:a=b
  ·subst h;simp [PyData.eqv]
  ·simp [PyData.eqv,h]
 | .str a,.str b,_,_=>by
  by_cases h:a=b
  ·subst h;simp [PyData.eqv]
  ·simp [PyData.eqv,h]
 | .int a,.str b,_,_=>by simp [PyData.eqv]
 | .str a,.int b,_,_=>by simp [PyData.eqv]
 | .int a,.tuple b,_,_=>by simp [PyData.eqv]
 | .str a,.tuple b,_,_=>by simp [PyData.eqv]
 | .tuple a,.int b,_,_=>by simp [PyData.eqv]
 | .tuple a,.str b,_,_=>by simp [PyData.eqv]
 | .tuple a,.tuple b,.tup x,.tup y=>by
  rw [PyData.eqv,KOs.eqv x y]
  by_cases h:a=b
  ·subst h;simp
  ·simp [h]
theorem KOs.eqv:∀ {ds es:List PyData},KOs ds→KOs es→PyData.eqvAll ds es=decide (ds=es)
 | [],[],_,_=>by simp [PyData.eqvAll]
 | [],_::_,_,_=>by simp [PyData.eqvAll]
 | _::_,[],_,_=>by simp [PyData.eqvAll]
 | d::ds,e::es,.cons x xs,.cons y ys=>by
  rw [PyData.eqvAll,KO.eqv x y,KOs.eqv xs ys]
  by_cases h:d=e
  ·subst h
   by_cases h2:ds=es
   ·subst h2;simp
   ·simp [h2]
  ·simp [h]
end
section
variable {P:Program} {w:World}
mutual
def kh (P:Program) (w:World):PyData→Int
 | .int i=>(YH P w).hash (.inl i)
 | .str x=>(YH P w).hash (.inr x)
 | .tuple ds=>reduceHash (Builtin.Tuple.tupleHashOf (khs P w ds))
 | _=>0
def khs (P:Program) (w:World):List PyData→List Int
 | []=>[]
 | d::ds=>kh P w d::khs P w ds
end
mutual
def kdr:PyData→Nat
 | .int _=>1
 | .str _=>1
 | .tuple ds=>Xw ds+1
 | _=>0
def Xw:List PyData→Nat
 | []=>0
 | d::ds=>kdr d+Xw ds
end
theorem YbX (a b:List PyData):khs P w (a++b)=khs P w a++khs P w b:=by
 induction a with
 | nil=>simp [khs]
 | cons x a ih=>simp [khs,ih]
theorem YaM (a b:List PyData):Xw (a++b)=Xw a+Xw b:=by
 induction a with
 | nil=>simp [Xw]
 | cons x a ih=>simp [Xw,ih,Nat.add_assoc]
theorem YaN (a b:List PyData):PyData.depthAll (a++b)=max (PyData.depthAll a) (PyData.depthAll b):=by
 induction a with
 | nil=>simp [PyData.depthAll]
 | cons x a ih=>simp [PyData.depthAll,ih,Nat.max_assoc]
theorem Ve {s:Shared} {a:Addr} {o:Obj} (h1:s.heap.get? a=some o) (h2:o.cls = .type "tuple"):s.TypeIs (.ref a) "tuple":=⟨o,h1,h2⟩
theorem UZ:∀ (n:Nat) {A:Around} {E:Value→Shared→Prop} {s:Shared} {v:Value} {d:PyData} {Q:Int→Shared→Prop},RK s.heap v d→d.depth≤n→A.units+n<cLine→Q (kh P w d) { s with toks:=s.toks+kdr d }→wpAny (model P w) A (pyHash v) Q E s
 | n,A,E,s,_,_,Q,.int i t,_,_,h=>(YH P w).pyHash (WS (k := .inl i) (show Ym (.int i) (.int i t) from ⟨t,rfl⟩)) (by simpa [kh,kdr] using h)
 | n,A,E,s,_,_,Q,.str x t _,_,_,h=>(YH P w).pyHash (WS (k := .inr x) (show Ym (.str x) (.str x t) from ⟨t,rfl⟩)) (by simpa [kh,kdr] using h)
 | 0,A,E,s,_,_,Q,.tup _ _ _ _,hd,_,h=>by simp [PyData.depth] at hd
 | n+1,A,E,s,_,_,Q,.tup (a:=a) (ds:=ds) h1 h2 h3 ks,hd,hu,h=>by
  have hT:=Ve h1 h2
  unfold pyHash
  first | unfold pyHashByItsType | skip
  first | refine wpAny_bind (wpAny_cRoomFor_or (.inr (by omega)) ?_) | skip
  refine wpAny_bind (wpAny_specialOf hT F.slot_tuple_hash.lookup ?_)
  show wpAny _ _ (if (some (Value.builtin "tuple.__hash__")==some Value.none)=true then _ else _) Q E s
  rw [if_neg (by rw [beq_builtin_none];exact Bool.false_ne_true)]
  refine wpAny_bind (wpAny_specialOf hT F.slot_tuple_hash.lookup ?_)
  refine wpAny_bind (wpAny_callSpecialIfBoundUnlessNone?_slot hT F.slot_tuple_hash (wpAny_call_entry F.slot_tuple_hash hT F.entry_tuple_hash ?_ (F.args_tuple_hash_1 _)))
  show wpAny _ _ (Builtin.Tuple.tupleItemsOf (.ref a) >>= _) _ _ s
  refine wpAny_bind (wpAny_tupleItemsOf h1 h3 ?_)
  refine wpAny_bind ?_
  rw [← Array.forIn_toList]
  have hdd:PyData.depthAll ds≤n:=by simp only [PyData.depth] at hd;omega
  refine wpAny_forIn_list _ (fun YD (b:Array Int) s'=>∃ done left,ds=done++left∧RKs s.heap YD left∧b.toList=khs P w done∧s'={ s with toks:=s.toks+Xw done }) _ ?_ ?_ _ _ ⟨[],ds,rfl,ks,by simp [khs],by simp [Xw]⟩
  ·rintro x YD b s' ⟨done,left,e,hl,hb,rfl⟩
   cases hl with
   | @cons _ d _ ds' hk hl' =>
    have hdk:d.depth≤n:=by
     rw [e,YaN] at hdd
     simp only [PyData.depthAll] at hdd
     omega
    have hin:A.in1.units+n<cLine:=by
     have:A.in1.units=A.units+1:=rfl
     omega
    refine wpAny_bind (UZ n (s:={ s with toks:=s.toks+Xw done }) hk hdk hin ?_)
    have fin:∃ done' left',ds=done'++left'∧RKs s.heap YD left'∧(b.push (kh P w d)).toList=khs P w done'∧({ s with toks:=s.toks+Xw done+kdr d }:Shared)={ s with toks:=s.toks+Xw done' } :=
     ⟨done++[d],ds',by rw [e];simp,hl',by rw [YbX,Array.toList_push,hb];simp [khs],by rw [YaM];simp [Xw,Nat.add_assoc]⟩
    first
     | exact wpAny_pure fin
     | exact wpAny_bind (wpAny_pure (wpAny_pure fin))
  ·rintro b s' ⟨done,left,e,hl,hb,rfl⟩
   cases hl
   rw [List.append_nil] at e
   subst e
   show wpAny _ _ (retInt (Builtin.Tuple.tupleHashOf b.toList)) _ _ _
   rw [hb]
   refine wpAny_ret_mkInt ?_
   simp only [kh,kdr] at h
   unfold reduceHash at h
   show wpAny _ _ (if (decide (-(2:Int)^63≤Builtin.Tuple.tupleHashOf (khs P w ds))&&decide (Builtin.Tuple.tupleHashOf (khs P w ds)<2^63))=true then _ else _) Q E _
   by_cases hr:(decide (-(2:Int)^63≤Builtin.Tuple.tupleHashOf (khs P w ds))&&decide (Builtin.Tuple.tupleHashOf (khs P w ds)<2^63))=true
   ·rw [if_pos hr]
    rw [if_pos hr] at h
    exact wpAny_pure (by simpa [Nat.add_assoc] using h)
   ·rw [if_neg hr]
    rw [if_neg hr] at h
    exact wpAny_bind (wpAny_rule (wpAny_pure (by simpa [Nat.add_assoc] using h)))
theorem Ug:∀ (n:Nat) {A:Around} {E:Value→Shared→Prop} {s:Shared} {v:Value} {d:PyData} {Q:Bool→Shared→Prop},RK s.heap v d→d.depth≤n→Q true s→wpAny (model P w) A (eqIsQuiet n v) Q E s
 | n,A,E,s,_,_,Q,.int i t,_,h=>by rw [eqIsQuiet_byValue _ (by rfl)];exact wpAny_pure h
 | n,A,E,s,_,_,Q,.str x t _,_,h=>by rw [eqIsQuiet_byValue _ (by rfl)];exact wpAny_pure h
 | 0,A,E,s,_,_,Q,.tup _ _ _ _,hd,h=>by simp [PyData.depth] at hd
 | n+1,A,E,s,_,_,Q,.tup (a:=a) (ds:=ds) h1 h2 h3 ks,hd,h=>by
  have hT:=Ve h1 h2
  have hdd:PyData.depthAll ds≤n:=by simp only [PyData.depth] at hd;omega
  unfold eqIsQuiet
  refine wpAny_bind (wpAny_specialOf hT F.slot_tuple_eq.lookup ?_)
  refine wpAny_bind (wpAny_isInstance hT isSubtype_tuple_tuple ?_)
  simp only [Bool.not_true,Bool.false_eq_true,if_false]
  refine wpAny_bind (wpAny_seqItems h1 h3 ?_)
  refine wpAny_bind ?_
  rw [Option.getD_some,← Array.forIn_toList]
  refine wpAny_forIn_list _ (fun YD r s'=>r.1=none∧s'=s∧∃ left,RKs s.heap YD left∧PyData.depthAll left≤n) _ ?_ ?_ _ _ ⟨rfl,rfl,ds,ks,hdd⟩
  ·rintro v YD r s' ⟨hr,rfl,left,hl,hdl⟩
   cases hl with
   | @cons _ d _ ds' hk hl' =>
    simp only [PyData.depthAll] at hdl
    refine wpAny_bind (Ug n hk (by omega) ?_)
    simp only [Bool.not_true,Bool.false_eq_true,if_false]
    exact wpAny_pure ⟨rfl,rfl,ds',hl',by omega⟩
  ·rintro ⟨r1,r2⟩ s' ⟨hr,rfl,_⟩
   simp only at hr
   subst hr
   exact wpAny_pure h
noncomputable def deepKind (P:Program) (w:World):HeapKind P w PyData where
 is:=fun h d a=>RK h (.ref a) d∧d.depth≤8
 hash:=kh P w
 draws:=kdr
 room:=fun A=>A.units+8<cLine
 inj:=fun hx hy=>hx.1.inj hy.1
 keeps:=fun x ho hd hs=>⟨x.1.keeps ho hd hs,x.2⟩
 pyHash:=fun hu hk h=>UZ 8 hk.1 hk.2 hu h
 eqBool:=fun {A E s x y a b Q} hu hx hy h=>by
  obtain ⟨⟨as,r1⟩,l1⟩:=hx.1.reads
  obtain ⟨⟨bs,r2⟩,l2⟩:=hy.1.reads
  have hm:min x.depth y.depth≤8:=Nat.le_trans (Nat.min_le_left _ _) hx.2
  exact SeqAt.eqAt_reads x y A s _ _ _ _ r1 r2 l1 l2 (by omega) P w E Q (by rw [KO.eqv hx.1.ko hy.1.ko];exact h)
 quiet:=fun hk h=>Ug 8 hk.1 hk.2 h
end
abbrev Dx:=List (PyData×Addr×Addr)
def dconv (x:PyData×Addr×Addr):PyData×Addr×Value:=(x.1,x.2.1,.ref x.2.2)
noncomputable def DDi (P:Program) (w:World) (a:Addr) (xs:Dx):HO := .ext fun h=>(a==sysModules)=false∧∃ o es ep,h.get? a=some o∧o.ExactDict∧o.data = .dict es ep∧es.toList=(xs.map dconv).map (entryOfKey (deepKind P w))
structure DK (K:PySem.W.Frag) (H:Hp) (b:Addr) (d:PyData):Prop where
 den:Den K H (.ref b) d
 ko:KO d
 dp:d.depth≤8
theorem DK.keep {K:PySem.W.Frag} {H H':Hp} {b:Addr} {d:PyData} (h:DK K H b d) (s:Yj H H'):DK K H' b d:=⟨h.den.keep s,h.ko,h.dp⟩
noncomputable def lookD (xs:Dx) (d:PyData):Option Addr:=(xs.find? fun x=>decide (x.1=d)).map (·.2.2)
structure DictD (P:Program) (w:World) (K:PySem.W.Frag) (H:Hp) (a:Addr) (xs:Dx):Prop where
 at_:H a=some (DDi P w a xs)
 nd:(xs.map (·.1)).Nodup
 len:xs.length≤1000
 keys:∀ x∈xs,DK K H x.2.1 x.1
section
variable {X:Cx} {pins:List (Addr×Obj)} {σ:St} {H:Hp} {s:Shared} {a b:Addr} {d:PyData} {xs:Dx} {u r:Value} {A:Around} {E:Value→Shared→Prop}
end
section
variable {X:Cx} {o i e value:Expr} {pos pos' tpos:Pos} {td ty tv:TE} {k:Nat}
end
def Wm (H H':Hp):Prop:=∀ b xs,Rd H b (.tup xs)→Rd H' b (.tup xs)
theorem Wm.sq {K:PySem.W.Frag} {H H':Hp} (t:Wm H H') {b:Addr} {xs:List V} (h:SqT K H b xs):SqT K H' b xs:=by
 rcases h with h | h
 ·exact .inl (t _ _ h)
 ·exact .inr h
theorem Wm.trans {H H1 H2:Hp} (a:Wm H H1) (b:Wm H1 H2):Wm H H2:=fun c xs e=>b c xs (a c xs e)
theorem YaO {K:PySem.W.Frag} {H H':Hp} (t:Wm H H') {d:PyData} {v:V} (k:KO d) (r:Den K H v d):Den K H' v d:=by
 induction k using KO.rec (motive_2:=fun ds _=>∀ {vs:List V},Dens K H vs ds→Dens K H' vs ds) generalizing v with
 | int i=>cases r with | int _=>exact .int i
 | str x=>cases r with | str _ h=>exact .str x h
 | tup _ ih=>cases r with | tup h hs=>exact .tup (t.sq h) (ih hs)
 | nil=>rename_i r;cases r;exact .nil
 | cons _ _ ih ihs=>rename_i r;cases r with | cons a b=>exact .cons (ih a) (ihs b)
theorem DK.tupk {K:PySem.W.Frag} {H H':Hp} {b:Addr} {d:PyData} (h:DK K H b d) (t:Wm H H'):DK K H' b d:=⟨YaO t h.ko h.den,h.ko,h.dp⟩
theorem DictD.keep {P:Program} {w:World} {K:PySem.W.Frag} {H H':Hp} {a:Addr} {xs:Dx} (h:DictD P w K H a xs) (t:Wm H H') (e:H' a=some (DDi P w a xs)):DictD P w K H' a xs:=⟨e,h.nd,h.len,fun x hx=>(h.keys x hx).tupk t⟩
section
variable {X:Cx} {k:Nat}
end
section
variable {X:Cx} {e:Expr} {f:Str} {pos:Pos} {ta:TE}
end
end L2
namespace L2
open PySem PySem.Spec PyProof.Rows
end L2
namespace L2
open PySem PySem.Spec PyProof.Rows
end L2
namespace L2
open PySem PySem.Spec PyProof.Rows
section
variable {M:Model} {A:Around} {E:Value→Shared→Prop} {s:Shared}
end
section
variable {X:Cx}
end
section
variable {X:Cx}
end
end L2
namespace L2
open PySem PySem.Spec PyProof.Rows
section
variable {M:Model} {A:Around} {E:Value→Shared→Prop} {s:Shared} {B:Heap} {env:Env} {outer l:List Env} {e L:Addr} {cls a0:Value} {Q:Unit→Shared→Prop}
end
section
variable {X:Cx} {pins:List (Addr×Obj)} {σ:St} {H H':Hp} {s s1 s':Shared} {B:Heap} {e C:Addr} {cls a0:Value} {M:Model} {A:Around} {Q:Unit→Shared→Prop} {EE:Value→Shared→Prop}
end
section
variable {prog:Program} {w:World} {A:Around} {R:Result→Shared→Prop} {s:Shared}
end
section
variable {X:Cx}
end
end L2
namespace L2
open PySem PySem.Spec PyProof.Rows
section
variable {prog:Program} {w:World} {A:Around} {E:Value→Shared→Prop} {s:Shared}
end
section
variable {X:Cx}
end
end L2
namespace L2
open PySem PySem.Spec PyProof.Rows
open Sem (wp)
section
variable {prog:Program} {w:World} {A:Around} {R:Result→Shared→Prop} {I:Addr} {fp wr:List Addr} {n:Nat} {P:Nat→Value→Prop} {St:Nat→Heap→Prop}
end
section
variable {prog:Program} {w:World} {A:Around} {E:Value→Shared→Prop} {s:Shared} {l:Addr} {xs:Array (Int×Tok)}
end
section
variable {X:Cx}
end
section
variable {X:Cx}
end
end L2
namespace L2
open PySem PySem.Spec PyProof.Rows PySem.Builtin.Str
section
variable {X:Cx}
end
end L2
namespace L2
open PySem PySem.Spec PyProof.Rows
section
variable {X:Cx}
end
end L2
namespace PySem.W
open PySem PyProof.Rows
open Builtin Builtin.ObjectAttr
section
variable {prog:Program} {w:World} {A:Around} {E:Value→Shared→Prop} {hh:Heap} {g:Array GenState} {d:Drawn} {t:Nat} {os:OsState} {K:Frag} {x C D:Addr} {ox:Obj} {mA:Str→Option Value} {f:Str} {v:Value}
theorem UG {tk:Tok} {Q:Fin→Shared→Prop} (In:K.In hh) (hd:hasDictIn K C=true) (hx:hh.get? x=some ox) (hc:ox.cls = .ref C) (hnc:∀ c,ox.data ≠ .cls c) (hdc:ox.dict=some D) (hns:hh.Ns D mA) (hv:mA f=some v) (ha:findIn K (.ref C) f=some none)
  (hq:Q (.done (.ret v)) ⟨hh,g,d,t,os⟩):wpAny (model prog w) A (Builtin.«object.__getattribute__» ⟨[.ref x,.str f tk],[]⟩) Q E ⟨hh,g,d,t,os⟩:=by
 have L3:=looks_findIn (M:=model prog w) In ha
 unfold Builtin.«object.__getattribute__»
 repeat (any_goals (first | assumption | (with_reducible refine wpAny_loadPart_at hx ?_;rw [hc]) | with_reducible refine L3.at ?_ | wp_step))
 obtain ⟨cd,e,hcd⟩:=any_some hd
 have L4:=looks_clsIn (M:=model prog w) In e
 split
 ·rename_i c hcd2
  exact absurd hcd2 (hnc c)
 unfold instanceDict
 repeat (any_goals (first | assumption | (with_reducible refine wpAny_loadPart_at hx ?_;simp only [hc]) | with_reducible refine L4.at ?_ | wp_step))
 rw [hdc]
 repeat (any_goals (first | assumption | (with_reducible refine wpAny_nsGet hns ?_;rw [hv]) | wp_step))
theorem QC {tk:Tok} {R:Result→Shared→Prop} (In:K.In hh) (hd:hasDictIn K C=true) (hx:hh.get? x=some ox) (hc:ox.cls = .ref C) (hnc:∀ c,ox.data ≠ .cls c) (hdc:ox.dict=some D) (hns:hh.Ns D mA) (hv:mA f=some v) (hb:mroIn K C (.type "BaseException")=some true) (ha:findIn K (.ref C) f=some none)
  (hq:R (.ok (.ret v)) ⟨hh,g,d,t,os⟩):codeAny (model prog w) A (.call (.builtin "BaseException.__getattribute__") ⟨[.ref x,.str f tk],[]⟩) R ⟨hh,g,d,t,os⟩ :=
 codeAny_call_builtin (by decide +kernel) F.entry_bexc_ga (WW In hx hc hb (UG In hd hx hc hnc hdc hns hv ha hq))
theorem exatt_attr {b:Bool} {Q:Value→Shared→Prop} (In:K.In hh) (hd:hasDictIn K C=true) (hx:hh.get? x=some ox) (hc:ox.cls = .ref C) (hnc:∀ c,ox.data ≠ .cls c) (hdc:ox.dict=some D) (hns:hh.Ns D mA) (hv:mA f=some v) (hh':handedOut v=pure v) (hb:mroIn K C (.type "BaseException")=some true) (ha:findIn K (.ref C) f=some none)
  (hga:findIn K (.ref C) "__getattribute__"=some (some (.builtin "BaseException.__getattribute__"))) (hgt:findIn K (.ref C) "__getattr__"=some none) (hq:Q v ⟨hh,g,d,t+1,os⟩) :
  wpAny (model prog w) A (getAttr (.ref x) f b) Q E ⟨hh,g,d,t,os⟩:=by
 have hbd:=VD (.ref x)
 have e2:(Value.builtin "BaseException.__getattribute__"==Value.builtin "object.__getattribute__")=false:=by decide +kernel
 have e1:(onTheHeap (Value.ref C)&&Value.builtin "BaseException.__getattribute__"==Value.builtin "object.__getattribute__")=false:=by rw [e2];rfl
 have L1:=looks_findIn (M:=model prog w) In hga
 have L2:=looks_findIn (M:=model prog w) In hgt
 unfold getAttr getAttrBy
 repeat (any_goals (first | assumption | (with_reducible refine wpAny_loadPart_at hx ?_;rw [hc]) | with_reducible refine L1.at ?_ | with_reducible refine L2.at ?_ | wp_step))
 have e0:(b&&onTheHeap (Value.builtin "BaseException.__getattribute__"))=false:=by cases b<;>rfl
 rw [if_neg (by rw [e0];decide)]
 unfold boundAndCalled
 repeat (any_goals (first | assumption | wp_step))
 refine QC In hd hx hc hnc hdc hns hv hb ha ?_
 repeat (any_goals (first | assumption | wp_step))
end
section
variable {prog:Program} {w:World} {A:Around} {E:Value→Shared→Prop} {s:Shared} {K:Frag} {x C C' D:Addr} {ox:Obj} {od:Option Obj} {mA:Str→Option Value} {name:Str} {v:Value} {R:Result→Shared→Prop}
def excLine (K:Frag) (C C':Addr):Bool:=(clsIn K C).any fun cd=>cd.mro==[.ref C,.ref C',.type "ValueError",.type "Exception",.type "BaseException",.type "object"]
theorem Vf {tk:Tok} (X:K.In s.heap) (I:InstAt s.heap x ox C od) (hm:excLine K C C'=true) (ha:findIn K (.ref C) name=some none)
  (h:wpAny (model prog w) A.in1 (storeInOwnDict (.ref x) (.ref C) (.str name tk) name v false)
   (fun fin s'=>match fin with | .done f=>R (.ok f) s' | .again c'=>c'.quiet=true∧codeAny (model prog w) A c' R s') (fun e s'=>R (.error e) s') s) :
  codeAny (model prog w) A (.call (.builtin "object.__setattr__") ⟨[.ref x,.str name tk,v],[]⟩) R s:=by
 have SF:=PySem.F.store_object
 obtain ⟨cd,hc,ho⟩:=any_some hm
 have ho:=eq_of_beq ho
 have sub:Looks (model prog w) s.heap (isInstance (.ref x) (.type "object")) true:=I.type.andThen (looks_mroIn X (by unfold mroIn;rw [hc,Option.bind_some,ho];rfl))
 refine codeAny_call_builtin SF.slot.plain SF.entry (@check_slot (model prog w) _ _ s "object.__setattr__" "object" "__setattr__" (.ref x) [.str name tk,v] [] _ SF.kind SF.split sub (SF.args (.ref x) (.str name tk) v) ?_)
 have hmro:Looks (model prog w) s.heap (mroOf (.ref C)) cd.mro:=(looks_clsIn X hc).andThen .now
 rw [osa_eq,refuse_eq]
 refine wpAny_bind (wpAny_bind (I.type.here (wpAny_bind (hmro.here ?_))))
 rw [ho,refuseLoop_ref,refuseLoop_ref,PySem.F.store_ValueError.passes]
 refine wpAny_pure (wpAny_bind (I.type.here (wpAny_bind ((looks_findIn X ha).here (wpAny_bind (wpAny_pure ?_))))))
 exact h
end
section
variable {prog:Program} {w:World} {A:Around} {E:Value→Shared→Prop} {s:Shared} {K:Frag} {x C C' D:Addr} {ox:Obj} {od:Option Obj} {mA:Str→Option Value} {name:Str} {v:Value} {vs:Array Value} {Q:Unit→Shared→Prop}
theorem Uh (hf:ox.data = .fields vs):notCls ox=true:=by unfold notCls;rw [hf]
theorem exset_more {ns:List Str} (X:K.In s.heap) (hx:s.heap.get? x=some ox) (hc:ox.cls = .ref C) (hf:ox.data = .fields vs) (hdc:ox.dict=some D) (hn:s.heap.Ns1 D mA) (hne:D≠x) (hd:hasDictIn K C=true) (hm:excLine K C C'=true) (ha:findIn K (.ref C) name=some none)
  (hs:findIn K (.ref C) "__setattr__"=some (some (.builtin "object.__setattr__"))) (hw:PySem.Within mA ns) (hsz:ns.length≤sizeLine)
  (h:∀ h',h'.Ns1 D (fun y=>if y=name then some v else mA y)→Heap.SameBut D s.heap h'→Q () { s with heap:=h',toks:=s.toks+2 }):wpAny (model prog w) A (setAttr (.ref x) name v) Q E s:=by
 obtain ⟨oD,_,_,hoD0,_⟩:=id hn
 have J:InstAt s.heap x ox C (some oD):=⟨hx,hc,Uh hf,by rw [hdc];exact hoD0⟩
 refine set_plain X J hs (Vf (s:={ s with toks:=s.toks+1 }) (C':=C') X J hm ha ?_)
 obtain ⟨cd,hcd,hd'⟩:=any_some hd
 refine wpAny_bind (wpAny_pure (wpAny_bind (wpAny_bind (wpAny_loadPart hx ?_))))
 simp only [hc]
 refine wpAny_bind (Looks.here (s:={ s with toks:=s.toks+1 }) (looks_clsIn X hcd) ?_)
 rw [hd',hdc]
 refine wpAny_pure (a:=some D) (wpAny_bind (wpAny_pure (wpAny_bind ?_)))
 refine wpAny_nsSet1 (s:={ s with toks:=s.toks+1 }) hn fun h' hn2 hs2=>?_
 obtain ⟨oD,esD,epD,hoD,hdD,hcD⟩:=hn2.count (PySem.Within.cons name v hw)
 refine wpAny_bind (wpAny_lookBehind hoD (by rw [hdD];exact pastItsLine_dict (Nat.le_trans hcD (by rw [List.length_cons];omega))) ?_)
 exact wpAny_pure (h _ hn2 hs2)
theorem exset_new (X:K.In s.heap) (hx:s.heap.get? x=some ox) (hc:ox.cls = .ref C) (hf:ox.data = .fields vs) (hdc:ox.dict=none) (hd:hasDictIn K C=true) (hm:excLine K C C'=true) (ha:findIn K (.ref C) name=some none)
  (hs:findIn K (.ref C) "__setattr__"=some (some (.builtin "object.__setattr__")))
  (h:∀ h',h'.Ns1 s.heap.objs.size (fun y=>if y=name then some v else none)→h'.get? x=some { ox with dict:=some s.heap.objs.size }→(∀ b o,b≠x→s.heap.get? b=some o→h'.get? b=some o)→Q () { s with heap:=h',toks:=s.toks+2 }):wpAny (model prog w) A (setAttr (.ref x) name v) Q E s:=by
 have J:InstAt s.heap x ox C none:=⟨hx,hc,Uh hf,by rw [hdc];exact True.intro⟩
 refine set_plain X J hs (Vf (s:={ s with toks:=s.toks+1 }) (C':=C') X J hm ha ?_)
 obtain ⟨cd,hcd,hd'⟩:=any_some hd
 refine wpAny_bind (wpAny_pure (wpAny_bind (wpAny_bind (wpAny_loadPart hx ?_))))
 simp only [hc]
 refine wpAny_bind (Looks.here (s:={ s with toks:=s.toks+1 }) (looks_clsIn X hcd) ?_)
 rw [hd',hdc,hf]
 rw [if_neg (by decide)]
 dsimp only
 rw [if_neg (by simp [typeHasDict])]
 have hx₁:(s.heap.push { cls := .type "dict",data := .dict #[] }).get? x=some ox:=Heap.get?_push_of_some _ hx
 have hxs:x≠s.heap.objs.size:=Nat.ne_of_lt (Heap.lt_size hx)
 refine wpAny_bind (wpAny_alloc' (wpAny_bind (wpAny_update' hx₁ (wpAny_pure ?_))))
 generalize hH:(s.heap.push { cls := .type "dict",data := .dict #[] }).update x (fun o=>{ cls:=o.cls,dict:=some s.heap.objs.size,data:=o.data,slots:=o.slots })=H2
 have hgd:H2.get? s.heap.objs.size=some { cls := .type "dict",data := .dict #[] }:=by
  rw [← hH]
  exact (Heap.get?_update_ne _ _ _ _ hxs.symm).trans (Heap.get?_push_at rfl rfl)
 have hx2:H2.get? x=some { cls:=ox.cls,dict:=some s.heap.objs.size,data:=ox.data,slots:=ox.slots }:=by
  rw [← hH]
  refine Heap.get?_update_self _ hx₁ ?_
  have hfr:=(Heap.get?_some_iff.mp hx).2
  obtain ⟨oc,od,odt,osl⟩:=ox
  cases odt<;>first | rfl | exact hfr
 have hko:∀ b o,b≠x→s.heap.get? b=some o→H2.get? b=some o:=fun b o hb e=>by
  rw [← hH]
  exact (Heap.get?_update_ne _ _ _ _ hb).trans (Heap.get?_push_of_some _ e)
 have hnd:H2.Ns s.heap.objs.size (fun _=>none):=⟨_,#[],_,hgd,rfl,fun e he=>absurd he (by simp),fun _=>rfl⟩
 refine wpAny_bind (wpAny_pure (wpAny_bind ?_))
 refine wpAny_nsSet1 (s:={ s with heap:=H2,toks:=s.toks+1 }) (Heap.Ns1.of_empty hnd) fun h' hn2 hs2=>?_
 obtain ⟨oD,esD,epD,hoD,hdD,hcD⟩:=hn2.count (PySem.Within.cons name v PySem.Within.nil)
 refine wpAny_bind (wpAny_lookBehind hoD (by rw [hdD];exact pastItsLine_dict (Nat.le_trans hcD (by rw [List.length_cons,List.length_nil,sizeLine_eq];omega))) ?_)
 exact wpAny_pure (h _ hn2 ((hs2.2 x hxs).trans hx2) fun b o hb e=>(hs2.2 b (Nat.ne_of_lt (Heap.lt_size e))).trans (hko b o hb e))
end
end PySem.W
namespace PySem.W
open PySem PyProof.Rows
theorem QD {K:Frag} {h:Heap} {N:Addr} {mg:Str→Option Value} {n:Str} {v:Value} (X:K.In h) (G:h.Ns N mg) (e:nsIn K N n=some (some v)):mg n=some v:=by
 obtain ⟨o,es,ep,ho,hd,_,hf⟩:=G
 unfold nsIn at e
 split at e
 ·rename_i c d es' n' sl q
  have:=X _ _ q
  rw [ho] at this
  cases this
  cases hd
  split at e
  ·rename_i he
   rw [← hf]
   unfold nsFind findBy
   rw [← Array.find?_toList,he]
   cases e
   rfl
  ·split at e<;>cases e
 ·cases e
def excOwn (K:Frag) (C:Addr) (tl:List Value) (nw:String) (f:Addr):Bool:=match K.lookup C with
 | some ⟨.type "type",_,.cls cd,sl⟩=>(match cd.mro,sl.toList with
  | .ref c::bm,[_,_,_,_,some (.builtin n),_]=>(c==C&&n==nw)&&((!cd.hasDel&&tailIn K tl bm)&&(nsOkIn K cd.ns&&nsIn K cd.ns "__init__"==some (some (.ref f))))
  | _,_=>false)
 | _=>false
theorem excOwn_obj {K:Frag} {h:Heap} {C f:Addr} {tl:List Value} {nw:String} (In:K.In h) (q:excOwn K C tl nw f=true) :
  ∃ (bm:List Value) (ns:Addr) (nm qn:Str) (bs:List Value) (hd:Bool) (sn:List Str) (sub:List Value) (ab:Bool) (col:Option Bool) (dd:Option Addr) (k0 k1 k2 k3 k5:Option Value) (mN:Str→Option Value),
   h.get? C=some (excClassObj nm qn C ns bs bm hd sn sub ab col dd k0 k1 k2 k3 k5 nw)∧h.Ns ns mN∧mN "__init__"=some (.ref f)∧OwnTail h tl bm:=by
 unfold excOwn at q
 split at q
 case h_2=>exact absurd q (by decide)
 case h_1 dd cd sl lk =>
  split at q
  case h_2=>exact absurd q (by decide)
  case h_1 c2 bm k0 k1 k2 k3 n k5 em es =>
   simp only [beq_iff_eq,Bool.and_eq_true,Bool.not_eq_true'] at q
   obtain ⟨⟨q1,q2⟩,⟨q3,q4⟩,q5,q6⟩:=q
   obtain ⟨nm,bs,mro,ns,qn,hd,sn,sub,ab,col,del⟩:=cd
   obtain ⟨lst⟩:=sl
   dsimp only at em q3 q5 q6 es
   subst q1 q2 em q3 es
   have hN:h.Ns ns _ := .of_isNs (isNs_of_in In q5)
   exact ⟨bm,ns,nm,qn,bs,hd,sn,sub,ab,col,dd,k0,k1,k2,k3,k5,_,In _ _ lk,hN,QD In hN q6,tail_of_in In q4⟩
abbrev X2 (a0:Value):Array Value:=#[a0,.none,.none,.none,.bool false,.none]
section
variable {prog:Program} {w:World} {A:Around} {E:Value→Shared→Prop} {h:Heap} {g:Array GenState} {d:Drawn} {t:Nat} {os:OsState}
variable {nm q:Str} {C N:Addr} {bs bm bmB:List Value} {hdct:Bool} {sn:List Str} {sub:List Value} {ab:Bool} {col:Option Bool} {dd:Option Addr} {k0 k1 k2 k3 k5:Option Value} {B newId initId:String}
theorem VM (F:ExcBaseFacts B newId initId bmB) (T:OwnTail h bmB bm) {mN:Str→Option Value} {YD:List Value} {fI:Addr} {oI:Obj} {Q:Fin→Shared→Prop}
  (hC:h.get? C=some (excClassObj nm q C N bs bm hdct sn sub ab col dd k0 k1 k2 k3 k5 newId)) (hn:h.Ns N mN) (hi:mN "__init__"=some (.ref fI))
  (hfI:h.get? fI=some oI) (hfc:oI.cls = .type "function")
  (hq:∀ h' e,Heap.MadeExcOf h h' e (.ref C) YD→e=h.objs.size+1 →
   wpAny (model prog w) A (call (.ref fI) (.ref e::YD)) (fun r s'=>r = .none∧Q (.done (.ret (.ref e))) s') E ⟨h',g,d,t,os⟩) (hrest:YD.length≤sizeLine) :
  wpAny (model prog w) A (Builtin.«type.__call__» ⟨.ref C::YD,[]⟩) Q E ⟨h,g,d,t,os⟩:=by
 repeat (first | with_reducible refine wpAny_loadPart_at hC ?_ | with_reducible refine wpAny_madeBy_exc hC ?_ | wp_step)
 refine codeAny_call_builtin_code (Code.quiet_builtin _ F.quiet) (wpAny_check_new_subT F T hC ?_)
 refine codeAny_exc_new_subT F T hC ?_ hrest
 show wpAny _ _ _ _ _ _
 have keep:∀ b o,h.get? b=some o→((h.push { cls := .type "tuple",data := .seq YD.toArray }).push { cls := .ref C,data := .fields #[.ref h.objs.size,.none,.none,.none,.bool false,.none] }).get? b=some o :=
  fun b o e=>Heap.get?_push_of_some _ (Heap.get?_push_of_some _ e)
 have hget:((h.push { cls := .type "tuple",data := .seq YD.toArray }).push
   { cls := .ref C,data := .fields #[.ref h.objs.size,.none,.none,.none,.bool false,.none] }).get? (h.objs.size+1)=some
   { cls := .ref C,data := .fields #[.ref h.objs.size,.none,.none,.none,.bool false,.none] }:=by heap_get
 have hC₁:=keep _ _ hC
 have hn₁:=hn.keeps keep
 have hcC:(Value.ref C::bm).contains (.ref C)=true:=by simp
 have T₁:=T.keeps keep
 unfold isInstance
 repeat (first | with_reducible refine wpAny_loadPart_at hget ?_ | (with_reducible refine wpAny_isSubtype_exc hC₁ ?_;rw [hcC]) | wp_step)
 show wpAny _ _ (typeLookup (.ref C) _) _ _ _
 refine wpAny_typeLookup_tail hC₁ hn₁ T₁ F.mroIs F.init.lookup ?_
 rw [hi]
 refine wpAny_holding (wpAny_bind ?_)
 unfold bindSpecial
 refine wpAny_bind (wpAny_typeOf (T:="function") ⟨_,keep _ _ hfI,hfc⟩ ?_)
 rw [if_pos (by decide)]
 refine wpAny_pure (wpAny_bind (wpAny_mono (hq _ (h.objs.size+1) ⟨keep,Heap.get?_none_of_le (Nat.le_succ _),h.objs.size,hget,Heap.get?_none_of_le (Nat.le_refl _),?_⟩ rfl) (fun r s' hr=>?_) fun _ _ x=>x))
 ·exact Heap.get?_push_of_some _ (Heap.get?_push_at rfl rfl)
 ·obtain ⟨rfl,hQ⟩:=hr
  wp_walk
  exact hQ
theorem exc_make_call (F:ExcBaseFacts B newId initId bmB) (T:OwnTail h bmB bm) {mN:Str→Option Value} {YD:List Value} {fI:Addr} {oI:Obj} {Q:Value→Shared→Prop}
  (hC:h.get? C=some (excClassObj nm q C N bs bm hdct sn sub ab col dd k0 k1 k2 k3 k5 newId)) (hn:h.Ns N mN) (hi:mN "__init__"=some (.ref fI))
  (hfI:h.get? fI=some oI) (hfc:oI.cls = .type "function")
  (hq:∀ h' e,Heap.MadeExcOf h h' e (.ref C) YD→e=h.objs.size+1 →
   wpAny (model prog w) (A.under (.builtin "type.__call__" ⟨.ref C::YD,[]⟩)) (call (.ref fI) (.ref e::YD)) (fun r s'=>r = .none∧Q (.ref e) s') E ⟨h',g,d,t,os⟩) (hrest:YD.length≤sizeLine) :
  wpAny (model prog w) A (call (.ref C) YD) Q E ⟨h,g,d,t,os⟩:=by
 have f1:=tc_lookup
 have f2:=tc_bind (.ref C)
 have hT:(⟨h,g,d,t,os⟩:Shared).TypeIs (.ref C) "type":=⟨_,hC,rfl⟩
 refine wpAny_call (codeAny_of_tree ?_)
 show wpAny _ _ (callAny (.ref C) _) _ _ _
 repeat (any_goals (first | assumption | with_reducible refine wpAny_loadPart_at hC ?_ | wp_step))
 refine ⟨rfl,?_⟩
 exact codeAny_call_builtin_at (Code.quiet_builtin _ (by decide +kernel)) entry_typeCall (wpAny_check_type_call_sub hC (VM F T hC hn hi hfI hfc (fun h' e hm he=>hq h' e hm he) hrest))
theorem exc_base_init (F:ExcBaseFacts B newId initId bmB) (T:OwnTail h bmB bm) {e:Addr} {dc:Option Addr} {sl:Array (Option Value)} {t0:Addr} {m:Value} {Q:Value→Shared→Prop}
  (hC:h.get? C=some (excClassObj nm q C N bs bm hdct sn sub ab col dd k0 k1 k2 k3 k5 newId)) (he:h.get? e=some ⟨.ref C,dc,.fields (X2 (.ref t0)),sl⟩)
  (hq:∀ h' T,h'.get? e=some ⟨.ref C,dc,.fields (X2 (.ref T)),sl⟩→(∀ b o,b≠e→h.get? b=some o→h'.get? b=some o)→Q .none ⟨h',g,d,t,os⟩) :
  wpAny (model prog w) A (call (.builtin initId) [.ref e,m]) Q E ⟨h,g,d,t,os⟩:=by
 refine wpAny_call (codeAny_call_builtin F.init.plain F.initEntry (wpAny_check_init_subT F T hC he rfl ?_))
 have he1:(h.push { cls := .type "tuple",data := .seq [m].toArray }).get? e=some ⟨.ref C,dc,.fields (X2 (.ref t0)),sl⟩:=Heap.get?_push_of_some _ he
 wp_walk
 refine hq _ h.objs.size ((Heap.get?_update_self _ he1 rfl).trans rfl) fun b o hb eb=>?_
 exact (Heap.get?_update_other _ _ (Ne.symm hb)).trans (Heap.get?_push_of_some _ eb)
end
section
variable {M:Model} {A:Around} {E:Value→Shared→Prop} {env:Env}
variable {nm q:Str} {C N:Addr} {bs bm bmB:List Value} {hdct:Bool} {sn:List Str} {sub:List Value} {ab:Bool} {col:Option Bool} {dd:Option Addr} {k0 k1 k2 k3 k5:Option Value} {B newId initId:String}
theorem Wd {s:Shared} {x:Sem Value} {Q:Flow→Shared→Prop} (hbase:bm.contains (.type "BaseException")=true) (hh:A.handled=none)
  (h:wpAny M A x (fun v s₁=>∃ e dc t0 sl,v = .ref e∧s₁.heap.get? C=some (excClassObj nm q C N bs bm hdct sn sub ab col dd k0 k1 k2 k3 k5 newId)∧s₁.heap.get? e=some ⟨.ref C,dc,.fields (X2 (.ref t0)),sl⟩∧E (.ref e) s₁) E s) :
  wpAny M A (raiseStmt env (some x) none) Q E s:=by
 have hcB:(Value.ref C::bm).contains (.type "BaseException")=true:=by rw [List.contains_cons,hbase,Bool.or_true]
 unfold raiseStmt
 refine wpAny_bind (wpAny_mono h (fun v s₁ h₁=>?_) fun _ _ x=>x)
 obtain ⟨e,dc,t0,sl,rfl,hC,he,hE⟩:=h₁
 obtain ⟨hp,g,d,tk,os⟩:=s₁
 repeat (first | with_reducible refine wpAny_loadPart_at he ?_ | with_reducible refine wpAny_loadPart_at hC ?_ | (with_reducible refine wpAny_isSubtype_exc hC ?_;rw [hcB]) | wp_step)
 exact wpAny_raiseNew_none hh hE
end
section
variable {prog:Program} {w:World} {A:Around} {E:Value→Shared→Prop} {s:Shared} {env:Env}
variable {nm q:Str} {C N:Addr} {bs bm bmB:List Value} {hdct:Bool} {sn:List Str} {sub:List Value} {ab:Bool} {col:Option Bool} {dd:Option Addr} {k0 k1 k2 k3 k5:Option Value} {B newId initId:String}
theorem exc_raise_call {x:Str} {np cpos pos:Pos} {args:List Expr} {Q:Flow→Shared→Prop}
  (hbase:bm.contains (.type "BaseException")=true) (hh:A.handled=none) (hplain:(backTo cpos (starEach args env)).any (·.1)=false)
  (h:wpAny (model prog w) A (eval (.Name x np) env) (fun f s₁=>f = .ref C∧wpAny (model prog w) A (evalArgs (.ref C) true (backTo cpos (starEach args env)) [])
   (fun a s₂=>a.kw=[]∧s₂.heap.get? C=some (excClassObj nm q C N bs bm hdct sn sub ab col dd k0 k1 k2 k3 k5 newId) ∧
    wpAny (model prog w) A (call (.ref C) a.pos) (fun v s₃=>∃ e dc t0 sl,v = .ref e∧s₃.heap.get? C=some (excClassObj nm q C N bs bm hdct sn sub ab col dd k0 k1 k2 k3 k5 newId)∧s₃.heap.get? e=some ⟨.ref C,dc,.fields (X2 (.ref t0)),sl⟩∧E (.ref e) s₃) E s₂) E s₁) E s) :
  wpAny (model prog w) A (exec (.Raise (some (.Call (.Name x np) args [] cpos)) none pos) env) Q E s:=by
 rw [arm_exec_Raise]
 first
  | refine wpAny_bind (wpAny_standAt (Wd (C:=C) (nm:=nm) (q:=q) (N:=N) (bs:=bs) (bm:=bm) (hdct:=hdct) (sn:=sn) (sub:=sub) (ab:=ab) (col:=col) (dd:=dd) (k0:=k0) (k1:=k1) (k2:=k2) (k3:=k3) (k5:=k5) (newId:=newId) hbase hh (wpAny_bind (wpAny_mono (wpAny_Call_ofName (wpAny_mono h (fun f s₁ h₁=>?_) fun _ _ x=>x)) (fun v s₃ h₃=>wpAny_bind (wpAny_standAt (wpAny_pure h₃))) fun _ _ x=>x))))
  | (refine wpAny_bind (wpAny_standAt (Wd (C:=C) (nm:=nm) (q:=q) (N:=N) (bs:=bs) (bm:=bm) (hdct:=hdct) (sn:=sn) (sub:=sub) (ab:=ab) (col:=col) (dd:=dd) (k0:=k0) (k1:=k1) (k2:=k2) (k3:=k3) (k5:=k5) (newId:=newId) hbase hh ?_));refine wpAny_bind (wpAny_mono (wpAny_Call_ofName (wpAny_mono h (fun f s₁ h₁=>?_) fun _ _ x=>x)) (fun v s₃ h₃=>wpAny_bind (wpAny_standAt (wpAny_pure h₃))) fun _ _ x=>x))
 obtain ⟨rfl,h₁⟩:=h₁
 unfold callWith
 refine wpAny_bind (wpAny_holding (wpAny_mono h₁ (fun a s₂ h₂=>wpAny_bind (wpAny_standAt ?_)) fun _ _ x=>x))
 obtain ⟨apos,akw⟩:=a
 obtain ⟨hkw,hC,h₂⟩:=h₂
 obtain rfl:akw=[]:=hkw
 obtain ⟨hp,g,d,tk,os⟩:=s₂
 simp only [hplain]
 refine wpAny_bind (wpAny_keeperOf_exc hC ?_)
 exact wpAny_bind (wpAny_mono h₂ (fun v s₃ h₃=>wpAny_bind (wpAny_holding (wpAny_point (wpAny_pure h₃)))) fun _ _ x=>x)
end
end PySem.W
namespace L2
open PySem PySem.Spec PyProof.Rows
open PySem.W (X2)
def Y2 (a:Addr) (cls:Value) (dc:Option Addr):HO := .ext fun h=>∃ t0 sl,h.get? a=some ⟨cls,dc,.fields (X2 (.ref t0)),sl⟩
def del (H:Hp) (a:Addr):Hp:=fun b=>if b=a then none else H b
theorem YaP {H:Hp} {a:Addr}:del H a a=none:=by unfold del;rw [if_pos rfl]
theorem XV {H:Hp} {a b:Addr} (h:b≠a):del H a b=H b:=by unfold del;rw [if_neg h]
theorem YcC {H:Hp} {a b:Addr} {o:HO} (h:del H a b=some o):b≠a∧H b=some o:=by
 unfold del at h
 split at h
 ·cases h
 ·exact ⟨‹_›,h⟩
section
variable {P:Program} {w:World} {H:Hp} {h:Heap} {a t0:Addr} {cls:Value} {dc:Option Addr} {sl:Array (Option Value)}
theorem Vo (q:h.get? a=some ⟨cls,dc,.fields (X2 (.ref t0)),sl⟩):Yu P w H h a (Y2 a cls dc):=⟨⟨t0,sl,q⟩,⟨_,q⟩,fun h1 h2 ⟨t,sl,p⟩ k=>⟨t,sl,k _ p⟩⟩
end
section
variable {X:Cx} {pins:List (Addr×Obj)} {σ:St} {H:Hp} {s:Shared} {e:Addr} {cls:Value} {M:Model} {A:Around} {Q:Unit→Shared→Prop} {EE:Value→Shared→Prop} {dc:Option Addr}
theorem Inv.leave_excN (I:Inv X pins σ H s) (hs:X.stack=X.env::X.outer) (hf:X.env.frame=some X.env.locals) (hex:X.ex=[]) (hA:A.frames=some (X.env::X.outer)) (he:H e=some (Y2 e cls dc)) (hnew:X.s₀.heap.get? e=none)
  (hQ:∀ h'' B,Fly X.prog X.w X.outer X.H₀ X.s₀.heap e cls (del H e) h'' B→Y5 h'' e dc→Q () { s with heap:=h'' }):wpAny M A (leaving X.env (.ref e)) Q EE s:=by
 have nx:∀ b:Addr,b∉X.ex:=by
  rw [hex]
  intro b z
  cases z
 have st:=I.stack
 have sf:=I.stkFree
 rw [hs] at st sf
 obtain ⟨⟨t0,sl,q0⟩,_,_⟩:=I.hok e _ he
 have hne:∀ b o,X.s₀.heap.get? b=some o→b≠e:=fun b o q z=>by rw [z,hnew] at q;cases q
 have hd0:Y5 s.heap e dc:=⟨_,q0,rfl⟩
 have hstays:(PySem.W.hideAll s.heap (e::frs (X.env::X.outer))).StaysIn s.heap:=fun b o q=>PySem.W.of_hideAll _ q
 refine wpAny_mono (XU (WE _ _) hd0 (wpAny_leaving_firstW (Q:=fun _ s'=>∃ h'',s'={ s with heap:=h'' }∧Fly X.prog X.w X.outer X.H₀ X.s₀.heap e cls (del H e) h'' (PySem.W.hideAll s.heap (e::frs (X.env::X.outer)))) (a0 := .ref t0) (base:=PySem.W.hideAll s.heap (e::frs (X.env::X.outer))) hA (PySem.W.funFrames_hide st fun env he a ha=>List.mem_cons_of_mem _ (List.mem_filterMap.mpr ⟨env,he,ha⟩)) hf q0 hstays (PySem.W.hideAll_none _ (List.mem_cons_self ..)) rfl rfl rfl fun h'' hL=>⟨h'',rfl,?_⟩)) (fun _ s' z=>by
  obtain ⟨⟨h'',rfl,F⟩,d⟩:=z
  exact hQ h'' _ F d) fun _ _ z=>z.1
 obtain ⟨k1,⟨_,_,k2⟩,k3,k4⟩:=hL
 have notIn:∀ b o,X.s₀.heap.get? b=some o→b∉frs X.outer→b∉e::frs (X.env::X.outer):=fun b o q nb z=>by
  rcases List.mem_cons.mp z with z | z
  ·exact hne b o q z
  ·exact I.notStk hf q nb z
 refine ⟨⟨_,k1,PySem.W.hideAll_none _ (List.mem_cons_self ..),k2,k3⟩,fun b u q=>?_,fun b o q n nb=>PySem.W.hideAll_get _ (I.base.keep b o q n nb (nx b)) (notIn b o q nb),fun b o q n hb=>?_,fun b o q nb=>?_,fun b o q n=>?_,fun b xs q=>?_,fun b o u q=>?_,fun b ps q=>?_⟩
 ·obtain ⟨nb,q⟩:=YcC q
  refine (I.hok b u q).stay (fun c v hc r=>PySem.W.hideAll_get _ r fun z=>?_) (fun c r=>?_) fun c xs r=>?_
  ·rcases List.mem_cons.mp z with z | z
   ·subst z
    rcases hc with hc | hc
    ·exact nb hc.symm
    ·rw [he] at hc;cases hc
   ·have n:=sf c z
    rcases hc with rfl | hc
    ·rw [n] at q;cases q
    ·rw [n] at hc;cases hc
  ·rw [XV fun z=>by rw [z,he] at r;cases r];exact r
  ·rw [XV fun z=>by rw [z,he] at r;cases r];exact r
 ·obtain ⟨sl,e1⟩:=I.base.slot b o q n hb (nx b)
  obtain ⟨_,o',e',d⟩:=I.ok.funs.mem hb
  rw [q] at e'
  cases e'
  obtain ⟨sl',e2⟩:=k4 b _ e1 d
  exact ⟨sl',e2⟩
 ·obtain ⟨o',e1⟩:=I.base.there b o q (nx b)
  exact ⟨o',PySem.W.hideAll_get _ e1 (notIn b o q nb)⟩
 ·rw [XV (hne b o q)];exact I.base.free b o q n (nx b)
 ·have z:=I.base.tups b xs q
  rw [XV fun y=>by rw [y,he] at z;cases z];exact z
 ·have z:=I.base.frzs b o u q
  rw [XV fun y=>by rw [y,he] at z;cases z];exact z
 ·obtain ⟨m,z⟩:=I.base.tbls b ps q
  exact ⟨m,by rw [XV fun y=>by rw [y,he] at z;cases z];exact z⟩
end
def U0 (X:Cx) (E:XK):Prop:=∀ (pins:List (Addr×Obj)) (σ:St) (H:Hp) (s:Shared) (e:Addr) (cls:Value) (dc:Option Addr),Inv X pins σ H s→H e=some (Y2 e cls dc)→(∀ o,X.s₀.heap.get? e=some o→e∈X.ex)→E cls dc (del H e)→X.xe (.ref e) s
section
variable {g:Gx} {N:List Str} {qual:Str} {st:Stmt} {f:Addr} {cdv:Value} {A:Around} {outer:List Env} {s:Shared} {H:Hp} {E:XK}
theorem YcD:U0 (g.cxX N qual st f cdv A outer s H E) E:=by
 intro pins σ H1 s1 e cls dc I he hn q
 exact I.leave_excN rfl rfl rfl I.ok.frames he (by
  cases hq:s.heap.get? e with
  | none=>exact hq
  | some o=>exact absurd (hn o hq) (by simp [XE])) fun h'' B F hd=>⟨e,cls,del H1 e,B,dc,rfl,I.os,I.bare,F,hd,q⟩
end
def YU (a:Addr) (fs:List (Str×V)):HO := .ext fun h=>∃ mA,h.Ns1 a mA∧(∀ f,YX (fs.lookup f) (mA f))∧PySem.Within mA (fs.map (·.1))
structure MkX (K:PySem.W.Frag) (C f:Addr):Prop where
 own:PySem.W.excOwn K C Vc "ValueError.__new__" f=true
 fn:PySem.W.isFn K (.ref f)=true
section
variable {X:Cx} {pins:List (Addr×Obj)} {σ:St} {H:Hp} {s:Shared} {C f:Addr} {k:Nat} {fd:FuncData} {ps:List Str} {sp:Sp} {ds:List Value} {dvs:List V} {E:XK} {CX:CXT}
theorem YaQ {Q:VK} {us:List Value} {vs:List V} (M:MkX X.K C f) (F:FnOk X.prog X.w X.K X.mg X.base CX k f fd ps sp) (hr:Room (k+1) X.A) (hb:YA X.K fd ps ds) (hd:Yl dvs ds)
  (hx:Xh CX X E) (I:Inv X pins σ H s) (r:Yl vs us) (hz:us.length≤sizeLine)
  (h:∀ x,H x=none→s.heap.get? x=none→sp (.ref x::(vs++dvs)) (upd H x (Y2 x (.ref C) none)) (fun v H2=>v = .non∧Q (.ref x) H2) E) :
  wpAny (model X.prog X.w) X.A (call (.ref C) us) (EP X pins σ Q) X.xe s:=by
 obtain ⟨bm,ns,nm,qn,bs,hdd,sn,sub,ab,col,dd,k0,k1,k2,k3,k5,mN,hO,hN,hi,T⟩:=PySem.W.excOwn_obj I.kIn M.own
 obtain ⟨oI,ho,hoc⟩:=Option.map_eq_some_iff.mp (beq_iff_eq.mp M.fn)
 obtain ⟨hh,gg,dr,tk,os⟩:=s
 refine PySem.W.exc_make_call PySem.F.excBase_ValueError T hO hN hi (I.kIn _ _ ho) hoc (fun h' x hm ex=>?_) hz
 obtain ⟨t0,he,_,_⟩:=hm.there
 have hq:=h x (I.hok.fresh (by rw [ex];exact Nat.le_succ _)) hm.new
 have I2:Inv X pins σ (upd H x (Y2 x (.ref C) none)) ⟨h',gg,dr,tk,os⟩:=I.laid (t':=tk) (a:=x) (o:=Y2 x (.ref C) none) (fun b u q=>hm.keeps b u q) (by rw [ex];exact Nat.le_succ _) (Vo he)
 have r2:Yl (V.ref x::(vs++dvs)) (Value.ref x::(us++ds)) := .cons rfl (r.append hd)
 have hl:(Value.ref x::us++ds).length=ps.length:=by
  have e:=r2.length
  rw [F.len _ _ _ _ hq] at e
  exact e.symm
 refine wpAny_call (codeAny_mono (F.run _ X.stack _ _ ⟨Value.ref x::us,[]⟩ (Value.ref x::(us++ds)) _ _ E (hr.make C us []) (I2.env0.make C us []) (hb _ (Value.ref x::us) I2.kIn hl) r2 hq) fun r s' hq'=>?_)
 cases r with
 | error e=>exact hx pins σ _ _ e s' I2 hq'
 | ok fl =>
  cases fl with
  | ret u =>
   obtain ⟨v,H',I3,rv,ev,q3⟩:=I2.after hq'
   subst ev
   exact ⟨rv,⟨V.ref x,H',I3,rfl,q3⟩⟩
  | next=>exact False.elim hq'
  | brk=>exact False.elim hq'
  | cont=>exact False.elim hq'
end
structure ExFl (K:PySem.W.Frag) (C C':Addr):Prop where
 hd:PySem.W.hasDictIn K C=true
 ln:PySem.W.excLine K C C'=true
 sa:PySem.W.findIn K (.ref C) "__setattr__"=some (some (.builtin "object.__setattr__"))
section
variable {P:Program} {w:World} {H:Hp} {h:Heap} {a:Addr} {fs:List (Str×V)} {mA:Str→Option Value}
theorem U1 (n:h.Ns1 a mA) (r:∀ f,YX (fs.lookup f) (mA f)) (wi:PySem.Within mA (fs.map (·.1))):Yu P w H h a (YU a fs):=by
 obtain ⟨od,es,ep,e,c⟩:=id n
 exact ⟨⟨mA,n,r,wi⟩,⟨od,e⟩,fun h1 h2 ⟨mB,⟨od,es,ep,e,c⟩,r,wi⟩ k=>⟨mB,⟨od,es,ep,k _ e,c⟩,r,wi⟩⟩
end
section
variable {X:Cx} {pins:List (Addr×Obj)} {σ:St} {H:Hp} {s:Shared} {C C' a d:Addr} {f:Str} {y:V} {u:Value} {Q:Unit→Shared→Prop} {A:Around} {E:Value→Shared→Prop} {fs:List (Str×V)}
theorem YaR (I:Inv X pins σ H s) (c:ExFl X.K C C') (na:PySem.W.findIn X.K (.ref C) f=some none) (e:H a=some (Y2 a (.ref C) none)) (ry:Ym y u)
  (h:∀ d s',H d=none→d≠a→Inv X pins σ (upd (upd H d (YU d [(f,y)])) a (Y2 a (.ref C) (some d))) s'→Q () s'):wpAny (model X.prog X.w) A (setAttr (.ref a) f u) Q E s:=by
 obtain ⟨⟨t0,sl,q0⟩,_,_⟩:=I.hok a _ e
 refine PySem.W.exset_new I.kIn q0 rfl rfl rfl c.hd c.ln na c.sa fun h' n1 ha hk=>?_
 have hfr:H s.heap.objs.size=none:=I.hok.fresh (Nat.le_refl _)
 have hne:s.heap.objs.size≠a:=fun z=>by rw [z,e] at hfr;cases hfr
 have ned:∀ b o,s.heap.get? b=some o→b≠s.heap.objs.size:=fun b o q=>Nat.ne_of_lt (Heap.lt_size q)
 have nea:∀ b,H b=none→b≠a:=fun b q z=>by rw [z,e] at q;cases q
 have oth:∀ b o,H b=some o→b≠a→(upd (upd H s.heap.objs.size (YU s.heap.objs.size [(f,y)])) a (Y2 a (.ref C) (some s.heap.objs.size))) b=some o:=fun b o q n=>by
  rw [Yb n,Yb (Yg q hfr)];exact q
 refine h _ _ hfr hne (I.un (t':=s.toks+2) ⟨fun b o q n _ _=>hk b o (nea b n) q,fun b o q n _ _=>⟨o.slots,hk b o (nea b n) q⟩,fun b o q n _=>?_,fun b o q _=>?_,fun b xs q=>?_,fun b o u q=>?_,fun b ps q=>?_⟩ fun b o q=>?_)
 ·rw [Yb (nea b n),Yb (ned b o q)];exact n
 ·by_cases z:b=a
  ·subst z;exact ⟨_,ha⟩
  ·exact ⟨o,hk b o z q⟩
 ·exact oth b _ q fun z=>by rw [z,e] at q;cases q
 ·exact oth b _ q fun z=>by rw [z,e] at q;cases q
 ·exact ⟨#[],by rw [Array.append_empty];exact oth b _ q fun z=>by rw [z,e] at q;cases q⟩
 ·by_cases z:b=a
  ·subst z
   rw [Ye] at q
   cases q
   exact Vo ha
  ·rw [Yb z] at q
   by_cases z2:b=s.heap.objs.size
   ·subst z2
    rw [Ye] at q
    cases q
    refine U1 n1 (fun g=>?_) fun g hg=>?_
    ·by_cases eg:g=f
     ·subst eg
      rw [if_pos rfl]
      show YX (List.lookup g [(g,y)]) _
      simp only [List.lookup,beq_self_eq_true]
      exact ry
     ·rw [if_neg eg]
      have:(g==f)=false:=by simp [eg]
      simp only [List.lookup,this]
      exact True.intro
    ·by_cases eg:g=f
     ·subst eg;simp
     ·rw [if_neg eg] at hg;exact absurd rfl hg
   ·rw [Yb z2] at q
    refine (I.hok b o q).stay (fun c v hc r=>hk c v (fun zc=>?_) r) (fun c r=>?_) fun c xs r=>?_
    ·subst zc
     rcases hc with hc | hc
     ·exact z hc.symm
     ·rw [e] at hc;cases hc
    ·exact oth c _ r fun zc=>by rw [zc,e] at r;cases r
    ·exact oth c _ r fun zc=>by rw [zc,e] at r;cases r
theorem Yah (I:Inv X pins σ H s) (c:ExFl X.K C C') (na:PySem.W.findIn X.K (.ref C) f=some none) (e:H a=some (Y2 a (.ref C) (some d))) (ed:H d=some (YU d fs)) (hl:fs.length<1000) (hne:d≠a) (ry:Ym y u)
  (h:∀ s',Inv X pins σ (upd H d (YU d (YF f y fs))) s'→Q () s'):wpAny (model X.prog X.w) A (setAttr (.ref a) f u) Q E s:=by
 obtain ⟨⟨t0,sl,q0⟩,_,_⟩:=I.hok a _ e
 obtain ⟨⟨mA,n1,r,wi⟩,_,_⟩:=I.hok d _ ed
 have hz:(fs.map (·.1)).length≤sizeLine:=by rw [List.length_map,sizeLine_eq];omega
 refine PySem.W.exset_more I.kIn q0 rfl rfl rfl n1 hne c.hd c.ln na c.sa wi hz fun h' n2 sb=>?_
 obtain ⟨od,es,ep,eo,co⟩:=id n2
 refine h _ (I.write (t':=s.toks+2) (x:=d) (e:=d) (by rw [ed];exact True.intro) (.inl rfl) (fun b q hb z=>(sb.2 b hb).trans z) ⟨od,eo⟩ (U1 n2 (fun g=>?_) fun g hg=>?_))
 ·rw [X3]
  by_cases q:g=f
  ·rw [if_pos q,if_pos q];exact ry
  ·rw [if_neg q,if_neg q];exact r g
 ·by_cases q:g=f
  ·rw [q];exact (XA f y fs).1
  ·refine (XA f y fs).2 g (wi g fun z=>hg ?_)
   show (if g=f then some u else mA g)=none
   rw [if_neg q];exact z
end
structure BInit (g:Gx) (x:Str) (B:Addr):Prop where
 bound:g.mg x=some (.ref B)
 ga:PySem.W.specialIn g.K (.ref B) "__getattribute__"=some (some (.builtin "type.__getattribute__"))
 rd:PySem.W.readsIn g.K B (.type "type")=true
 at_:PySem.W.findCls g.K (.ref B) (.type "type") "__init__"=some (.val (.builtin "ValueError.__init__"))
def tBI (C:Addr) (t:TA):TE:=fun σ H Q=>t σ H fun vs H1=>∃ a m dc,vs=[.ref a,m]∧H1 a=some (Y2 a (.ref C) dc)∧Q .non H1
def sFx (C:Addr) (ta tv:TE) (f:Str):TS:=fun D σ H=>tv σ H fun y H1=>ta σ H1 fun x H2=>∃ a,x = .ref a∧((H2 a=some (Y2 a (.ref C) none)∧∀ d,H2 d=none→d≠a→D.nx σ (upd (upd H2 d (YU d [(f,y)])) a (Y2 a (.ref C) (some d)))) ∨
 ∃ d fs,H2 a=some (Y2 a (.ref C) (some d))∧H2 d=some (YU d fs)∧fs.length<1000∧d≠a∧D.nx σ (upd H2 d (YU d (YF f y fs))))
def tFx (C:Addr) (ta:TE) (f:Str):TE:=fun σ H Q=>ta σ H fun x H1=>∃ a d fs v,x = .ref a∧H1 a=some (Xe a (.ref C) (some d))∧H1 d=some (YU d fs)∧fs.lookup f=some v∧Q v H1
def spI (C:Addr) (fs:List Str):Sp:=fun vs H Q _=>∃ e us,vs = .ref e::us∧us.length=fs.length∧H e=some (Y2 e (.ref C) none)∧∀ d,H d=none→d≠e→Q .non (upd (upd H d (YU d (fs.zip us))) e (Y2 e (.ref C) (some d)))
def Gx.RawX (g:Gx) (x:Str) (C:Addr) (qual:Str) (st:Stmt) (ps:List Str):Prop:=∃ f fd,Fun g.K "__init__" qual st f fd∧YA g.K fd ps []∧MkX g.K C f∧g.mg x=some (.ref C)
def Gx.MaX (g:Gx) (x:Str) (C:Addr) (ps fs:List Str):Prop:=∃ f fd,FnOk g.P g.w g.K g.mg g.base CX0 1 f fd ps (spI C fs)∧YA g.K fd ps []∧MkX g.K C f∧g.mg x=some (.ref C)
theorem Gx.RawX.maX {g:Gx} {x qual:Str} {C:Addr} {st:Stmt} {N ps fs:List Str} (R:g.RawX x C qual st ps) (S:FnScope N ps (Yd st)) (len:∀ vs H Q E,spI C fs vs H Q E→vs.length=ps.length) (b:WC g 0 N qual st (spI C fs)):g.MaX x C ps fs:=by
 obtain ⟨f,fd,F,bd,hm,hg⟩:=R
 exact ⟨f,fd,F.ok S len fun cdv A outer s H vs Q E hr h=>b f cdv A outer s H vs Q E hr h,bd,hm,hg⟩
theorem YbY {K:PySem.W.Frag} {h:Heap} {mg:Str→Option Value} {f C:Addr} {x qual:Str} {st:Stmt} {oc kV dc pm cd ct:Value} {od an:Option Addr} {sl:Array (Option Value)} (X:K.In h) (G:h.Ns mainGlobals mg) (ps:List Str) (aC:PySem.W.nsIn K mainGlobals x=some (some (.ref C)))
  (a:PySem.W.findIn K (.ref C) "__init__"=some (some (.ref f))) (o:PySem.W.excOwn K C Vc "ValueError.__new__" f=true) (i:PySem.W.isFn K (.ref f)=true) (l:K.lookup f=some ⟨oc,od,.func (PySem.W.fnOf "__init__" qual (Yx st) (Yr st) (Yd st) .none kV dc pm an cd ct),sl⟩) (c:PySem.W.codeIn K cd qual=true) (k:PySem.W.keepIn K (.ref f)=true)
  (b:∀ (kV doc pm:Value) (an:Option Addr) (cdv ct:Value) (us:List Value),us.length=ps.length→bindArgs (PySem.W.fnOf "__init__" qual (Yx st) (Yr st) (Yd st) .none kV doc pm an cdv ct) ⟨us,[]⟩=pure (ps.zip us)) :
  ∀ P w base,(Gx.mk P w K mg base).RawX x C qual st ps:=fun P w base =>
 have F:=XO (st:=st) l c k
 ⟨f,_,F,F.binds b,⟨o,i⟩,PySem.W.mg_of X G aC⟩
theorem Gx.RawX.own {g:Gx} {x qual:Str} {C:Addr} {st:Stmt} {ps:List Str} (R:g.RawX x C qual st ps):∃ f,PySem.W.excOwn g.K C Vc "ValueError.__new__" f=true:=by
 obtain ⟨f,_,_,_,M,_⟩:=R
 exact ⟨f,M.own⟩
section
variable {g:Gx} {X:Cx} {k j:Nat} {x m f:Str} {ps:List Str} {sp:Sp} {e o value:Expr} {es:List Expr} {t:TA} {ta tv:TE} {p pos apos pos' np cpos:Pos} {C C' B:Addr} {E:XK} {fs:List Str}
theorem YaS {pl:Sem Bool} (b:BInit g x B) (M:∃ fI,PySem.W.excOwn g.K C Vc "ValueError.__new__" fI=true) (ha:PA X (e::es) t) (hX:X.gx=g:=by rfl) (hg:Gl X x:=by rfl) (hdb:(x==("__debug__":Str))=false:=by decide)
  (hst:starEach (e::es) X.env=(false,eval e X.env)::starEach es X.env:=by rfl) (hpl:(backTo pos (starEach es X.env)).any (·.1)=false:=by rfl)
  (ht:eval (.Call (.Attribute (.Name x p) "__init__" apos) (e::es) [] pos) X.env=(do
   let ov ← eval (.Name x p) X.env
   standAt apos.atName
   let (f,first) ← holding [ov] (getMethod ov "__init__" pl)
   callWith pos f first (backTo pos (starEach (e::es) X.env)) (backToKw pos (keywordEach [] X.env))):=by rfl):PE X (.Call (.Attribute (.Name x p) "__init__" apos) (e::es) [] pos) (tBI C t):=by
 subst hX
 obtain ⟨fI,M⟩:=M
 intro pins s σ H Q I h
 refine PySem.W.methodCall_KW (pl:=pl) (thn (YT (g:=X.gx) (pos:=p) b.bound rfl hg hdb pins s σ H (fun v H1=>v = .ref B∧H1=H) I ⟨rfl,rfl⟩) fun u s1 ⟨v,H1,I1,rv,e1,e2⟩=>?_) ht
 subst e1 e2
 obtain rfl:u=Value.ref B:=rv
 refine PySem.W.method_cls I1.kIn b.ga (PySem.W.cls_value I1.kIn b.rd b.at_ rfl ?_)
 have I2:=I1.tok (s1.toks+1)
 refine PyProof.Rows.callWith_builtin1 (thn (ha pos pins _ σ H1 _ I2 h) fun us s2 ⟨vs,H2,I3,r,a,mm,dc,ev,he,q⟩=>?_) hst hpl
 subst ev
 obtain ⟨u1,u2,rfl,r1,r2⟩:=W2 r
 obtain rfl:u1=Value.ref a:=r1
 obtain ⟨bm,ns,nm,qn,bs,hdd,sn,sub,ab,col,dd,k0,k1,k2,k3,k5,mN,hO,hN,hi,T⟩:=PySem.W.excOwn_obj I3.kIn M
 obtain ⟨⟨t0,sl,q0⟩,_,_⟩:=I3.hok a _ he
 obtain ⟨hh,gg,dr,tk,os⟩:=s2
 refine PySem.W.exc_base_init PySem.F.excBase_ValueError T hO q0 fun h' T' e1 hk=>⟨.non,H2,?_,rfl,q⟩
 have I4:=I3.write (t':=tk) (h':=h') (x:=a) (e:=a) (o:=Y2 a (.ref C) dc) (by rw [he];exact True.intro) (.inl rfl) (fun b u hb z=>hk b u hb z) ⟨_,e1⟩ (Vo e1)
 rw [Ycn he] at I4
 exact I4
theorem U2 (c:ExFl g.K C C') (na:PySem.W.findIn g.K (.ref C) f=some none) (ha:PE X o ta) (hv:PE X value tv) (hX:X.gx=g:=by rfl) (hs:swapsWith value (some (.Attribute o f pos')) pos.line X.env=pure false:=by rfl):PS X (.Assign [.Attribute o f pos'] value pos) (sFx C ta tv f):=by
 subst hX
 intro pins s σ H D I h
 refine plainObj_wpAny_Assign_Attribute (thn (hv pins s σ H _ I h) fun u s1 ⟨y,H1,I1,ry,q⟩=>thn (ha pins s1 σ H1 _ I1 q) fun ov s2 ⟨x,H2,I2,rx,a,ex,q2⟩=>?_) hs
 subst ex
 obtain rfl:ov=Value.ref a:=rx
 rcases q2 with ⟨e0,q2⟩ | ⟨d,fs,e0,e1,l,ne,q2⟩
 ·exact YaR I2 c na e0 ry fun d s3 n1 n2 I3=>⟨σ,_,I3,q2 d n1 n2⟩
 ·exact Yah I2 c na e0 e1 l ne ry fun s3 I3=>⟨σ,_,I3,q2⟩
theorem VW (T:ExcT g.K C) (na:PySem.W.findIn g.K (.ref C) f=some none) (he:PE X e ta) (hX:X.gx=g) (hb:attributeBase e f X.env (eval e X.env)=eval e X.env):PE X (.Attribute e f pos) (tFx C ta f):=by
 subst hX
 intro pins s σ H Q I h
 refine UN hb (thn (he pins s σ H _ I h) fun u s1 ⟨x,H1,I1,rx,a,d,fs,v,ex,ea,ed,l,q⟩=>?_)
 subst ex
 obtain rfl:u=Value.ref a:=rx
 obtain ⟨⟨o,vs,h1,h2,h3,h4⟩,_⟩:=(show Yu X.prog X.w H1 s1.heap a (Xe a (.ref C) (some d)) from I1.hok a _ ea)
 obtain ⟨⟨mA,n1,r,wi⟩,_⟩:=(show Yu X.prog X.w H1 s1.heap d (YU d fs) from I1.hok d _ ed)
 obtain ⟨u,hu,ru⟩:=YX.some_of (v:=v) (o:=mA f) (by rw [← l];exact r f)
 obtain ⟨hh,gg,dr,tk,os⟩:=s1
 exact PySem.W.exatt_attr I1.kIn T.hd h1 h2 (fun c z=>by rw [h3] at z;cases z) h4 n1.ns hu (PySem.W.handedOut_of (Vt ru)) T.hb na T.hga T.hgt ⟨v,H1,I1.tok _,ru,q⟩
theorem Yt {K:PySem.W.Frag} (T:ExcT K C) (h:X.K=K:=by rfl):X0 X (.builtin "isinstance") (fun xs H Q=>∃ a c cv b dc,xs=[.ref a,c]∧WB c=some cv∧H a=some (Xe a (.ref C) dc)∧PySem.W.kitOne K (.ref C) cv=some b∧Q (.bl b) H):=by
 subst h
 intro pins s σ H xs us Q I r h
 obtain ⟨a,c,cv,b,dc,rfl,ec,ha,e,q⟩:=h
 obtain ⟨u,w',rfl,ru,rw'⟩:=W2 r
 have ew:w'=cv:=by
  cases c with
  | ty n=>cases (show w'=Value.type n from rw');simpa [WB] using ec
  | ref a=>cases (show w'=Value.ref a from rw');simpa [WB] using ec
  | _=>simp [WB] at ec
 subst ew
 cases (show u=Value.ref a from ru)
 obtain ⟨⟨o,vs,h1,h2,_⟩,_⟩:=(show Yu X.prog X.w H s.heap a (Xe a (.ref C) dc) from I.hok a _ ha)
 exact PySem.W.kia_one (PySem.W.kitx_exc T.hd T.hm T.hb T.ha T.hga T.hgt) I.kIn ⟨o,h1,h2⟩ e (fun z=>nomatch z) fun tk=>⟨.bl b,H,I.tok tk,rfl,q⟩
def U3 (C:Addr) (fs:List Str) (E:XK) (t:TA):TS:=fun _ σ H=>t σ H fun vs H1=>vs.length=fs.length∧vs.length≤1000∧∀ d,H1 d=none→E (.ref C) (some d) (upd H1 d (YU d (fs.zip vs)))
theorem Yai (F:g.MaX x C ps fs) (hr:Room k X.A) (hR:U0 X E) (ha:PA X (e::es) t) (hj:2≤k) (hc:X.calm=true) (hX:X.gx=g) (hg:Gl X x) (hdb:(x==("__debug__":Str))=false)
  (he:starEach (e::es) X.env=(false,eval e X.env)::starEach es X.env) (hpl:(backTo cpos (starEach es X.env)).any (·.1)=false) :
  PS X (.Raise (some (.Call (.Name x np) (e::es) [] cpos)) none pos) (U3 C fs E t):=by
 subst hX
 obtain ⟨f,fd,F,bd,M,hm⟩:=F
 intro pins s σ H D I h
 obtain ⟨bm,ns,nm,qn,bs,hd,sn,sub,ab,col,dd,k0,k1,k2,k3,k5,mN,hO,hN,hi,T⟩:=PySem.W.excOwn_obj I.mod.kin M.own
 refine PySem.W.exc_raise_call (C:=C) (nm:=nm) (q:=qn) (N:=ns) (bs:=bs) (bm:=bm) (hdct:=hd) (sn:=sn) (sub:=sub) (ab:=ab) (col:=col) (dd:=dd) (k0:=k0) (k1:=k1) (k2:=k2) (k3:=k3) (k5:=k5) (newId:="ValueError.__new__")
  (T.hasType PySem.F.excBase_ValueError.hasBase) (I.ok.hd hc) ?_ (Xk I hg hm ⟨rfl,?_⟩ hdb)
 ·rw [he]
  show (false||(backTo cpos (starEach es X.env)).any (·.1))=false
  rw [hpl];rfl
 ·have a1:=ha cpos pins s σ H _ I h
  rw [he] at a1 ⊢
  refine Calls.evalArgs_plain (wpAny_mono a1 (fun us s2 hz=>?_) fun _ _ y=>y)
  obtain ⟨vs,H2,I2,r,q0,q1,q2⟩:=hz
  refine ⟨rfl,I2.bk _ _ hO,wpAny_mono (YaQ (Q:=fun v H3=>∃ e dc,v = .ref e∧(∀ o,X.s₀.heap.get? e=some o→e∈X.ex)∧H3 e=some (Y2 e (.ref C) dc)∧E (.ref C) dc (del H3 e)) (dvs:=[]) M F (hr.mono hj) bd .nil WR I2 r (by rw [← r.length,sizeLine_eq];omega) fun e n1 n2=>?_) (fun v s3 z=>?_) fun _ _ y=>y⟩
  ·have hs0:∀ o,X.s₀.heap.get? e=some o→e∈X.ex:=fun o hq=>Classical.byContradiction fun z=>by
    obtain ⟨o',z⟩:=I2.base.there e o hq z
    rw [n2] at z
    cases z
   refine ⟨e,vs,by rw [List.append_nil],q0,Ye,fun d m1 m2=>⟨rfl,e,some d,rfl,hs0,Ye,?_⟩⟩
   rw [Yb m2] at m1
   have:=q2 d m1
   refine Eq.mp (congrArg (E (.ref C) (some d)) (funext fun b=>?_)) this
   by_cases hb:b=e
   ·subst hb
    rw [YaP,Yb (Ne.symm m2)]
    exact n1
   ·rw [XV hb,Yb hb]
    by_cases hbd:b=d
    ·subst hbd;rw [Ye,Ye]
    ·rw [Yb hbd,Yb hbd,Yb hb]
  ·obtain ⟨v',H3,I3,rv,e,dc,ev,hs0,he3,q3⟩:=z
   subst ev
   obtain rfl:v=Value.ref e:=rv
   obtain ⟨⟨t0,sl,q5⟩,_,_⟩:=I3.hok e _ he3
   exact ⟨e,dc,t0,sl,rfl,I3.bk _ _ hO,q5,hR pins σ H3 s3 e _ dc I3 he3 hs0 q3⟩
end
theorem YbZ {C:Addr} {fs ps:List Str} {vs:List V} {H:Hp} {Q:VK} {E:XK} (h:spI C fs vs H Q E) (hp:ps.length=fs.length+1:=by rfl):vs.length=ps.length:=by
 obtain ⟨e,us,rfl,l,_⟩:=h
 rw [hp,List.length_cons,l]
theorem spI_2 {C:Addr} {f f2 n0 n1 n2 m:Str} {vs:List V} {H:Hp} {Q:VK} {E:XK} (h:spI C [f,f2] vs H Q E) (hne:(f==f2)=false:=by decide) :
  Y9 (Qb (tBI C (VP (Wq 0) (VP (tC (.str m)) tNil)))) (Y9 (sFx C (Wq 0) (Wq 1) f) (sFx C (Wq 0) (Wq 2) f2)) { nx:=fun _ H'=>Q .non H',rt:=Q } (YY [n0,n1,n2] vs) H:=by
 obtain ⟨e,us,rfl,l,he,q⟩:=h
 obtain ⟨u,u2,rfl⟩:∃ u u2,us=[u,u2]:=by
  match us,l with
  | [u,u2],_=>exact ⟨u,u2,rfl⟩
 refine ⟨_,rfl,e,_,_,rfl,he,?_⟩
 refine ⟨_,rfl,_,rfl,e,rfl,.inl ⟨he,fun d m1 m2=>?_⟩⟩
 refine ⟨_,rfl,_,rfl,e,rfl,.inr ⟨d,[(f,u)],Ye,by rw [Yb m2];exact Ye,by simp,m2,?_⟩⟩
 have z:=q d m1 m2
 have e1:upd (upd (upd H d (YU d [(f,u)])) e (Y2 e (.ref C) (some d))) d (YU d (YF f2 u2 [(f,u)]))=upd (upd H d (YU d ([f,f2].zip [u,u2]))) e (Y2 e (.ref C) (some d)):=by
  have e2:YF f2 u2 [(f,u)]=[f,f2].zip [u,u2]:=by
   simp only [YF]
   rw [if_neg (beq_eq_false_iff_ne.mp hne)]
   rfl
  rw [e2]
  funext b
  by_cases hb:b=d
  ·subst hb;rw [Ye,Yb m2,Ye]
  ·rw [Yb hb]
   by_cases hc:b=e
   ·subst hc;rw [Ye,Ye]
   ·rw [Yb hc,Yb hc,Yb hb,Yb hb]
 show Q .non _
 rw [e1]
 exact z
end L2
namespace L2
open PySem PySem.Spec PyProof.Rows
section
variable {X:Cx} {k:Nat}
end
theorem YaT {K:PySem.W.Frag} {h:Heap} {mg:Str→Option Value} {x:Str} {B:Addr} (X:K.In h) (G:h.Ns mainGlobals mg) (a:PySem.W.nsIn K mainGlobals x=some (some (.ref B))) (ga:PySem.W.specialIn K (.ref B) "__getattribute__"=some (some (.builtin "type.__getattribute__"))) (rd:PySem.W.readsIn K B (.type "type")=true) (at_:PySem.W.findCls K (.ref B) (.type "type") "__init__"=some (.val (.builtin "ValueError.__init__"))) :
  ∀ P w base,BInit (Gx.mk P w K mg base) x B:=fun _ _ _=>⟨PySem.W.mg_of X G a,ga,rd,at_⟩
end L2
namespace L2
open PySem PySem.Spec PyProof.Rows
structure Lent (H Hz:Hp) (h:Heap) (cs:List Addr):Prop where
 one:∀ b∈cs,∃ o u,Hz b=some (.frz o u)∧h.get? b=some o∧H b=none
 oth:∀ b,b∉cs→Hz b=H b
section
variable {P:Program} {w:World} {H Hz H':Hp} {h h' B:Heap} {cs fs:List Addr}
theorem Lent.out (L:Lent H Hz h cs) {b:Addr} {o:HO} (e:H b=some o):b∉cs:=fun z=>by
 obtain ⟨_,_,_,_,n⟩:=L.one b z
 rw [n] at e
 cases e
theorem Lent.get (L:Lent H Hz h cs) {b:Addr} {o:HO} (e:H b=some o):Hz b=some o:=by rw [L.oth b (L.out e)];exact e
theorem WZ (x:HOk P w H' h') (z:∀ b∈cs,∃ o u,H' b=some (.frz o u)):HOk P w (off H' cs) h':=fun b o e=>by
 obtain ⟨e1,e2⟩:=Ycz e
 refine (x b o e1).stay (fun _ _ _ q=>q) (fun c q=>?_) fun c xs q=>?_
 ·rw [YE fun hc=>by obtain ⟨_,_,y⟩:=z c hc;rw [y] at q;cases q]
  exact q
 ·rw [YE fun hc=>by obtain ⟨_,_,y⟩:=z c hc;rw [y] at q;cases q]
  exact q
theorem Lent.un (L:Lent H Hz h cs) (u:Un fs [] Hz H' h h') (hok:HOk P w H' h') (nf:∀ b∈cs,b∉fs):Un fs [] H (off H' cs) h h':=by
 have z:∀ {b:Addr} {o:HO},H b=some o→b∉cs:=fun e=>L.out e
 refine ⟨fun b o e n hf hx=>?_,fun b o e n hf hx=>?_,fun b o e n hx=>?_,u.there,fun b xs e=>?_,fun b o x e=>?_,fun b ps e=>?_⟩
 ·by_cases hb:b∈cs
  ·obtain ⟨o1,u1,y1,y2,_⟩:=L.one b hb
   rw [e] at y2
   cases y2
   exact (hok b _ (u.frzs b _ _ y1)).1
  ·exact u.keep b o e ((L.oth b hb).trans n) hf hx
 ·exact u.slot b o e ((L.oth b fun hb=>nf b hb hf).trans n) hf hx
 ·by_cases hb:b∈cs
  ·exact WH hb
  ·rw [YE hb]
   exact u.free b o e ((L.oth b hb).trans n) hx
 ·rw [YE (z e)]
  exact u.tups b xs (L.get e)
 ·rw [YE (z e)]
  exact u.frzs b o x (L.get e)
 ·rw [YE (z e)]
  exact u.tbls b ps (L.get e)
theorem Lent.behind (L:Lent H Hz h cs) (u:Un fs [] Hz H' h h'):∀ b∈cs,∃ o v,H' b=some (.frz o v):=fun b hb=>by
 obtain ⟨o1,u1,y1,_⟩:=L.one b hb
 exact ⟨o1,u1,u.frzs b _ _ y1⟩
theorem Lent.fly {l:List Env} {e:Addr} {cls:Value} (L:Lent H Hz h cs) (F:Fly P w l Hz h e cls H' h' B) (nf:∀ b∈cs,b∉frs l):Fly P w l H h e cls (off H' cs) h' B:=by
 have z:∀ {b:Addr} {o:HO},H b=some o→b∉cs:=fun e=>L.out e
 have bh:∀ b∈cs,∃ o v,H' b=some (.frz o v):=fun b hb=>by
  obtain ⟨o1,u1,y1,_⟩:=L.one b hb
  exact ⟨o1,u1,F.frzs b _ _ y1⟩
 refine ⟨F.fl,WZ F.hok bh,fun b o q n hf=>?_,fun b o q n hf=>F.slot b o q ((L.oth b fun hb=>nf b hb hf).trans n) hf,F.al,fun b o q n=>?_,fun b xs q=>?_,fun b o x q=>?_,fun b ps q=>?_⟩
 ·by_cases hb:b∈cs
  ·obtain ⟨o1,u1,y1,y2,_⟩:=L.one b hb
   rw [q] at y2
   cases y2
   exact (F.hok b _ (F.frzs b _ _ y1)).1
  ·exact F.keep b o q ((L.oth b hb).trans n) hf
 ·by_cases hb:b∈cs
  ·exact WH hb
  ·rw [YE hb]
   exact F.free b o q ((L.oth b hb).trans n)
 ·rw [YE (z q)]
  exact F.tups b xs (L.get q)
 ·rw [YE (z q)]
  exact F.frzs b o x (L.get q)
 ·rw [YE (z q)]
  exact F.tbls b ps (L.get q)
end
def QE (H Hz:Hp) (l:Yn):Prop:=(∀ p∈l,∃ o,Hz p.2.1=some (.frz o (XH p.2.1 p.2.2))∧H p.2.1=none)∧∀ b,b∉l.as→Hz b=H b
def Xx (H:Hp) (h:Heap):Yn→Hp
 | []=>H
 | p::l=>match h.get? p.2.1 with
  | some o=>upd (Xx H h l) p.2.1 (.frz o (XH p.2.1 p.2.2))
  | none=>Xx H h l
section
variable {X:Cx} {pins:List (Addr×Obj)} {σ:St} {H:Hp} {s:Shared}
theorem XW {h:Heap} {b:Addr}:∀ {l:Yn},b∉l.as→Xx H h l b=H b
 | [],_=>rfl
 | p::l,hb=>by
  have h1:b≠p.2.1:=fun z=>hb (by rw [z];exact .head _)
  have h2:b∉Yn.as l:=fun z=>hb (.tail _ z)
  cases e:h.get? p.2.1 with
  | some o =>
   have hz:Xx H h (p::l)=upd (Xx H h l) p.2.1 (.frz o (XH p.2.1 p.2.2)):=by
    show (match h.get? p.2.1 with | some o=>_ | none=>_)=_
    rw [e]
   rw [hz,Yb h1]
   exact XW h2
  | none =>
   have hz:Xx H h (p::l)=Xx H h l:=by
    show (match h.get? p.2.1 with | some o=>_ | none=>_)=_
    rw [e]
   rw [hz]
   exact XW h2
theorem U4 (I:Inv X pins σ H s) {l:Yn} (hc:XJ X σ l) {p:Str×Addr×V} (hp:p∈l):H p.2.1=none∧∃ o u,s.heap.get? p.2.1=some o∧Ym p.2.2 u∧s.heap.IsCell p.2.1 (some u):=by
 obtain ⟨i,h1,h2,h3,h4⟩:=hc.2 p hp
 obtain ⟨m,hn,hl⟩:=I.loc
 obtain ⟨u,r,lk⟩:=hl i p.1 p.2.2 h1 h2 (.inr (.inl h3))
 rcases lk with ⟨k,_⟩ | ⟨_,c,hc,hcell⟩
 ·rw [h3] at k;cases k
 ·rw [h4] at hc
  cases hc
  obtain ⟨o,e1,e2⟩:=id hcell
  exact ⟨I.freeC p.1 p.2.1 h4,o,u,e1,r,hcell⟩
theorem U5 (I:Inv X pins σ H s):∀ {l:Yn},XJ X σ l→QE H (Xx H s.heap l) l∧Lent H (Xx H s.heap l) s.heap l.as∧HOk X.prog X.w (Xx H s.heap l) s.heap
 | [],_=>⟨⟨(fun p hp=>nomatch hp),fun _ _=>rfl⟩,⟨(fun b hb=>nomatch hb),fun _ _=>rfl⟩,I.hok⟩
 | p::l,h=>by
  have nd':=List.nodup_cons.mp h.1
  obtain ⟨⟨a1,a2⟩,⟨b1,b2⟩,ok⟩:=U5 I (l:=l) ⟨nd'.2,fun q hq=>h.2 q (.tail _ hq)⟩
  obtain ⟨n,o,u,e,r,hcell⟩:=U4 I h (.head _)
  have hz:Xx H s.heap (p::l)=upd (Xx H s.heap l) p.2.1 (.frz o (XH p.2.1 p.2.2)):=by
   show (match s.heap.get? p.2.1 with | some o=>_ | none=>_)=_
   rw [e]
  have hne:∀ q∈l,q.2.1≠p.2.1:=fun q hq z=>nd'.1 (by
   have:q.2.1∈Yn.as l:=List.mem_map_of_mem (f:=fun p:Str×Addr×V=>p.2.1) hq
   rw [z] at this
   exact this)
  rw [hz]
  refine ⟨⟨fun q hq=>?_,fun b hb=>?_⟩,⟨fun b hb=>?_,fun b hb=>?_⟩,ok.track ((XW nd'.1).trans n) ⟨e,YaJ r hcell⟩⟩
  ·rcases List.mem_cons.mp hq with rfl | hq
   ·exact ⟨o,Ye,n⟩
   ·obtain ⟨o',y1,y2⟩:=a1 q hq
    exact ⟨o',by rw [Yb (hne q hq)];exact y1,y2⟩
  ·rw [Yb fun z=>hb (by rw [z];exact .head _)]
   exact a2 b fun z=>hb (.tail _ z)
  ·by_cases z:b=p.2.1
   ·subst z
    exact ⟨o,_,Ye,e,n⟩
   ·rw [Yb z]
    have:b∈Yn.as l:=by
     rcases List.mem_cons.mp (show b∈p.2.1::Yn.as l from hb) with y | y
     ·exact absurd y z
     ·exact y
    exact b1 b this
  ·rw [Yb fun z=>hb (by rw [z];exact .head _)]
   exact b2 b fun z=>hb (.tail _ z)
theorem Ui (I:Inv X pins σ H s) {l:Yn} (hc:XJ X σ l) (hfn:∀ x,X.fn x=true) {b:Addr} (hb:b∈l.as):X.s₀.heap.objs.size≤b∧b≠X.env.locals:=by
 obtain ⟨p,hp,rfl⟩:=XI hb
 obtain ⟨i,h1,h2,h3,h4⟩:=hc.2 p hp
 exact ⟨I.ok.cab _ _ (hfn _) h4,I.cne _ _ h4⟩
theorem Yb0 (I:Inv X pins σ H s) (hs:X.stack=X.env::X.outer) (hf:X.env.frame=some X.env.locals) {l:Yn} (hc:XJ X σ l) (hfn:∀ x,X.fn x=true):∀ b∈l.as,b∉frs X.stack:=fun b hb z=>by
 obtain ⟨n1,n2⟩:=Ui I hc hfn hb
 rw [hs] at z
 unfold frs at z
 rw [List.filterMap_cons,hf] at z
 rcases List.mem_cons.mp z with z | z
 ·exact n2 z
 ·obtain ⟨_,o,e,_⟩:=I.ok.funs.mem z
  exact absurd (Nat.lt_of_lt_of_le (Heap.lt_size e) n1) (Nat.lt_irrefl _)
end
section
variable {X:Cx} {CX:CXT} {k:Nat} {f:Addr} {fd:FuncData} {ps:List Str} {sp:Sp} {E:XK} {pins:List (Addr×Obj)} {σ:St} {H:Hp} {s:Shared} {Q:VK} {us:List Value} {vs:List V} {l:Yn}
theorem YaU (F:FnOk X.prog X.w X.K X.mg X.base CX k f fd ps sp) (hr:Room k X.A) (hb:YA X.K fd ps []) (hs:X.stack=X.env::X.outer) (hf:X.env.frame=some X.env.locals) (hfn:∀ x,X.fn x=true)
  (hx:∀ Hz e s',Lent H Hz s.heap l.as→(∀ b∈l.as,b∉frs X.stack)→CX X.stack Hz s (fun c d H'=>E c d (off H' l.as)) e s'→X.xe e s')
  (I:Inv X pins σ H s) (hc:XJ X σ l) (r:Yl vs us) (h:∀ Hz,QE H Hz l→sp vs Hz (fun v H'=>Q v (off H' l.as)) fun c d H'=>E c d (off H' l.as)):wpAny (model X.prog X.w) X.A (call (.ref f) us) (EP X pins σ Q) X.xe s:=by
 obtain ⟨L1,L2,ok⟩:=U5 I hc
 have nf:=Yb0 I hs hf hc hfn
 have hsp:=h _ L1
 have hl:us.length=ps.length:=by rw [← r.length];exact F.len _ _ _ _ hsp
 have e0:Env0 X.prog X.w X.K X.mg X.base X.A X.stack s (Xx H s.heap l):=by
  have e:=I.env0
  refine ⟨e.frames,e.mod,fun b o q=>⟨(e.bs b o q).1,?_⟩,e.bsz,e.funs,fun b q=>?_,ok,e.bare⟩
  ·rw [XW fun z=>?_]
   ·exact (e.bs b o q).2
   ·have n1:=(Ui I hc hfn z).1
    have:=I.ok.bsz
    exact absurd (Nat.lt_of_lt_of_le (Heap.lt_size q) (Nat.le_trans this n1)) (Nat.lt_irrefl _)
  ·rw [XW fun z=>nf b z q]
   exact e.frf b q
 refine wpAny_call (codeAny_mono (F.run X.A X.stack s _ ⟨us,[]⟩ us vs _ _ hr e0 (by have:=hb s us I.kIn (by rw [List.append_nil];exact hl);rwa [List.append_nil] at this) r hsp) fun r s' hq=>?_)
 cases r with
 | error e=>exact hx _ e s' L2 nf hq
 | ok fl =>
  cases fl with
  | ret u =>
   obtain ⟨v,H',os,bare,un,hok,rv,q⟩:=hq
   exact I.after ⟨v,off H' l.as,os,bare,L2.un un hok nf,WZ hok (L2.behind un),rv,q⟩
  | next=>exact False.elim hq
  | brk=>exact False.elim hq
  | cont=>exact False.elim hq
end
theorem QF {g:Gx} {N:List Str} {qual:Str} {st:Stmt} {f:Addr} {cdv:Value} {A:Around} {outer:List Env} {s0:Shared} {H0:Hp} {E:XK} {pins:List (Addr×Obj)} {σ:St} {H:Hp} {s:Shared} {cs:List Addr}
  (I:Inv (g.cxX N qual st f cdv A outer s0 H0 E) pins σ H s):∀ Hz e s',Lent H Hz s.heap cs→(∀ b∈cs,b∉frs (g.cxX N qual st f cdv A outer s0 H0 E).stack)→CXF g.P g.w (g.cxX N qual st f cdv A outer s0 H0 E).stack Hz s (fun c d H'=>E c d (off H' cs)) e s'→(g.cxX N qual st f cdv A outer s0 H0 E).xe e s':=by
 rintro Hz e s' L nf ⟨a,cls,H',B,dc,rfl,os,bare,F,hd,q⟩
 exact Qv pins σ H s _ s' I ⟨a,cls,off H' cs,B,dc,rfl,os,bare,L.fly F nf,hd,q⟩
def Yn.Z (l:Yn) (H:Hp):Prop:=∀ p∈l,∃ o,H p.2.1=some (.frz o (XH p.2.1 p.2.2))
theorem Yn.Z.keep {l:Yn} {H H':Hp} (h:l.Z H) (s:Yj H H'):l.Z H':=fun p hp=>by
 obtain ⟨o,z⟩:=h p hp
 exact ⟨o,s _ _ z⟩
def ClZ (H:Hp) (f c:Addr) (fd:FuncData) (qual:Str) (l:Yn):Prop:=H f=some (FnO f fd)∧H c=some (CdO c qual)∧l.Z H
theorem ClZ.keep {H H':Hp} {f c:Addr} {fd:FuncData} {qual:Str} {l:Yn} (h:ClZ H f c fd qual l) (s:Yj H H'):ClZ H' f c fd qual l:=⟨s _ _ h.1,s _ _ h.2.1,h.2.2.keep s⟩
section
variable {P:Program} {w:World} {K:PySem.W.Frag} {mg:Str→Option Value} {base:Heap} {N ps:List Str} {qual:Str} {scope:Scope} {f c:Addr} {A:Around} {outer:List Env} {s:Shared} {H:Hp} {l:Yn} {cd:Value}
theorem Yaj {Q:VK} {v:V} {u:Value} {σ':St} {H':Hp} {s':Shared} (e0:Env0 P w K mg base A outer s H) (hin:l.Z H) (J:Inv (Qz P w K mg base N qual scope f cd l.cl A outer s (off H l.as)) [] σ' H' s') (hlk:∀ p∈l,l.cl.lookup p.1=some p.2.1) (rv:Ym v u) (q:(∀ c∈l.as,H' c=none)→Q v (on H' H l.as)) :
  CE outer P w H s Q u s':=by
 have un:=J.base
 have zc:∀ {b:Addr},b∈l.as→∃ o u,H b=some (.frz o u):=fun hm=>by
  obtain ⟨p,hp,rfl⟩:=XI hm
  obtain ⟨o,z⟩:=hin p hp
  exact ⟨o,_,z⟩
 have nin:∀ {b:Addr},H b=none→b∉l.as:=fun hb hm=>by
  obtain ⟨o,u,z⟩:=zc hm
  rw [z] at hb;cases hb
 have out:∀ {b:Addr} {o:HO},H b=some o→(∀ x u,o ≠ .frz x u)→b∉l.as:=fun hb no hm=>by
  obtain ⟨o,u,z⟩:=zc hm
  rw [z] at hb
  exact no _ _ (Option.some.inj hb).symm
 have freeC:∀ c∈l.as,H' c=none:=fun c hc=>by
  obtain ⟨p,hp,rfl⟩:=XI hc
  exact J.freeC p.1 p.2.1 (hlk p hp)
 refine ⟨v,on H' H l.as,J.os,J.bare,⟨fun b o e n hb hx=>un.keep b o e (Xv n) hb hx,fun b o e n hb hx=>un.slot b o e (Xv n) hb hx,fun b o e n hx=>?_,fun b o e hx=>un.there b o e hx,fun b xs e=>?_,fun b o u e=>?_,fun b ps e=>?_⟩,fun b o e=>?_,rv,q freeC⟩
 ·rw [XD (nin n)]
  exact un.free b o e (Xv n) hx
 ·have h1:=out e fun _ _ z=>by cases z
  rw [XD h1]
  exact un.tups b xs ((YE h1).trans e)
 ·by_cases hb:b∈l.as
  ·rw [Qy hb];exact e
  ·rw [XD hb]
   exact un.frzs b o u ((YE hb).trans e)
 ·have h1:=out e fun _ _ z=>by cases z
  rw [XD h1]
  exact un.tbls b ps ((YE h1).trans e)
 ·by_cases hb:b∈l.as
  ·rw [Qy hb] at e
   obtain ⟨p,hp,rfl⟩:=XI hb
   obtain ⟨ob,z⟩:=hin p hp
   rw [z] at e
   cases e
   obtain ⟨ho,y1,y2,y3⟩:=e0.hok _ _ z
   have hk:=un.keep _ _ ho (WH hb) (fun hf=>by have:=e0.frf _ hf;rw [z] at this;cases this) (by intro z;exact absurd (show p.2.1∈([]:List Addr) from z) (by simp))
   exact ⟨hk,y3 _ _ y1 fun o q=>by rw [ho] at q;cases q;exact hk,⟨ob,hk⟩,y3⟩
  ·rw [XD hb] at e
   refine (J.hok b o e).stay (fun _ _ _ q=>q) (fun c q=>?_) fun c xs q=>?_
   ·rw [XD fun hc=>?_]
    ·exact q
    ·rw [freeC c hc] at q;cases q
   ·rw [XD fun hc=>?_]
    ·exact q
    ·rw [freeC c hc] at q;cases q
end
def Ybn (X:Cx) (sp:Sp) (E:XK) (t:TA):TE:=fun σ H Q=>t σ H fun vs H1=>∃ l,XJ X σ l∧((∀ c∈l.as,H1 c=none)→∀ Hz,QE H1 Hz l→sp vs Hz (fun v H'=>Q v (off H' l.as)) fun c d H'=>E c d (off H' l.as))
theorem YaV {g:Gx} {N:List Str} {qual:Str} {st:Stmt} {f:Addr} {cdv:Value} {A:Around} {outer:List Env} {s0:Shared} {H0:Hp} {E:XK} {j k:Nat} {x:Str} {ps:List Str} {sp:Sp} {e:Expr} {es:List Expr} {t:TA} {p pos:Pos} (F:g.FnX j x ps sp) (hr:Room k (g.cxX N qual st f cdv A outer s0 H0 E).A) (ha:PA (g.cxX N qual st f cdv A outer s0 H0 E) (e::es) t) (hj:j≤k) (hg:Gl (g.cxX N qual st f cdv A outer s0 H0 E) x) (hdb:(x==("__debug__":Str))=false)
  (he:starEach (e::es) (g.cxX N qual st f cdv A outer s0 H0 E).env=(false,eval e (g.cxX N qual st f cdv A outer s0 H0 E).env)::starEach es (g.cxX N qual st f cdv A outer s0 H0 E).env) (hpl:(backTo pos (starEach es (g.cxX N qual st f cdv A outer s0 H0 E).env)).any (·.1)=false) :
  PE (g.cxX N qual st f cdv A outer s0 H0 E) (.Call (.Name x p) (e::es) [] pos) (Ybn (g.cxX N qual st f cdv A outer s0 H0 E) sp E t):=by
 obtain ⟨f',fd,F,b,kp,hm⟩:=F
 intro pins s σ H Q I h
 refine wpAny_Call_Name_kw (Xk I hg hm ?_ hdb)
 refine PySem.W.callWith_K (h₀:=(g.cxX N qual st f cdv A outer s0 H0 E).base) I.ok.mod.kin kp (thn (ha pos pins s σ H _ I h) fun us s1 ⟨vs,H1,I1,r,l,hc,q⟩=>⟨I1.kIn,?_⟩) he hpl
 exact YaU F (hr.mono hj) b rfl rfl (fun _=>rfl) (QF I1) I1 hc r (q fun c hcc=>by
  obtain ⟨p,hp,rfl⟩:=XI hcc
  exact (U4 I1 hc hp).1)
theorem Gx.RawT.fnX {g:Gx} {k:Nat} {x qual:Str} {st:Stmt} {N ps:List Str} {c:Addr} {sp:Sp} (R:g.RawT x qual st ps c) (S:FnScope N ps (Yd st)) (len:∀ vs H Q E,sp vs H Q E→vs.length=ps.length)
  (b:∀ (f:Addr) (A:Around) (outer:List Env) (s:Shared) (H:Hp) (vs:List V) (Q:VK) (E:XK),Room k (g.cxX N qual st f (.ref c) A outer s H E).A→sp vs H Q E →
   ∃ t,PSs (g.cxX N qual st f (.ref c) A outer s H E) (Yr st) t∧t { nx:=fun _ H'=>Q .non H',rt:=Q } (YY N vs) H):g.FnX (k+1) x ps sp:=by
 obtain ⟨f,fd,F,bd,hm,hc⟩:=R
 refine ⟨f,fd,?_,bd,F.kp,hm⟩
 obtain ⟨oc,od,kV,doc,pm,an,cdv,ct,osl,rfl,lk,hcd⟩:=F.ex
 have hc':cdv = .ref c:=hc
 subst hc'
 exact VQ lk hcd S len fun A outer s H vs Q E hr h=>b f A outer s H vs Q E hr h
end L2
namespace L2
open PySem
mutual
inductive DL (H:Hp):V→PyData→List Addr→Prop
 | non:DL H .non .none []
 | bl (b:Bool):DL H (.bl b) (.bool b) []
 | int (i:Int):DL H (.int i) (.int i) []
 | str (x:Str) (h:PyData.strOk x=true):DL H (.str x) (.str x) []
 | lst {a:Addr} {vs:List V} {ds:List PyData} {L:List Addr}:H a=some (.lst vs)→vs.length≤10000→DLs H vs ds L→DL H (.ref a) (.list ds) (a::L)
 | tup {a:Addr} {vs:List V} {ds:List PyData} {L:List Addr}:H a=some (.tup vs)→vs.length≤10000→DLs H vs ds L→DL H (.ref a) (.tuple ds) L
inductive DLs (H:Hp):List V→List PyData→List Addr→Prop
 | nil:DLs H [] [] []
 | cons {v:V} {d:PyData} {L:List Addr} {vs:List V} {ds:List PyData} {L':List Addr}:DL H v d L→DLs H vs ds L'→DLs H (v::vs) (d::ds) (L++L')
end
mutual
theorem DL.keepL {H H':Hp} (t:Tps H H'):∀ {v:V} {d:PyData} {L:List Addr},DL H v d L→(∀ a∈L,∀ vs,H a=some (.lst vs)→H' a=some (.lst vs))→DL H' v d L
 | _,_,_,.non,_ => .non
 | _,_,_,.bl b,_ => .bl b
 | _,_,_,.int i,_ => .int i
 | _,_,_,.str x h,_ => .str x h
 | _,_,_,.lst h hn hs,e => .lst (e _ (.head _) _ h) hn (hs.keepL t fun a ha=>e a (.tail _ ha))
 | _,_,_,.tup h hn hs,e => .tup (t _ _ h) hn (hs.keepL t e)
theorem DLs.keepL {H H':Hp} (t:Tps H H'):∀ {vs:List V} {ds:List PyData} {L:List Addr},DLs H vs ds L→(∀ a∈L,∀ vs,H a=some (.lst vs)→H' a=some (.lst vs))→DLs H' vs ds L
 | _,_,_,.nil,_ => .nil
 | _,_,_,.cons h hs,e => .cons (h.keepL t fun a ha=>e a (List.mem_append_left _ ha)) (hs.keepL t fun a ha=>e a (List.mem_append_right _ ha))
end
theorem DL.keep {H H':Hp} {v:V} {d:PyData} {L:List Addr} (h:DL H v d L) (s:Yj H H'):DL H' v d L:=h.keepL s.tps fun a _ vs e=>s _ _ e
theorem DLs.keep {H H':Hp} {vs:List V} {ds:List PyData} {L:List Addr} (h:DLs H vs ds L) (s:Yj H H'):DLs H' vs ds L:=h.keepL s.tps fun a _ vs e=>s _ _ e
mutual
theorem DL.mem {H:Hp}:∀ {v:V} {d:PyData} {L:List Addr},DL H v d L→∀ a∈L,∃ vs,H a=some (.lst vs)∧vs.length≤10000
 | _,_,_,.lst (a:=b) h hn hs,a,ha=>by
  rcases List.mem_cons.mp ha with e | ha
  ·subst e;exact ⟨_,h,hn⟩
  ·exact hs.mem a ha
 | _,_,_,.tup h hn hs,a,ha=>hs.mem a ha
theorem DLs.mem {H:Hp}:∀ {vs:List V} {ds:List PyData} {L:List Addr},DLs H vs ds L→∀ a∈L,∃ vs,H a=some (.lst vs)∧vs.length≤10000
 | _,_,_,.cons h hs,a,ha=>by
  rcases List.mem_append.mp ha with ha | ha
  ·exact h.mem a ha
  ·exact hs.mem a ha
end
mutual
theorem DL.den {K:PySem.W.Frag} {H:Hp}:∀ {v:V} {d:PyData} {L:List Addr},DL H v d L→Den K H v d
 | _,_,_,.non => .non
 | _,_,_,.bl b => .bl b
 | _,_,_,.int i => .int i
 | _,_,_,.str x h => .str x h
 | _,_,_,.lst h _ hs => .lst (SqL.of h) hs.den
 | _,_,_,.tup h _ hs => .tup (SqT.of h) hs.den
theorem DLs.den {K:PySem.W.Frag} {H:Hp}:∀ {vs:List V} {ds:List PyData} {L:List Addr},DLs H vs ds L→Dens K H vs ds
 | _,_,_,.nil => .nil
 | _,_,_,.cons h hs => .cons h.den hs.den
end
theorem DLs.length {H:Hp}:∀ {vs:List V} {ds:List PyData} {L:List Addr},DLs H vs ds L→vs.length=ds.length
 | _,_,_,.nil=>rfl
 | _,_,_,.cons _ hs=>congrArg (·+1) hs.length
theorem DLs.append {H:Hp} {vs':List V} {ds':List PyData} {L':List Addr}:∀ {vs:List V} {ds:List PyData} {L:List Addr},DLs H vs ds L→DLs H vs' ds' L'→DLs H (vs++vs') (ds++ds') (L++L')
 | _,_,_,.nil,h=>h
 | _,_,_,.cons a b,h=>by rw [List.append_assoc];exact .cons a (b.append h)
theorem DL.one {H:Hp} {v:V} {d:PyData} {L:List Addr} (h:DL H v d L):DLs H [v] [d] L:=by
 have:=DLs.cons h .nil
 rwa [List.append_nil] at this
theorem DLs.take {H:Hp}:∀ {vs:List V} {ds:List PyData} {L:List Addr} (n:Nat),DLs H vs ds L→∃ L',DLs H (vs.take n) (ds.take n) L'∧∀ a∈L',a∈L
 | _,_,_,0,_=>by simp;exact ⟨[],.nil,fun a h=>by cases h⟩
 | _,_,_,n+1,.nil=>by simp;exact ⟨[],.nil,fun a h=>by cases h⟩
 | _,_,_,n+1,.cons a b=>by
  obtain ⟨L',h1,h2⟩:=b.take n
  exact ⟨_,.cons a h1,fun x hx=>by
   rcases List.mem_append.mp hx with h | h
   ·exact List.mem_append_left _ h
   ·exact List.mem_append_right _ (h2 x h)⟩
theorem DLs.drop {H:Hp}:∀ {vs:List V} {ds:List PyData} {L:List Addr} (n:Nat),DLs H vs ds L→∃ L',DLs H (vs.drop n) (ds.drop n) L'∧∀ a∈L',a∈L
 | _,_,_,0,h=>⟨_,h,fun a h=>h⟩
 | _,_,_,n+1,.nil=>⟨[],by simp;exact .nil,fun a h=>by cases h⟩
 | _,_,_,n+1,.cons a b=>by
  obtain ⟨L',h1,h2⟩:=b.drop n
  exact ⟨L',h1,fun x hx=>List.mem_append_right _ (h2 x hx)⟩
structure OwD (H0 H:Hp) (v:V) (d:PyData) (L:List Addr):Prop where
 vl:DL H v d L
 nd:L.Nodup
 new:∀ a∈L,H0 a=none
structure OwDs (H0 H:Hp) (vs:List V) (ds:List PyData) (L:List Addr):Prop where
 vl:DLs H vs ds L
 nd:L.Nodup
 new:∀ a∈L,H0 a=none
theorem OwDs.ext {H0 H1 H2:Hp} {vs:List V} {ds:List PyData} {L L':List Addr} {ys:List V} {es:List PyData} {D:Addr} {zs zs':List V} (h:OwDs H0 H1 vs ds L) (hD:∀ a∈L,a≠D) (s0:Yj H0 H1) (s:Yj H1 H2) (o:OwDs H1 H2 ys es L') (h1:H1 D=some (.lst zs)):OwDs H0 (upd H2 D (.lst zs')) (vs++ys) (ds++es) (L++L')∧∀ a∈L++L',a≠D:=by
 have hD':∀ a∈L',a≠D:=fun a ha e=>by have:=o.new a ha;rw [e,h1] at this;cases this
 have t:Tps H2 (upd H2 D (.lst zs')) := .upd_lst (s _ _ h1)
 refine ⟨⟨((h.vl.keep s).keepL t fun a ha vs e=>by rw [Yb (hD a ha)];exact e).append (o.vl.keepL t fun a ha vs e=>by rw [Yb (hD' a ha)];exact e),?_,fun a ha=>?_⟩,fun a ha=>?_⟩
 ·refine List.nodup_append.mpr ⟨h.nd,o.nd,fun a ha b hb e=>?_⟩
  subst e
  obtain ⟨vs,e1,_⟩:=h.vl.mem a ha
  rw [o.new a hb] at e1
  cases e1
 ·rcases List.mem_append.mp ha with ha | ha
  ·exact h.new a ha
  ·exact s0.free (o.new a ha)
 ·rcases List.mem_append.mp ha with ha | ha
  ·exact hD a ha
  ·exact hD' a ha
theorem OwD.inv {H0 H:Hp} {D:Addr} {ds:List PyData} {L:List Addr} (h:OwD H0 H (.ref D) (.list ds) L):∃ ys L1,L=D::L1∧H D=some (.lst ys)∧ys.length≤10000∧OwDs H0 H ys ds L1∧D∉L1∧H0 D=none:=by
 obtain ⟨vl,nd,new⟩:=h
 cases vl with
 | lst h1 h2 h3 =>
  have:=List.nodup_cons.mp nd
  exact ⟨_,_,rfl,h1,h2,⟨h3,this.2,fun a ha=>new a (.tail _ ha)⟩,this.1,new _ (.head _)⟩
section
variable {src:List (Option Nat)} {te:TE} {σ:St} {H:Hp} {Q:VK}
end
def Kt (H H':Hp):Prop:=∀ a o,(∀ ps,o ≠ .tbl ps)→H a=some o→H' a=some o
theorem Kt.trans {H H1 H2:Hp} (a:Kt H H1) (b:Kt H1 H2):Kt H H2:=fun c o n e=>b c o n (a c o n e)
theorem Ybo {H H':Hp} (s:Yj H H'):Kt H H':=fun c o _ e=>s _ _ e
theorem Kt.lst {H H':Hp} (h:Kt H H') {a:Addr} {xs:List V} (e:H a=some (.lst xs)):H' a=some (.lst xs):=h a _ (by intro ps z;cases z) e
theorem Kt.tup {H H':Hp} (h:Kt H H') {a:Addr} {xs:List V} (e:H a=some (.tup xs)):H' a=some (.tup xs):=h a _ (by intro ps z;cases z) e
theorem DL.kt {H H':Hp} {v:V} {d:PyData} {L:List Addr} (h:DL H v d L) (s:Kt H H'):DL H' v d L:=h.keepL (fun a vs e=>s.tup e) fun a _ vs e=>s.lst e
theorem DLs.kt {H H':Hp} {v:List V} {d:List PyData} {L:List Addr} (h:DLs H v d L) (s:Kt H H'):DLs H' v d L:=h.keepL (fun a vs e=>s.tup e) fun a _ vs e=>s.lst e
def DV (H:Hp) (v:V) (d:PyData):Prop:=∃ L,DL H v d L
def DVs (H:Hp) (vs:List V) (ds:List PyData):Prop:=∃ L,DLs H vs ds L
theorem DV.kt {H H':Hp} {v:V} {d:PyData} (h:DV H v d) (s:Kt H H'):DV H' v d:=by obtain ⟨L,h⟩:=h;exact ⟨L,h.kt s⟩
theorem DV.keep {H H':Hp} {v:V} {d:PyData} (h:DV H v d) (s:Yj H H'):DV H' v d:=h.kt (Ybo s)
theorem DVs.kt {H H':Hp} {v:List V} {d:List PyData} (h:DVs H v d) (s:Kt H H'):DVs H' v d:=by obtain ⟨L,h⟩:=h;exact ⟨L,h.kt s⟩
theorem DVs.keep {H H':Hp} {v:List V} {d:List PyData} (h:DVs H v d) (s:Yj H H'):DVs H' v d:=h.kt (Ybo s)
theorem DVs.nil {H:Hp}:DVs H [] []:=⟨[],.nil⟩
theorem DVs.cons {H:Hp} {v:V} {d:PyData} {vs:List V} {ds:List PyData} (h:DV H v d) (hs:DVs H vs ds):DVs H (v::vs) (d::ds):=by
 obtain ⟨L,h⟩:=h;obtain ⟨L',hs⟩:=hs;exact ⟨_,.cons h hs⟩
theorem DVs.inv {H:Hp} {v:V} {d:PyData} {vs:List V} {ds:List PyData} (h:DVs H (v::vs) (d::ds)):DV H v d∧DVs H vs ds:=by
 obtain ⟨L,h⟩:=h
 cases h with
 | cons a b=>exact ⟨⟨_,a⟩,⟨_,b⟩⟩
theorem DVs.length {H:Hp} {vs:List V} {ds:List PyData} (h:DVs H vs ds):vs.length=ds.length:=by obtain ⟨L,h⟩:=h;exact h.length
theorem DVs.append {H:Hp} {vs vs':List V} {ds ds':List PyData} (h:DVs H vs ds) (h':DVs H vs' ds'):DVs H (vs++vs') (ds++ds'):=by
 obtain ⟨L,h⟩:=h;obtain ⟨L',h'⟩:=h';exact ⟨_,h.append h'⟩
theorem DVs.reverse {H:Hp}:∀ {vs:List V} {ds:List PyData},DVs H vs ds→DVs H vs.reverse ds.reverse
 | [],[],_ => .nil
 | [],_::_,h=>absurd h.length (by simp)
 | _::_,[],h=>absurd h.length (by simp)
 | v::vs,d::ds,h=>by
  rw [List.reverse_cons,List.reverse_cons]
  exact h.inv.2.reverse.append (.cons h.inv.1 .nil)
theorem DV.lst {H:Hp} {a:Addr} {vs:List V} {ds:List PyData} (h:H a=some (.lst vs)) (hn:vs.length≤10000) (hs:DVs H vs ds):DV H (.ref a) (.list ds):=by obtain ⟨L,hs⟩:=hs;exact ⟨_,.lst h hn hs⟩
theorem DV.tup {H:Hp} {a:Addr} {vs:List V} {ds:List PyData} (h:H a=some (.tup vs)) (hn:vs.length≤10000) (hs:DVs H vs ds):DV H (.ref a) (.tuple ds):=by obtain ⟨L,hs⟩:=hs;exact ⟨_,.tup h hn hs⟩
theorem DV.den {K:PySem.W.Frag} {H:Hp} {v:V} {d:PyData} (h:DV H v d):Den K H v d:=by obtain ⟨L,h⟩:=h;exact h.den
end L2
namespace PySem
section
variable {prog:Program} {w:World} {A:Around} {E:Value→Shared→Prop} {s:Shared} {l:Addr} {xs:Array (Int×Tok)}
end
end PySem
namespace HT
open PySem PySem.Spec PyProof.Rows
variable {prog:Program} {w:World} {A:Around} {E:Value→Shared→Prop} {s:Shared}
end HT
namespace L2
open PySem PySem.Spec PyProof.Rows
def revS (z:Str):Str:=⟨z.cps.toList.reverse.toArray⟩
section
variable {X:Cx} {e st:Expr} {te ts:TE} {pos p2:Pos} {K:PySem.W.Frag}
end
end L2
namespace L2
open PySem
noncomputable def sm (a b:PyData):Bool:=@decide (a=b) (Classical.propDecidable _)
inductive Tm where
 | num (i:Int) | here | part (t:Tm) (k:Int) | count (t:Tm) | sum (t:Tm) | not (t:Tm) | turned (t:Tm)
 | same (a b:Tm) | both (a b:Tm) | when (a b c:Tm) | each (a b:Tm) | joined (a b:Tm) | plus (a b:Tm) | times (a b:Tm) | less (a b:Tm)
abbrev Say:=Except Str PyData
def Vp:PyData→Option (List PyData)
 | .list xs=>some xs
 | .tuple xs=>some xs
 | _=>none
def We:List PyData→Option Int
 | []=>some 0
 | .int i::r=>(We r).map (i+·)
 | _::_=>none
def take (mk:Str) (s:Say) (f:PyData→Option α):Except Str α:=match s with
 | .error m => .error m
 | .ok d=>match f d with
  | some a => .ok a
  | none => .error mk
def WU:PyData→Option Int
 | .int i=>some i
 | _=>none
def WI:PyData→Option Bool
 | .bool b=>some b
 | _=>none
def lenOf:PyData→Option Nat
 | .list xs=>some xs.length
 | .tuple xs=>some xs.length
 | .str x=>some x.length
 | _=>none
def YcE:PyData→Option PyData
 | .list xs=>some (.list xs.reverse)
 | .tuple xs=>some (.tuple xs.reverse)
 | .str x=>some (.str (revS x))
 | _=>none
def Yak (mk:Str) (f:PyData→Say):List PyData→Say
 | [] => .ok (.bool true)
 | x::xs=>match take mk (f x) WI with
  | .error m => .error m
  | .ok true=>Yak mk f xs
  | .ok false => .ok (.bool false)
noncomputable def tell:Tm→PyData→Say
 | .num i,_ => .ok (.int i)
 | .here,d => .ok d
 | .part t k,d=>take "part" (tell t d) fun x=>(Vp x).bind fun xs=>if 0≤k then xs[k.toNat]? else none
 | .count t,d=>(take "count" (tell t d) lenOf).map fun (n:Nat)=>PyData.int (n:Int)
 | .sum t,d=>(take "sum" (tell t d) fun x=>(Vp x).bind We).map .int
 | .not t,d=>(take "not" (tell t d) WI).map fun b => .bool (!b)
 | .turned t,d=>take "turned" (tell t d) YcE
 | .same a b,d=>match tell a d with
  | .error m => .error m
  | .ok x=>(tell b d).map fun y => .bool (sm x y)
 | .both a b,d=>match take "both" (tell a d) WI with
  | .error m => .error m
  | .ok false => .ok (.bool false)
  | .ok true=>(take "both" (tell b d) WI).map .bool
 | .when a b c,d=>match take "when" (tell a d) WI with
  | .error m => .error m
  | .ok true=>tell b d
  | .ok false=>tell c d
 | .each a b,d=>match take "each" (tell a d) Vp with
  | .error m => .error m
  | .ok xs=>Yak "each" (fun x=>tell b x) xs
 | .joined a b,d=>match tell a d with
  | .error m => .error m
  | .ok (.list xs)=>take "joined" (tell b d) fun y=>match y with
   | .list ys=>some (.list (xs++ys))
   | _=>none
  | .ok (.str x)=>take "joined" (tell b d) fun y=>match y with
   | .str z=>some (.str (x++z))
   | _=>none
  | .ok _ => .error "joined"
 | .plus a b,d=>match take "plus" (tell a d) WU with
  | .error m => .error m
  | .ok i=>(take "plus" (tell b d) WU).map fun j => .int (i+j)
 | .times a b,d=>match take "times" (tell a d) WU with
  | .error m => .error m
  | .ok i=>(take "times" (tell b d) WU).map fun j => .int (i*j)
 | .less a b,d=>match take "less" (tell a d) WU with
  | .error m => .error m
  | .ok i=>(take "less" (tell b d) WU).map fun j => .bool (decide (i<j))
def Ys (H:Hp):Tm→V→Prop
 | .num i,v=>∃ a,v = .ref a∧H a=some (.tup [.str "num",.int i])
 | .here,v=>∃ a r,v = .ref a∧H a=some (.tup [.str "here",r])
 | .part t k,v=>∃ a p u,v = .ref a∧H a=some (.tup [.str "part",.ref p])∧H p=some (.tup [u,.int k])∧Ys H t u
 | .count t,v=>∃ a u,v = .ref a∧H a=some (.tup [.str "count",u])∧Ys H t u
 | .sum t,v=>∃ a u,v = .ref a∧H a=some (.tup [.str "sum",u])∧Ys H t u
 | .not t,v=>∃ a u,v = .ref a∧H a=some (.tup [.str "not",u])∧Ys H t u
 | .turned t,v=>∃ a u,v = .ref a∧H a=some (.tup [.str "turned",u])∧Ys H t u
 | .same x y,v=>∃ a p u w,v = .ref a∧H a=some (.tup [.str "same",.ref p])∧H p=some (.tup [u,w])∧Ys H x u∧Ys H y w
 | .both x y,v=>∃ a p u w,v = .ref a∧H a=some (.tup [.str "both",.ref p])∧H p=some (.tup [u,w])∧Ys H x u∧Ys H y w
 | .when x y z,v=>∃ a p u w q,v = .ref a∧H a=some (.tup [.str "when",.ref p])∧H p=some (.tup [u,w,q])∧Ys H x u∧Ys H y w∧Ys H z q
 | .each x y,v=>∃ a p u w,v = .ref a∧H a=some (.tup [.str "each",.ref p])∧H p=some (.tup [u,w])∧Ys H x u∧Ys H y w
 | .joined x y,v=>∃ a p u w,v = .ref a∧H a=some (.tup [.str "joined",.ref p])∧H p=some (.tup [u,w])∧Ys H x u∧Ys H y w
 | .plus x y,v=>∃ a p u w,v = .ref a∧H a=some (.tup [.str "plus",.ref p])∧H p=some (.tup [u,w])∧Ys H x u∧Ys H y w
 | .times x y,v=>∃ a p u w,v = .ref a∧H a=some (.tup [.str "times",.ref p])∧H p=some (.tup [u,w])∧Ys H x u∧Ys H y w
 | .less x y,v=>∃ a p u w,v = .ref a∧H a=some (.tup [.str "less",.ref p])∧H p=some (.tup [u,w])∧Ys H x u∧Ys H y w
theorem Ys.tps {H H':Hp} (h:Tps H H'):∀ {t:Tm} {v:V},Ys H t v→Ys H' t v
 | .num i,v,⟨a,e,z⟩=>⟨a,e,h _ _ z⟩
 | .here,v,⟨a,r,e,z⟩=>⟨a,r,e,h _ _ z⟩
 | .part t k,v,⟨a,p,u,e,z,y,x⟩=>⟨a,p,u,e,h _ _ z,h _ _ y,Ys.tps h x⟩
 | .count t,v,⟨a,u,e,z,x⟩=>⟨a,u,e,h _ _ z,Ys.tps h x⟩
 | .sum t,v,⟨a,u,e,z,x⟩=>⟨a,u,e,h _ _ z,Ys.tps h x⟩
 | .not t,v,⟨a,u,e,z,x⟩=>⟨a,u,e,h _ _ z,Ys.tps h x⟩
 | .turned t,v,⟨a,u,e,z,x⟩=>⟨a,u,e,h _ _ z,Ys.tps h x⟩
 | .same _ _,v,⟨a,p,u,w,e,z,y,x1,x2⟩=>⟨a,p,u,w,e,h _ _ z,h _ _ y,Ys.tps h x1,Ys.tps h x2⟩
 | .both _ _,v,⟨a,p,u,w,e,z,y,x1,x2⟩=>⟨a,p,u,w,e,h _ _ z,h _ _ y,Ys.tps h x1,Ys.tps h x2⟩
 | .when _ _ _,v,⟨a,p,u,w,q,e,z,y,x1,x2,x3⟩=>⟨a,p,u,w,q,e,h _ _ z,h _ _ y,Ys.tps h x1,Ys.tps h x2,Ys.tps h x3⟩
 | .each _ _,v,⟨a,p,u,w,e,z,y,x1,x2⟩=>⟨a,p,u,w,e,h _ _ z,h _ _ y,Ys.tps h x1,Ys.tps h x2⟩
 | .joined _ _,v,⟨a,p,u,w,e,z,y,x1,x2⟩=>⟨a,p,u,w,e,h _ _ z,h _ _ y,Ys.tps h x1,Ys.tps h x2⟩
 | .plus _ _,v,⟨a,p,u,w,e,z,y,x1,x2⟩=>⟨a,p,u,w,e,h _ _ z,h _ _ y,Ys.tps h x1,Ys.tps h x2⟩
 | .times _ _,v,⟨a,p,u,w,e,z,y,x1,x2⟩=>⟨a,p,u,w,e,h _ _ z,h _ _ y,Ys.tps h x1,Ys.tps h x2⟩
 | .less _ _,v,⟨a,p,u,w,e,z,y,x1,x2⟩=>⟨a,p,u,w,e,h _ _ z,h _ _ y,Ys.tps h x1,Ys.tps h x2⟩
theorem Ys.keep {H H':Hp} (h:Kt H H') {t:Tm} {v:V} (x:Ys H t v):Ys H' t v:=x.tps fun a vs e=>h.tup e
structure IB (n:Nat) (i:Int):Prop where
 h:i.natAbs<2^(200*2^n)
theorem ib_up (n:Nat):200*2^(n+1)=200*2^n+200*2^n:=by rw [Nat.pow_succ];omega
mutual
def hb:PyData→Prop
 | .list xs=>xs.length≤64∧hbs xs
 | .tuple xs=>xs.length≤64∧hbs xs
 | .str x=>x.length≤64
 | .int i=>IB 0 i
 | .none=>True
 | .bool _=>True
 | .dict _=>False
def hbs:List PyData→Prop
 | []=>True
 | d::ds=>hb d∧hbs ds
end
theorem Yal:∀ {xs:List PyData} {s:Int},hbs xs→We xs=some s→s.natAbs≤xs.length*2^200
 | [],s,_,e=>by cases e;simp
 | .int i::xs,s,h,e=>by
  simp only [We,Option.map_eq_some_iff] at e
  obtain ⟨z,e1,rfl⟩:=e
  have h1:=Yal h.2 e1
  have h2:=(show IB 0 i from h.1).h
  have h3:=Int.natAbs_add_le i z
  rw [Nat.pow_zero,Nat.mul_one] at h2
  rw [List.length_cons,Nat.add_mul,Nat.one_mul]
  omega
 | .none::_,_,_,e=>by cases e
 | .bool _::_,_,_,e=>by cases e
 | .str _::_,_,_,e=>by cases e
 | .list _::_,_,_,e=>by cases e
 | .tuple _::_,_,_,e=>by cases e
 | .dict _::_,_,_,e=>by cases e
theorem IB.sum {n:Nat} {xs:List PyData} {s:Int} (h:hbs xs) (hl:xs.length≤64*2^n) (e:We xs=some s):IB (n+1) s:=by
 refine ⟨Nat.lt_of_le_of_lt (Yal h e) ?_⟩
 refine Nat.lt_of_le_of_lt (Nat.mul_le_mul_right _ hl) ?_
 have e1:64*2^n*2^200=2^(6+n+200):=by rw [Nat.pow_add,Nat.pow_add]
 rw [e1]
 refine Nat.pow_lt_pow_right (by decide) ?_
 have:=Nat.lt_two_pow_self (n:=n)
 rw [ib_up]
 omega
def Tm.ok:Tm→Prop
 | .num i=>IB 0 i
 | .here=>True
 | .part t k=>0≤k∧t.ok
 | .count t=>t.ok
 | .sum t=>t.ok
 | .not t=>t.ok
 | .turned t=>t.ok
 | .same a b=>a.ok∧b.ok
 | .both a b=>a.ok∧b.ok
 | .when a b c=>a.ok∧b.ok∧c.ok
 | .each a b=>a.ok∧b.ok
 | .joined a b=>a.ok∧b.ok
 | .plus a b=>a.ok∧b.ok
 | .times a b=>a.ok∧b.ok
 | .less a b=>a.ok∧b.ok
end L2
namespace L2
open PySem PySem.Spec PyProof.Rows
section
variable {X:Cx} {k:Nat}
end
mutual
def cnt:PyData→Nat
 | .list xs=>YV xs+1
 | .tuple xs=>YV xs
 | .dict _=>0
 | .none=>0
 | .bool _=>0
 | .int _=>0
 | .str _=>0
def YV:List PyData→Nat
 | []=>0
 | d::ds=>cnt d+YV ds
end
def sb:Nat→Nat
 | 0=>60
 | n+1=>4*sb n+11
end L2
namespace L2
open PySem PySem.Spec PyProof.Rows
section
variable {M:Model} {A:Around} {E:Value→Shared→Prop} {s:Shared} {Q:Value→Shared→Prop}
end
section
variable {X:Cx}
end
section
variable {g:Gx} {X:Cx} {k j:Nat} {f c:Str} {ps:List Str} {sp:Sp} {e:Expr} {es:List Expr} {t:TA} {ts:TS} {b₀:Stmt} {suite:List Stmt} {cv:Value} {kk:Nat} {fp cp hpos apos cpos bpos mpos pos:Pos}
end
end L2
set_option maxHeartbeats 4000000
namespace PySem.W
open PySem PySem.Calls PyProof.Rows
section sort
variable {f:Nat→Nat→Bool} {n:Nat}
def KPm (n:Nat) (p:Array Nat):Prop:=p.Perm (List.toArray (List.range n))
theorem KPm.size {p:Array Nat} (h:KPm n p):p.size=n:=by
 have:=h.size_eq
 simpa using this
structure KOrd (f:Nat→Nat→Bool) (n:Nat):Prop where
 asy:∀ i j,i<n→j<n→f i j=true→f j i=false
 tr:∀ i j k,i<n→j<n→k<n→f j i=false→f k j=false→f k i=false
variable (O:KOrd f n) (h0:0<n)
include O h0
end sort
end PySem.W
set_option maxHeartbeats 4000000
namespace L2
open PySem PySem.Spec PyProof.Rows PySem.W
section
variable {prog:Program} {w:World} {A:Around} {E:Value→Shared→Prop} {s:Shared} {f:Nat→Nat→Bool} {κ:SortKind} {vs:List Value}
end
section
variable {X:Cx}
end
end L2
set_option maxHeartbeats 4000000
namespace L2
open PySem PySem.Spec PyProof.Rows
section
variable {X:Cx}
end
section
variable {src:List (Option Nat)} {te:TE} {σ:St} {Q:VK}
end
end L2
set_option maxHeartbeats 4000000
namespace L2
open PySem PySem.Spec PyProof.Rows
section
open PySem.SeqAt
open PySem.AutoSeq1 (wpAny_loadPart')
open PySem.MeetsSeq PySem.MeetsSeq2 PySem.MeetsSeq3
end
end L2
set_option maxHeartbeats 4000000
namespace L2
open PySem PySem.Spec PyProof.Rows
section
open PySem.SeqAt
open PySem.MeetsSeq PySem.MeetsSeq2 PySem.MeetsSeq3
variable {X:Cx}
end
mutual
inductive GD:PyData→Prop
 | int (i:Int):GD (.int i)
 | tup {ds:List PyData}:GDs ds→GD (.tuple ds)
 | lst {ds:List PyData}:GDs ds→GD (.list ds)
inductive GDs:List PyData→Prop
 | nil:GDs []
 | cons {d:PyData} {ds:List PyData}:GD d→GDs ds→GDs (d::ds)
end
mutual
theorem GD.eqv:∀ {d e:PyData},GD d→GD e→(PyData.eqv d e=true↔d=e)
 | _,_,.int i,.int j=>by rw [PyData.eqv];simp
 | _,_,.int i,.tup _=>by rw [PyData.eqv];simp
 | _,_,.int i,.lst _=>by rw [PyData.eqv];simp
 | _,_,.tup _,.int i=>by rw [PyData.eqv];simp
 | _,_,.lst _,.int i=>by rw [PyData.eqv];simp
 | _,_,.tup _,.lst _=>by rw [PyData.eqv];simp
 | _,_,.lst _,.tup _=>by rw [PyData.eqv];simp
 | _,_,.tup h,.tup k=>by rw [PyData.eqv,h.eqv k];simp
 | _,_,.lst h,.lst k=>by rw [PyData.eqv,h.eqv k];simp
theorem GDs.eqv:∀ {ds es:List PyData},GDs ds→GDs es→(PyData.eqvAll ds es=true↔ds=es)
 | _,_,.nil,.nil=>by simp [PyData.eqvAll]
 | _,_,.nil,.cons _ _=>by simp [PyData.eqvAll]
 | _,_,.cons _ _,.nil=>by simp [PyData.eqvAll]
 | _,_,.cons (d:=d) (ds:=ds) h hs,.cons (d:=e) (ds:=es) k ks=>by
  rw [PyData.eqvAll,Bool.and_eq_true,h.eqv k,hs.eqv ks]
  simp
end
mutual
inductive GLt:PyData→PyData→Prop
 | int {i j:Int}:i<j→GLt (.int i) (.int j)
 | it {i:Int} {ds:List PyData}:GLt (.int i) (.tuple ds)
 | il {i:Int} {ds:List PyData}:GLt (.int i) (.list ds)
 | tl {ds es:List PyData}:GLt (.tuple ds) (.list es)
 | tup {ds es:List PyData}:GLs ds es→GLt (.tuple ds) (.tuple es)
 | lst {ds es:List PyData}:GLs ds es→GLt (.list ds) (.list es)
inductive GLs:List PyData→List PyData→Prop
 | nil {e:PyData} {es:List PyData}:GLs [] (e::es)
 | here {d e:PyData} {ds es:List PyData}:GLt d e→GLs (d::ds) (e::es)
 | there {d:PyData} {ds es:List PyData}:GLs ds es→GLs (d::ds) (d::es)
end
mutual
theorem GLt.trans:∀ {a b c:PyData},GLt a b→GLt b c→GLt a c
 | _,_,_,.int h,.int k => .int (by omega)
 | _,_,_,.int h,.it => .it
 | _,_,_,.int h,.il => .il
 | _,_,_,.it,.tup _ => .it
 | _,_,_,.it,.tl => .il
 | _,_,_,.il,.lst _ => .il
 | _,_,_,.tl,.lst _ => .tl
 | _,_,_,.tup h,.tup k => .tup (h.trans k)
 | _,_,_,.tup h,.tl => .tl
 | _,_,_,.lst h,.lst k => .lst (h.trans k)
theorem GLs.trans:∀ {a b c:List PyData},GLs a b→GLs b c→GLs a c
 | _,_,_,.nil,.here _ => .nil
 | _,_,_,.nil,.there _ => .nil
 | _,_,_,.here h,.here k => .here (h.trans k)
 | _,_,_,.here h,.there _ => .here h
 | _,_,_,.there _,.here k => .here k
 | _,_,_,.there h,.there k => .there (h.trans k)
end
end L2
set_option maxHeartbeats 4000000
namespace L2
open PySem PySem.Spec PyProof.Rows PySem.W
section
variable {prog:Program} {w:World} {A:Around} {E:Value→Shared→Prop} {s:Shared} {F:Nat→Nat→Bool} {κ:SortKind} {vs ks:List Value} {f:Value} {J:Shared→Prop} {a kS:Addr}
end
end L2
set_option maxHeartbeats 4000000
namespace L2
open PySem PySem.Spec PyProof.Rows PySem.W
open PySem.SeqAt
section
variable {prog:Program} {w:World} {A:Around} {s:Shared}
end
end L2
set_option maxHeartbeats 4000000
namespace L2
open PySem PySem.Spec PyProof.Rows PySem.W
abbrev gr (q:Int×List PyData):PyData := .tuple (.int q.1::q.2)
open Classical in
noncomputable def gLt (gs:List (Int×List PyData)) (i j:Nat):Bool:=decide (GLt (gr (gs.getD i (0,[]))) (gr (gs.getD j (0,[]))))
section
variable {X:Cx} {g:Gx}
end
end L2
namespace L2
open PySem
end L2
namespace L2
open PySem PySem.Spec PyProof.Rows
def Gx.RawDX (g:Gx) (x qual:Str) (st:Stmt) (ps:List Str) (dvs:List V):Prop:=∃ f fd T ds,FunD g.K x qual st f fd T∧Yl dvs ds∧YA g.K fd ps ds∧YA g.K fd ps []∧g.mg x=some (.ref f)
def Gx.FnDX (g:Gx) (k:Nat) (x:Str) (ps:List Str) (dvs:List V) (sp:Sp):Prop:=∃ f fd ds,FnOk g.P g.w g.K g.mg g.base (CXF g.P g.w) k f fd ps sp∧Yl dvs ds∧YA g.K fd ps ds∧YA g.K fd ps []∧PySem.W.keepIn g.K (.ref f)=true∧g.mg x=some (.ref f)
section
variable {g:Gx} {x qual:Str} {st:Stmt} {N ps:List Str} {dvs:List V} {sp:Sp} {j k:Nat}
theorem Gx.RawDX.fnDX (R:g.RawDX x qual st ps dvs) (S:FnScope N ps (Yd st)) (len:∀ vs H Q E,sp vs H Q E→vs.length=ps.length) (b:Ybl g k N qual st sp):g.FnDX (k+1) x ps dvs sp:=by
 obtain ⟨f,fd,T,ds,F,hv,bd,b0,hm⟩:=R
 refine ⟨f,fd,ds,?_,hv,bd,b0,F.kp,hm⟩
 obtain ⟨oc,od,kV,doc,pm,an,cdv,ct,osl,rfl,lk,hcd⟩:=F.ex
 exact VQ lk hcd S len fun A outer s H vs Q E hr hsp=>b f cdv A outer s H vs Q E hr hsp
theorem Gx.FnDX.mono (F:g.FnDX j x ps dvs sp) (h:j≤k):g.FnDX k x ps dvs sp:=by
 obtain ⟨f,fd,ds,F,r⟩:=F
 exact ⟨f,fd,ds,F.mono h,r⟩
theorem Gx.FnDX.full (F:g.FnDX k x ps dvs sp):g.FnX k x ps sp:=by
 obtain ⟨f,fd,ds,F,_,_,b,kp,hm⟩:=F
 exact ⟨f,fd,F,b,kp,hm⟩
end
theorem Uj {K:PySem.W.Frag} {h:Heap} {mg:Str→Option Value} {f T:Addr} {x:Str} {st:Stmt} {oc kV dc pm cd ct:Value} {od an:Option Addr} {sl:Array (Option Value)} {o:Obj} {items:Array Value} {n:Nat} (X:K.In h) (G:h.Ns mainGlobals mg) (ps:List Str) (dvs:List V) (nb:Nat)
  (a:PySem.W.nsIn K mainGlobals x=some (some (.ref f))) (l:K.lookup f=some ⟨oc,od,.func (PySem.W.fnOf x x (Yx st) (Yr st) (Yd st) (.ref T) kV dc pm an cd ct),sl⟩) (c:PySem.W.codeIn K cd x=true) (k:PySem.W.keepIn K (.ref f)=true)
  (t:K.lookup T=some o) (s:o.data = .seq items n) (v:Yl dvs items.toList) (e:nb+items.toList.length=ps.length)
  (b:∀ (us:List Value),us.length=nb→∃ kk,bindArgs (PySem.W.fnOf x x (Yx st) (Yr st) (Yd st) (.ref T) kV dc pm an cd ct) ⟨us,[]⟩=seqItems? (.ref T) >>= kk∧kk (some items)=pure (ps.zip (us++items.toList)))
  (b0:∀ (us:List Value),us.length=ps.length→∃ kk,bindArgs (PySem.W.fnOf x x (Yx st) (Yr st) (Yd st) (.ref T) kV dc pm an cd ct) ⟨us,[]⟩=seqItems? (.ref T) >>= kk∧kk (some items)=pure (ps.zip us)) :
  ∀ P w base,(Gx.mk P w K mg base).RawDX x x st ps dvs:=fun P w base =>
 ⟨f,_,T,items.toList,⟨⟨oc,od,kV,dc,pm,an,cd,ct,sl,rfl,l,c⟩,k⟩,v,fun s' us hK hl=>by
  have hn:us.length=nb:=by rw [List.length_append] at hl;omega
  obtain ⟨kk,h1,h2⟩:=b us hn
  exact PySem.W.binds_K hK rfl t s h1 h2,fun s' us hK hl=>by
  rw [List.append_nil] at hl ⊢
  obtain ⟨kk,h1,h2⟩:=b0 us hl
  exact PySem.W.binds_K hK rfl t s h1 h2,PySem.W.mg_of X G a⟩
abbrev TBd:=(St→Hp→Prop)→XK→St→Hp→Prop
def PB (X:Cx) (b:List Stmt) (t:TBd):Prop:=∀ (pins:List (Addr×Obj)) (s:Shared) (σ:St) (H:Hp) (nx:St→Hp→Prop) (E:XK) (xh:Value→Shared→Prop) (Qn:Flow→Shared→Prop),Inv X pins σ H s →
 (∀ H1 s1 e s',Inv X pins σ H1 s1→CXF X.prog X.w X.stack H1 s1 E e s'→xh e s')→(∀ σ' H' s',Inv X pins σ' H' s'→nx σ' H'→Qn .next s')→t nx E σ H→wpAny (model X.prog X.w) X.A (execs b X.env) Qn xh s
def tBif (c:TT) (t u:TBd):TBd:=fun nx E σ H=>c σ H fun b H1=>if b=true then t nx E σ H1 else u nx E σ H1
def Uk (sp:Sp) (dvs:List V) (t:TA) (i:Nat):TBd:=fun nx E σ H=>t σ H fun vs H1=>sp (vs++dvs) H1 (fun v H2=>nx (σ.set i (some v)) H2) E
def Ybp (K:PySem.W.Frag) (cv:Value) (t:TBd) (j:Nat) (ts:TS):TS:=fun D σ H=>t D.nx (fun cls dc H2=>PySem.W.exmOne K cls cv=some true∧∀ a,H2 a=none→ts (D.gone j) (σ.set j (some (.ref a))) (upd H2 a (Xe a cls dc))) σ H
section
variable {g:Gx} {X:Cx} {k jj i j:Nat} {x f c n:Str} {ps:List Str} {dvs:List V} {sp:Sp} {e:Expr} {es:List Expr} {t:TA} {ts:TS} {b₀:Stmt} {suite body:List Stmt} {cv:Value} {fp px cp hpos apos cpos pos:Pos}
theorem QG {ce:Expr} {a b:List Stmt} {tc:TT} {ta tb:TBd} (hc:PT X.nox ce tc) (ha:PB X a ta) (hb:PB X b tb):PB X [.If ce a b pos] (tBif tc ta tb):=by
 intro pins s σ H nx E xh Qn I hx hn h
 refine wpAny_execs_cons ?_
 refine wpAny_If (wpAny_mono (hc pins s σ H _ (I.wish _) h) (fun d s1 ⟨H1,I1,q1⟩=>?_) fun _ _ z=>z.elim)
 have I1:=I1.unwish
 cases d with
 | true=>exact ha pins s1 σ H1 nx E xh _ I1 hx (fun σ' H' s' I' q'=>wpAny_execs_nil (hn σ' H' s' I' q')) q1
 | false=>exact hb pins s1 σ H1 nx E xh _ I1 hx (fun σ' H' s' I' q'=>wpAny_execs_nil (hn σ' H' s' I' q')) q1
theorem Yam {fa:Addr} {fd:FuncData} {ds:List Value} {Q:VK} {E:XK} {pins:List (Addr×Obj)} {σ:St} {H:Hp} {s:Shared} {xh:Value→Shared→Prop} (F:FnOk X.prog X.w X.K X.mg X.base (CXF X.prog X.w) jj fa fd ps sp) (hv:Yl dvs ds) (b:YA X.K fd ps ds) (kp:PySem.W.keepIn X.K (.ref fa)=true) (hm:X.mg f=some (.ref fa)) (hr:Room k X.A) (ha:PA X.nox (e::es) t) (hjk:jj≤k) (hg:Gl X f) (hdf:(f==("__debug__":Str))=false)
  (he:starEach (e::es) X.env=(false,eval e X.env)::starEach es X.env) (hpl:(backTo cpos (starEach es X.env)).any (·.1)=false) (I:Inv X pins σ H s) (hx:∀ H1 s1 e s',Inv X pins σ H1 s1→CXF X.prog X.w X.stack H1 s1 E e s'→xh e s') (h:t σ H fun vs H1=>sp (vs++dvs) H1 Q E) :
  wpAny (model X.prog X.w) X.A (eval (.Call (.Name f fp) (e::es) [] cpos) X.env) (EP X pins σ Q) xh s:=by
 refine wpAny_Call_Name_kw (Xk I hg hm ?_ hdf)
 refine PySem.W.callWith_K (h₀:=X.base) I.ok.mod.kin kp (wpAny_mono (ha cpos pins s σ H _ (I.wish _) h) (fun us s1 hz=>?_) fun _ _ z=>z.elim) he hpl
 obtain ⟨vs,H1,I1,r,q⟩:=hz
 have I1:=I1.unwish
 refine ⟨I1.kIn,?_⟩
 have r2:Yl (vs++dvs) (us++ds):=r.append hv
 have hl:(us++ds).length=ps.length:=by rw [← r2.length];exact F.len _ _ _ _ q
 refine wpAny_call (codeAny_mono (F.run X.A X.stack s1 H1 ⟨us,[]⟩ (us++ds) (vs++dvs) _ _ (hr.mono hjk) I1.env0 (b s1 us I1.kIn hl) r2 q) fun r s' hq=>?_)
 cases r with
 | error e=>exact hx H1 s1 e s' I1 hq
 | ok fl =>
  cases fl with
  | ret u=>exact I1.after hq
  | next=>exact False.elim hq
  | brk=>exact False.elim hq
  | cont=>exact False.elim hq
theorem U6 (F:g.FnX jj f ps sp) (hr:Room k X.A) (hN:X.N.Nodup) (hi:X.N[i]?=some x) (hx:Loc X.env.scope x) (ha:PA X.nox (e::es) t) (hjk:jj≤k) (hX:X.gx=g) (hg:Gl X f) (hdf:(f==("__debug__":Str))=false)
  (he:starEach (e::es) X.env=(false,eval e X.env)::starEach es X.env) (hpl:(backTo cpos (starEach es X.env)).any (·.1)=false) (hsw:swapsWith (.Call (.Name f fp) (e::es) [] cpos) (some (.Name x px)) apos.line X.env=pure false) (hfn:X.fn x=true∨X.env.scope.names.lookup x=some .local) :
  PB X [.Assign [.Name x px] (.Call (.Name f fp) (e::es) [] cpos) apos] (Uk sp [] t i):=by
 subst hX
 obtain ⟨fa,fd,F,b,kp,hm⟩:=F
 intro pins s σ H nx E xh Qn I hxx hn h
 refine wpAny_execs_cons ?_
 refine wpAny_Assign_Name (thn (Yam (Q:=fun v H2=>nx (σ.set i (some v)) H2) F .nil b kp hm hr ha hjk hg hdf he hpl I hxx h) fun v s1 hz=>?_) hsw
 obtain ⟨y,H1,I1,r1,q1⟩:=hz
 exact Xt I1 hN hi hx r1 (fun s2 I2=>wpAny_execs_nil (hn _ H1 s2 I2 q1)) hfn
theorem Ul (F:g.FnDX jj f ps dvs sp) (hr:Room k X.A) (hN:X.N.Nodup) (hi:X.N[i]?=some x) (hx:Loc X.env.scope x) (ha:PA X.nox (e::es) t) (hjk:jj≤k) (hX:X.gx=g) (hg:Gl X f) (hdf:(f==("__debug__":Str))=false)
  (he:starEach (e::es) X.env=(false,eval e X.env)::starEach es X.env) (hpl:(backTo cpos (starEach es X.env)).any (·.1)=false) (hsw:swapsWith (.Call (.Name f fp) (e::es) [] cpos) (some (.Name x px)) apos.line X.env=pure false) (hfn:X.fn x=true∨X.env.scope.names.lookup x=some .local) :
  PB X [.Assign [.Name x px] (.Call (.Name f fp) (e::es) [] cpos) apos] (Uk sp dvs t i):=by
 subst hX
 obtain ⟨fa,fd,ds,F,hv,b,_,kp,hm⟩:=F
 intro pins s σ H nx E xh Qn I hxx hn h
 refine wpAny_execs_cons ?_
 refine wpAny_Assign_Name (thn (Yam (Q:=fun v H2=>nx (σ.set i (some v)) H2) F hv b kp hm hr ha hjk hg hdf he hpl I hxx h) fun v s1 hz=>?_) hsw
 obtain ⟨y,H1,I1,r1,q1⟩:=hz
 exact Xt I1 hN hi hx r1 (fun s2 I2=>wpAny_execs_nil (hn _ H1 s2 I2 q1)) hfn
theorem Yb1 {tb:TBd} (hb:PB X body tb) (hN:X.N.Nodup) (hj:X.N[j]?=some n) (hk:X.env.scope.names.lookup n=some .local) (hcm:g.mg c=some cv) (hsu:∀ a,PSs (X.caught a) (b₀::suite) ts)
  (hX:X.gx=g) (hs:X.stack=X.env::X.outer) (hf:X.env.frame=some X.env.locals) (hc:Gl X c) (hdb:(c==("__debug__":Str))=false) :
  PS X (.Try body [.ExceptHandler (some (.Name c cp)) (some n) (b₀::suite) hpos] [] [] pos) (Ybp X.K cv tb j ts):=by
 subst hX
 intro pins s σ H D I h
 refine wpAny_Try_except ?_
 exact hb pins s σ H D.nx _ _ _ I (fun H1 s1 e s' I1 hq=>I1.catchAs hs hf hN hj hk hq hsu hc hcm hdb) (fun σ' H' s' I' q=>wpAny_execs_nil ⟨σ',H',I',q⟩) h
end
theorem YaW {P:Program} {w:World} {K:PySem.W.Frag} {mg:Str→Option Value} {base:Heap} {k:Nat} {f c:Addr} {name qual:Str} {params:Arguments} {body:List Stmt} {scope:Scope} {doc pm ctv:Value} {N ps:List Str} {l:Yn} {sp:List V→Hp→VK→Prop}
  (S:ClScope N ps (l.map (·.1)) scope) (hnd:l.as.Nodup) (len:∀ vs H Q,sp vs H Q→vs.length=ps.length)
  (hbody:∀ (A:Around) (outer:List Env) (s:Shared) (H:Hp) (vs:List V) (Q:VK),Room k (A.deeper (PySem.W.envX qual scope s.heap.objs.size f (.ref c) l.cl))→sp vs H Q →
   ∃ t,PSs (Qz P w K mg base N qual scope f (.ref c) l.cl A outer s H) body t∧t { nx:=fun _ H'=>Q .non H',rt:=Q } (Vd N vs l.vs) H) :
  FnOk P w K mg base CX0 (k+1) f (PySem.W.fnX name qual params body scope l.cl .none .none doc pm none (.ref c) ctv) ps
   (fun vs H Q _=>ClZ H f c (PySem.W.fnX name qual params body scope l.cl .none .none doc pm none (.ref c) ctv) qual l∧sp vs (off H l.as) fun v H'=>(∀ c∈l.as,H' c=none)→Q v (on H' H l.as)):=by
 refine ⟨fun vs H Q E h=>len _ _ _ h.2,fun A outer s H args us vs Q E hr e0 hb r hsp=>?_⟩
 obtain ⟨⟨hf,hc,hin⟩,hsp⟩:=hsp
 have hl:=len _ _ _ hsp
 have lim:s.heap.NoLimit:=e0.mod.nolimit.keeps fun b o e=>(e0.bs b o e).1
 have hfo:=(e0.hok _ _ hf).1
 have hco:s.heap.CodeRec (.ref c) qual:=(e0.hok _ _ hc).1
 refine codeAny_call_function hr.depth hfo rfl S.co S.gen rfl hco (hb _ _ _ _ ?_)
 refine wpAny_newFunctionEnv S.nocell (fun y hy=>S.par y.1 (List.of_mem_zip hy).1) (fun h₁ hns hsb=>?_) S.kind
 have hk₁:∀ b o,s.heap.get? b=some o→h₁.get? b=some o:=fun b o e=>hsb.extBut b o (Nat.ne_of_lt (Heap.lt_size e)) (Heap.get?_push_of_some _ e)
 refine ⟨lim.keeps hk₁,codeAny_func ?_⟩
 obtain ⟨t,ht,hq⟩:=hbody A outer s (off H l.as) vs _ (hr.deeper _) hsp
 have zc:∀ b∈l.as,∃ o u,H b=some (.frz o u):=fun b hm=>by
  obtain ⟨p,hp,rfl⟩:=XI hm
  obtain ⟨o,z⟩:=hin p hp
  exact ⟨o,_,z⟩
 have I:=QA (cd := .ref c) (qual:=qual) (f:=f) (tk:=s.toks+(ps.zip us).length) S hnd hr.hd e0 hl r (fun p hp=>by
  obtain ⟨o,z⟩:=hin p hp
  exact (e0.hok _ _ z).2.1) (WZ e0.hok zc) hns hk₁
 have lk:=Uf (l:=l) (by rw [← S.suf];exact S.nd.sublist (List.drop_sublist _ _))
 refine wpAny_mono (ht [] _ _ _ _ I hq) (fun fl s' hs=>?_) fun e s' hs=>hs.elim
 cases fl with
 | ret u =>
  obtain ⟨v,σ',H',J,rv,q⟩:=hs
  exact Yaj e0 hin J lk rv q
 | next =>
  obtain ⟨σ',H',J,q⟩:=hs
  exact Yaj (v:=V.non) (u:=Value.none) e0 hin J lk rfl q
 | brk =>
  obtain ⟨_,_,_,q⟩:=hs
  exact False.elim q
 | cont =>
  obtain ⟨_,_,_,q⟩:=hs
  exact False.elim q
theorem FnOk.toF {P:Program} {w:World} {K:PySem.W.Frag} {mg:Str→Option Value} {base:Heap} {k:Nat} {f:Addr} {fd:FuncData} {ps:List Str} {sp:Sp} (F:FnOk P w K mg base CX0 k f fd ps sp):FnOk P w K mg base (CXF P w) k f fd ps sp :=
 ⟨F.len,fun A outer s H args us vs Q E hr e0 hb r hsp=>codeAny_mono (F.run A outer s H args us vs Q E hr e0 hb r hsp) fun r s' hq=>by
  cases r with
  | error e=>exact False.elim hq
  | ok fl=>cases fl<;>exact hq⟩
theorem Gx.Fn.toF {g:Gx} {k:Nat} {x:Str} {ps:List Str} {sp:Sp} (F:g.Fn k x ps sp):g.FnX k x ps sp:=by
 obtain ⟨f,fd,F,r⟩:=F
 exact ⟨f,fd,F.toF,r⟩
end L2
set_option maxHeartbeats 8000000
namespace KW
open PySem L2
def top (i:Nat):Stmt:=PySem.Challenge.pw_countgen_k41_too_many.main.body.getD i (.Pass ⟨0,0,0,0⟩)
abbrev W0:Stmt:=top 2
theorem Yan:FnScope ["thing"] ["thing"] (Yd W0):=⟨rfl,rfl,rfl,by decide +kernel,rfl,by decide +kernel,by decide +kernel⟩
abbrev Z08:Stmt:=top 36
theorem Z1A:FnScope ["size"] ["size"] (Yd Z08):=⟨rfl,rfl,rfl,by decide +kernel,rfl,by decide +kernel,by decide +kernel⟩
abbrev Z0t:Stmt:=top 47
theorem Um:FnScope ["book","shape"] ["book","shape"] (Yd Z0t):=⟨rfl,rfl,rfl,by decide +kernel,rfl,by decide +kernel,by decide +kernel⟩
abbrev Z00:Stmt:=top 49
theorem Z1i:FnScope ["count","most"] ["count","most"] (Yd Z00):=⟨rfl,rfl,rfl,by decide +kernel,rfl,by decide +kernel,by decide +kernel⟩
abbrev Z11:Stmt:=top 50
theorem UH:FnScope ["maker","size"] ["maker","size"] (Yd Z11):=⟨rfl,rfl,rfl,by decide +kernel,rfl,by decide +kernel,by decide +kernel⟩
abbrev Z0n:Stmt:=top 51
theorem Z1d:FnScope ["book","shape","size","most","maker"] ["book","shape","size","most"] (Yd Z0n):=⟨rfl,rfl,rfl,by decide +kernel,rfl,by decide +kernel,by decide +kernel⟩
abbrev Vq:Stmt:=top 52
theorem YaX:FnScope ["judge","value"] ["judge","value"] (Yd Vq):=⟨rfl,rfl,rfl,by decide +kernel,rfl,by decide +kernel,by decide +kernel⟩
abbrev W1:Stmt:=top 53
theorem Yao:FnScope ["book","shape","size","judge","most"] ["book","shape","size","judge","most"] (Yd W1):=⟨rfl,rfl,rfl,by decide +kernel,rfl,by decide +kernel,by decide +kernel⟩
abbrev Z0u:Stmt:=top 55
theorem Uo:FnScope ["_law_found"] ["_law_found"] (Yd Z0u):=⟨rfl,rfl,rfl,by decide +kernel,rfl,by decide +kernel,by decide +kernel⟩
abbrev Z0j:Stmt:=top 56
theorem Z1W:FnScope ["_law_script","_law_k"] ["_law_script","_law_k"] (Yd Z0j):=⟨rfl,rfl,rfl,by decide +kernel,rfl,by decide +kernel,by decide +kernel⟩
abbrev Z0v:Stmt:=top 57
theorem Up:FnScope ["_law_e"] ["_law_e"] (Yd Z0v):=⟨rfl,rfl,rfl,by decide +kernel,rfl,by decide +kernel,by decide +kernel⟩
abbrev ZU:Stmt:=top 58
theorem Zz:FnScope ["_law_span","_law_size","_law_first","_law_k"] ["_law_span","_law_size"] (Yd ZU):=⟨rfl,rfl,rfl,by decide +kernel,rfl,by decide +kernel,by decide +kernel⟩
abbrev Z12:Stmt:=top 59
theorem ZA:FnScope ["_law_shape","_law_size","_law_most_here","_law_judge","_law_found","_law_e"] ["_law_shape","_law_size","_law_most_here","_law_judge"] (Yd Z12):=⟨rfl,rfl,rfl,by decide +kernel,rfl,by decide +kernel,by decide +kernel⟩
abbrev Z0i:Stmt:=top 60
theorem Zy:FnScope ["_law_shape","_law_size","_law_most_here","_law_many","_law_notes","_law_judge","_law_bound","_law_due"] ["_law_shape","_law_size","_law_most_here","_law_many"] (Yd Z0i):=⟨rfl,rfl,rfl,by decide +kernel,rfl,by decide +kernel,by decide +kernel⟩
abbrev Z13:Stmt:=top 61
theorem UI:FnScope ["_law_cell","_law_many"] ["_law_cell","_law_many"] (Yd Z13):=⟨rfl,rfl,rfl,by decide +kernel,rfl,by decide +kernel,by decide +kernel⟩
abbrev VX:Stmt:=top 62
theorem Xs:FnScope ["_law_script","_law_cell","_law_span","_law_size","_law_low","_law_many","_law_letters","_law_signs"] ["_law_script"] (Yd VX):=⟨rfl,rfl,rfl,by decide +kernel,rfl,by decide +kernel,by decide +kernel⟩
abbrev Z01:Stmt:=YQ (top 46) 0
theorem Z1j:FnScope ["self","book"] ["self","book"] (Yd Z01):=⟨rfl,rfl,rfl,by decide +kernel,rfl,by decide +kernel,by decide +kernel⟩
abbrev Z02:Stmt:=YQ (top 46) 1
theorem Z1k:FnScope ["self","shape"] ["self","shape"] (Yd Z02):=⟨rfl,rfl,rfl,by decide +kernel,rfl,by decide +kernel,by decide +kernel⟩
abbrev ZV:Stmt:=YQ (top 46) 3
theorem Z0h:FnScope ["self","shape","kind","parts"] ["self","shape"] (Yd ZV):=⟨rfl,rfl,rfl,by decide +kernel,rfl,by decide +kernel,by decide +kernel⟩
abbrev ZB:Stmt:=YQ (top 37) 0
theorem Z0w:FnScope ["self","low","high"] ["self","low","high"] (Yd ZB):=⟨rfl,rfl,rfl,by decide +kernel,rfl,by decide +kernel,by decide +kernel⟩
abbrev ZC:Stmt:=YQ (top 37) 1
theorem Z06:FnScope ["self","size","greatest"] ["self","size"] (Yd ZC):=⟨rfl,rfl,rfl,by decide +kernel,rfl,by decide +kernel,by decide +kernel⟩
abbrev ZD:Stmt:=YQ (top 37) 2
theorem Z0x:FnScope ["self","size","number"] ["self","size","number"] (Yd ZD):=⟨rfl,rfl,rfl,by decide +kernel,rfl,by decide +kernel,by decide +kernel⟩
abbrev ZN:Stmt:=YQ (top 38) 0
theorem Z0N:FnScope ["self","signs"] ["self","signs"] (Yd ZN):=⟨rfl,rfl,rfl,by decide +kernel,rfl,by decide +kernel,by decide +kernel⟩
abbrev ZO:Stmt:=YQ (top 38) 1
theorem Z0O:FnScope ["self","size"] ["self","size"] (Yd ZO):=⟨rfl,rfl,rfl,by decide +kernel,rfl,by decide +kernel,by decide +kernel⟩
abbrev ZP:Stmt:=YQ (top 38) 2
theorem Zv:FnScope ["self","size","number","found","left","each"] ["self","size","number"] (Yd ZP):=⟨rfl,rfl,rfl,by decide +kernel,rfl,by decide +kernel,by decide +kernel⟩
abbrev Z09:Stmt:=YQ (top 35) 0
theorem Z1B:FnScope ["self"] ["self"] (Yd Z09):=⟨rfl,rfl,rfl,by decide +kernel,rfl,by decide +kernel,by decide +kernel⟩
abbrev ZE:Stmt:=YQ (top 35) 1
theorem Z0y:FnScope ["self","size"] ["self","size"] (Yd ZE):=⟨rfl,rfl,rfl,by decide +kernel,rfl,by decide +kernel,by decide +kernel⟩
abbrev ZQ:Stmt:=YQ (top 35) 1
theorem Z0P:FnScope ["self","size"] ["self","size"] (Yd ZQ):=⟨rfl,rfl,rfl,by decide +kernel,rfl,by decide +kernel,by decide +kernel⟩
abbrev ZW:Stmt:=YQ (top 14) 0
theorem Z1e:FnScope ["self","count","most"] ["self","count","most"] (Yd ZW):=⟨rfl,rfl,rfl,by decide +kernel,rfl,by decide +kernel,by decide +kernel⟩
theorem Z1f {g:Gx} {C B:Addr} (R:g.RawX "TooMany" C "TooMany.__init__" ZW ["self","count","most"]) (b:BInit g "CountError" B) (xf:ExFl g.K C B) (xn_count:PySem.W.findIn g.K (.ref C) "count"=some none) (xn_most:PySem.W.findIn g.K (.ref C) "most"=some none):g.MaX "TooMany" C ["self","count","most"] ["count","most"]:=by
 refine R.maX Z1e (fun vs H Q E h=>YbZ h) fun f_ cdv A outer s H vs Q E hr h=>?_
 refine ⟨_,Yf (Xd (YaS b R.own (Ya (pv 0) (Ya Xf Yc)))) (Yf (U2 xf xn_count (pv 0) (pv 1)) (Yh (U2 xf xn_most (pv 0) (pv 2)))),?_⟩
 exact spI_2 h
abbrev Zx:Stmt:=inDef Z0i 1
theorem Z0r:ClScope ["_law_value","_law_notes"] ["_law_value"] ["_law_notes"] (Yd Zx):=⟨rfl,rfl,rfl,by decide +kernel,rfl,rfl,by decide,by decide +kernel,by decide +kernel,by decide +kernel,by decide +kernel⟩
abbrev Zp:Str:="_law_right.<locals>._law_judge"
theorem XZ:((("_law_right":Str)++(".<locals>.":Str))++("_law_judge":Str))=Zp:=by decide +kernel
abbrev Zq (cl:List (Str×Addr)) (c:Addr) (doc pm ctv:Value):FuncData:=PySem.W.fnX "_law_judge" Zp (Yx Zx) (Yr Zx) (Yd Zx) cl .none .none doc pm none (.ref c) ctv
variable {g:Gx}
local macro_rules | `(tactic| walk_at "rd")=>`(tactic| simp (config:={ failIfUnchanged:=false,maxSteps:=10000000 }) only [L2.YY,Ycp,nox_K,List.map_cons,List.map_nil,List.length_cons,List.length_nil,List.cons_append,List.nil_append,List.replicate_succ,List.replicate_zero,Nat.zero_add,Nat.reduceAdd,Nat.reduceSub,Nat.sub_self,Y9,tIfS,Ya9,tOp,tC,Wq,rI0,rI,rU,tUn,tRet,tRetN,Qb,Ya6,Ycf,tCont,tAsg,Xi,gNil,gCons,VP,tNil,tCB,WQ,tTry,Ycw,Ycv,sFld,tFld,Qo,Qm,Ends.gone,YaI,tB,tAnd,tOr,tNot,Ya4,tOrV,Ya5,tIf,Ycj,UP,Ybb,tSl,QQ,tAug,rIxL,rIxT,rSlL,tLst,tTup,gTup,tRev,tLZ,tConT,Yct,Q3,Ybf,Ybg,UW,rInD,UX,YbU,rBits,rFind,rIn,tBM,tBM0,US,V5,rEq,rNe,YbQ,X9,rCat,rSetL,gSub,ipI,YW,List.getD_cons_zero,List.getD_cons_succ,decide_true,not_true_eq_false,not_false_eq_true,
 exists_eq_left',exists_eq_left,exists_eq',exists_eq,exists_and_left,and_assoc,Option.some.injEq,V.int.injEq,V.bl.injEq,V.ref.injEq,V.str.injEq,List.getElem?_cons_zero,List.getElem?_cons_succ,List.set_cons_zero,List.set_cons_succ,List.cons.injEq,and_true,true_and,List.append_nil,decide_eq_true_eq,Bool.not_eq_true',decide_eq_false_iff_not,Bool.not_not,Bool.not_true,Bool.not_false,Bool.true_eq_false,Bool.false_eq_true,if_true,if_false,ite_true,ite_false])
theorem cm {i j:Int} {m n:Nat} (h1:i.natAbs<2^m) (h2:j.natAbs<2^n) (h:m+n≤100000000:=by decide):VV i j:=⟨m,n,h1,h2,h⟩
theorem cpow {i j:Int} (h:0≤j∧j≤1000000∧i.natAbs<2^64:=by decide):CPow i j:=h
theorem few {n:Nat} (h:n≤100000):n≤sizeLine:=Nat.le_trans h (by decide)
def Z1l:Sp:=fun vs H Q _=>∃ i:Int,vs=[.int i]∧Q (.bl true) H
def Z0Q (K:PySem.W.Frag):Sp:=fun vs H Q _=>∃ (a:Addr) (ns:List Int) (k:Nat),vs=[.ref a,.int k]∧SqL K H a (ns.map V.int)∧ns.length≤63∧Q (.int (ns.getD k 0)) H
theorem Yb2 {ns:List Int} {k:Nat} (h:k<ns.length):atI (ns.map V.int) (k:Int)=some (.int (ns.getD k 0)):=Vj (by rw [List.getElem?_map,List.getElem?_eq_getElem h];simp [h])
theorem Uq {Z3 Zb Z8 Zf Z9 Zc Z5 Zd Z6 Za Ze Z7 Z2 Z4 Z1 Z0:Addr} {c_law_right P_law_right:Addr} (R:g.Raw "_law_whole" "_law_whole" Z0u ["_law_found"]) (b_bool:g.mg "bool"=none) (b_int:g.mg "int"=none) (Zl:g.mg "isinstance"=none):g.FnM (1) "_law_whole" ["_law_found"] (Z1l):=by
 refine R.fnM Uo (fun vs H Q E h=>by obtain ⟨i,rfl,q⟩:=h;rfl) fun f_ cdv A outer s H vs Q E hr h=>?_
 obtain ⟨i,rfl,q⟩:=h
 refine ⟨_,(@Yh _ _ _ (@Yo _ _ _ _ (@V0 _ _ _ _ _ _ _ (@Yv _ _ _ _ _ _ _ _ _ _ Zl Y6 (@Ya _ _ _ _ _ (pv 0) (@Ya _ _ _ _ _ (@Wk _ _ _ _ ("int") b_int (by decide +kernel) (by rfl) (by rfl) (by decide) (by decide)) Yc (by rfl)) (by rfl)) (by decide +kernel) (by rfl) (by rfl) (by decide) (by decide) (by rfl) (by rfl)) (@VZ _ _ _ _ _ (@Yce _ _ _ _ (@Yv _ _ _ _ _ _ _ _ _ _ Zl Y6 (@Ya _ _ _ _ _ (pv 0) (@Ya _ _ _ _ _ (@Wk _ _ _ _ ("bool") b_bool (by decide +kernel) (by rfl) (by rfl) (by decide) (by decide)) Yc (by rfl)) (by rfl)) (by decide +kernel) (by rfl) (by rfl) (by decide) (by decide) (by rfl) (by rfl))))))),?_⟩
 walk_at "rd"
 exact ⟨_,rfl,_,.int _,true,rfl,iteT ⟨_,rfl,_,.int _,false,rfl,q⟩⟩
theorem Z1X {Z3 Zb Z8 Zf Z9 Zc Z5 Zd Z6 Za Ze Z7 Z2 Z4 Z1 Z0:Addr} {c_law_right P_law_right:Addr} (R:g.Raw "_law_cell_at" "_law_cell_at" Z0j ["_law_script","_law_k"]) (b_len:g.mg "len"=none):g.Fn (1) "_law_cell_at" ["_law_script","_law_k"] (Z0Q g.K):=by
 refine R.fn Z1W (fun vs H Q E h=>by obtain ⟨a,ns,k,rfl,hS,hl,q⟩:=h;rfl) fun f_ cdv A outer s H vs Q E hr h=>?_
 obtain ⟨a,ns,k,rfl,hS,hl,q⟩:=h
 refine ⟨_,(@Yf _ _ _ _ _ (@YK _ _ _ _ _ _ _ _ (@Yz _ _ _ _ _ _ _ _ op_lt (pv 1) (@Yv _ _ _ _ _ _ _ _ _ _ b_len Y0 (@Ya _ _ _ _ _ (pv 0) Yc (by rfl)) (by decide +kernel) (by rfl) (by rfl) (by decide) (by decide) (by rfl) (by rfl)) (YC _)) (@Yh _ _ _ (@Yo _ _ _ _ (@Xo _ _ _ _ _ _ _ X7 (pv 0) (pv 1) (fun _ _=>rfl)))) Yy) (@Yh _ _ _ (@Yo _ _ _ _ Yi))),?_⟩
 walk_at "rd"
 refine ⟨_,.inl hS,?_⟩
 refine WA (fun c=>?_) (fun c=>?_)
 ·have c':=c
  rw [List.length_map] at c'
  exact ⟨_,hS,_,Yb2 (by omega),q⟩
 ·have c':=c
  rw [List.length_map] at c'
  rw [show ns.getD k 0=0 by simp [show ns.length≤k by omega]] at q
  exact q
def SameBut (p:Addr) (H H':Hp):Prop:=∀ q o,q≠p→H q=some o→H' q=some o
theorem SameBut.refl (p:Addr) (H:Hp):SameBut p H H:=fun _ _ _ h=>h
theorem SameBut.trans {p:Addr} {H H1 H2:Hp} (a:SameBut p H H1) (b:SameBut p H1 H2):SameBut p H H2:=fun q o n h=>b q o n (a q o n h)
theorem Yj.but {p:Addr} {H H':Hp} (a:Yj H H'):SameBut p H H':=fun q o _ h=>a q o h
theorem SameBut.upd {p:Addr} {H H':Hp} (a:SameBut p H H') (o:HO):SameBut p H (upd H' p o):=fun q u n h=>by rw [Yb n];exact a q u n h
theorem SameBut.new {p:Addr} {H0 H H':Hp} (a:SameBut p H H') (s:Yj H0 H) (n:H0 p=none):Yj H0 H':=fun q o h=>a q o (Yg h n) (s q o h)
inductive Sh | w (lo:Int) (span:Nat) | t (sg:List Nat)
def wc (span:Int) (k:Nat):Int:=if (if (1*2^k - 1:Int)<span then (1*2^k - 1:Int) else span) - 1*2^k / 2^1+1>0 then (if (1*2^k - 1:Int)<span then (1*2^k - 1:Int) else span) - 1*2^k / 2^1+1 else 0
def cnt:Sh→Nat→Int
 | .w _ span,k=>wc span k
 | .t sg,k=>(sg.length:Int)^k
def Sh.ok:Sh→Prop
 | .w _ _=>True
 | .t sg=>sg.length≤62
def mf (cl:Addr):Sh→List (Str×V)
 | .w lo span=>[("counts",.ref cl),("low",.int lo),("span",.int span)]
 | .t sg=>[("counts",.ref cl),("signs",.str (S sg))]
def mC (CW CT:Addr):Sh→Addr
 | .w _ _=>CW
 | .t _=>CT
def shV:Sh→List V
 | .w lo span=>[.str "whole",.int lo,.int (lo+span)]
 | .t sg=>[.str "text",.str (S sg)]
def WJ (H:Hp) (a:Addr) (sh:Sh):Prop:=H a=some (.tup (shV sh))
def YV (f:Nat→Int) (n:Nat):List V:=(List.range n).map fun k=>V.int (f k)
theorem Xy (f:Nat→Int) (n:Nat):(YV f n).length=n:=by simp [YV]
theorem VE (f:Nat→Int) (n:Nat):YV f (n+1)=YV f n++[.int (f n)]:=by simp [YV,List.range_succ]
theorem U7 (f:Nat→Int) {n i:Nat} (h:i<n):atI (YV f n) (i:Int)=some (.int (f i)):=Vj (by simp [YV,h])
def Vg (CW CT:Addr) (H:Hp) (p:Addr) (sh:Sh) (cl:Addr) (n:Nat):Prop:=∃ dx,H p=some (.ins (mC CW CT sh) dx (mf cl sh))∧H cl=some (.lst (YV (cnt sh) n))
theorem ncl:¬ (("counts":Str)="low"):=by decide +kernel
theorem ncs:¬ (("counts":Str)="span"):=by decide +kernel
theorem nls:¬ (("low":Str)="span"):=by decide +kernel
theorem ncg:¬ (("counts":Str)="signs"):=by decide +kernel
theorem mfw (cl:Addr) (lo:Int) (span:V):YF "span" span (YF "low" (.int lo) (YF "counts" (.ref cl) []))=([("counts",.ref cl),("low",.int lo),("span",span)]:List (Str×V)):=by
 simp only [YF,if_neg ncl,if_neg ncs,if_neg nls]
theorem mft (cl:Addr) (sg:V):YF "signs" sg (YF "counts" (.ref cl) [])=([("counts",.ref cl),("signs",sg)]:List (Str×V)):=by
 simp only [YF,if_neg ncg]
theorem Y3 (cl:Addr) (sh:Sh):(mf cl sh).lookup ("counts":Str)=some (.ref cl):=by cases sh<;>rfl
theorem QH (cl:Addr) (sh:Sh) {m:Str} (h1:(m==("counts":Str))=false) (h2:(m==("low":Str))=false) (h3:(m==("span":Str))=false) (h4:(m==("signs":Str))=false):(mf cl sh).lookup m=none:=by
 cases sh
 ·show List.lookup m [(("counts":Str),V.ref cl),(("low":Str),_),(("span":Str),_)]=_
  rw [List.lookup_cons,h1,List.lookup_cons,h2,List.lookup_cons,h3];rfl
 ·show List.lookup m [(("counts":Str),V.ref cl),(("signs":Str),_)]=_
  rw [List.lookup_cons,h1,List.lookup_cons,h4];rfl
theorem U8 (cl:Addr) (sh:Sh):(mf cl sh).lookup ("reckoned":Str)=none:=QH cl sh (by decide +kernel) (by decide +kernel) (by decide +kernel) (by decide +kernel)
theorem XX (cl:Addr) (sh:Sh):(mf cl sh).lookup ("count_at":Str)=none:=QH cl sh (by decide +kernel) (by decide +kernel) (by decide +kernel) (by decide +kernel)
theorem dle (x k:Nat):decide ((x:Int)≤(k:Int))=decide (x≤k):=decide_eq_decide.mpr (by omega)
theorem Ur {fs:List (Str×V)} (h:fs.length≤3):fs.length<1000:=by omega
variable {m:Nat}
def Z0k (K:PySem.W.Frag) (CW CT:Addr):Sp:=fun vs H Q _=>∃ (p dx C:Addr),vs=[.ref p]∧(C=CW∨C=CT)∧H p=some (.ins C dx [])∧∀ cl,H cl=none→Q .non (upd (upd H cl (.lst [])) p (.ins C dx [("counts",.ref cl)]))
theorem Z1C {Z3 Zb Z8 Zf Z9 Zc Z5 Zd Z6 Za Ze Z7 Z2 Z4 Z1 Z0:Addr} {c_law_right P_law_right:Addr} (R:g.RawC "Maker" "__init__" "Maker.__init__" Z09 ["self"]) (Zi:Cls g.K Z1) (Zg:Yk g.K Z1 "counts") (Zh:Yk g.K Z1 "signs") (Zk:Cls g.K Z0) (Zj:Yk g.K Z0 "counts") (Zn:Yk g.K Z0 "low") (Zm:Yk g.K Z0 "span"):g.Cf (1) "Maker" "__init__" ["self"] (Z0k g.K Z0 Z1):=by
 refine R.cf Z1B (fun vs H Q E h=>by obtain ⟨p,dx,C,rfl,hC,hp,q⟩:=h;rfl) fun f_ cdv A outer s H vs Q E hr h=>?_
 obtain ⟨p,dx,C,rfl,hC,hp,q⟩:=h
 refine ⟨_,(@Yh _ _ _ (@X6 _ _ _ _ _ _ _ _ (pv 0) (@Xg _ _ _ _ Yc) rfl)),?_⟩
 walk_at "rd"
 refine ⟨few (by decide),fun cl hcl=>⟨C,dx,[],by rw [Yb (Yg hp hcl)];exact hp,?_,?_,by decide,q cl hcl⟩⟩
 ·rcases hC with rfl | rfl<;>assumption
 ·rcases hC with rfl | rfl<;>assumption
def Z1S (K:PySem.W.Frag) (CW CT:Addr):Sp:=fun vs H Q _=>∃ (p dx:Addr) (lo:Int) (span:Nat),vs=[.ref p,.int lo,.int (lo+span)]∧H p=some (.ins CW dx [])∧∀ cl H',H cl=none→SameBut p H H'→Vg CW CT H' p (.w lo span) cl 0→Q .non H'
theorem Z0z {k:Nat} {Z3 Zb Z8 Zf Z9 Zc Z5 Zd Z6 Za Ze Z7 Z2 Z4 Z1 Z0:Addr} {c_law_right P_law_right:Addr} (R:g.RawI "WholeMaker" Z0 "WholeMaker.__init__" ZB ["self","low","high"]) (Z0a:g.Cf k "Maker" "__init__" ["self"] (Z0k g.K Z0 Z1)) (Zk:Cls g.K Z0) (Zj:Yk g.K Z0 "counts") (Zn:Yk g.K Z0 "low") (Zm:Yk g.K Z0 "span"):g.Ma (k+1) "WholeMaker" Z0 ["self","low","high"] (Z1S g.K Z0 Z1):=by
 refine R.ma Z0w (fun vs H Q E h=>by obtain ⟨p,dx,lo,span,rfl,hp,q⟩:=h;rfl) fun f_ cdv A outer s H vs Q E hr h=>?_
 obtain ⟨p,dx,lo,span,rfl,hp,q⟩:=h
 refine ⟨_,(@Yf _ _ _ _ _ (@Xd _ _ _ _ (@Ybm _ _ _ _ _ _ _ _ _ _ _ _ _ _ _ Z0a hr (@Ya _ _ _ _ _ (pv 0) Yc (by rfl)) (by omega) (by rfl) (by rfl) (by decide) (by rfl) (by rfl) (by rfl)) (by rfl)) (@Yf _ _ _ _ _ (@X6 _ _ _ _ _ _ _ _ (pv 0) (pv 1) rfl) (@Yh _ _ _ (@X6 _ _ _ _ _ _ _ _ (pv 0) (@Yq _ _ _ _ _ _ _ _ XN (pv 2) (pv 1)) rfl)))),?_⟩
 walk_at "rd"
 refine ⟨p,dx,_,rfl,.inl rfl,hp,fun cl hcl=>?_⟩
 have hne:p≠cl:=Yg hp hcl
 refine ⟨_,dx,_,Ye,Zk,Zn,Ur (show 1≤3 by decide),_,dx,_,Ye,Zk,Zm,Ur (Nat.le_trans (X4 _ _ _) (show 2≤3 by decide)),?_⟩
 refine q cl _ hcl (fun x o hx h=>?_) ⟨dx,?_,?_⟩
 ·rw [Yb hx,Yb hx,Yb hx,Yb (Yg h hcl)];exact h
 ·rw [Ye,show lo+(span:Int) - lo=span by omega]
  exact congrArg some (congrArg (HO.ins _ _) (mfw cl lo _))
 ·rw [Yb (Ne.symm hne),Yb (Ne.symm hne),Yb (Ne.symm hne),Ye];rfl
def Z1T (K:PySem.W.Frag) (CW CT:Addr):Sp:=fun vs H Q _=>∃ (p dx:Addr) (sg:List Nat),vs=[.ref p,.str (S sg)]∧H p=some (.ins CT dx [])∧∀ cl H',H cl=none→SameBut p H H'→Vg CW CT H' p (.t sg) cl 0→Q .non H'
theorem Z0R {k:Nat} {Z3 Zb Z8 Zf Z9 Zc Z5 Zd Z6 Za Ze Z7 Z2 Z4 Z1 Z0:Addr} {c_law_right P_law_right:Addr} (R:g.RawI "TextMaker" Z1 "TextMaker.__init__" ZN ["self","signs"]) (Z0a:g.Cf k "Maker" "__init__" ["self"] (Z0k g.K Z0 Z1)) (Zi:Cls g.K Z1) (Zg:Yk g.K Z1 "counts") (Zh:Yk g.K Z1 "signs"):g.Ma (k+1) "TextMaker" Z1 ["self","signs"] (Z1T g.K Z0 Z1):=by
 refine R.ma Z0N (fun vs H Q E h=>by obtain ⟨p,dx,sg,rfl,hp,q⟩:=h;rfl) fun f_ cdv A outer s H vs Q E hr h=>?_
 obtain ⟨p,dx,sg,rfl,hp,q⟩:=h
 refine ⟨_,(@Yf _ _ _ _ _ (@Xd _ _ _ _ (@Ybm _ _ _ _ _ _ _ _ _ _ _ _ _ _ _ Z0a hr (@Ya _ _ _ _ _ (pv 0) Yc (by rfl)) (by omega) (by rfl) (by rfl) (by decide) (by rfl) (by rfl) (by rfl)) (by rfl)) (@Yh _ _ _ (@X6 _ _ _ _ _ _ _ _ (pv 0) (pv 1) rfl))),?_⟩
 walk_at "rd"
 refine ⟨p,dx,_,rfl,.inr rfl,hp,fun cl hcl=>?_⟩
 have hne:p≠cl:=Yg hp hcl
 refine ⟨_,dx,_,Ye,Zi,Zh,Ur (show 1≤3 by decide),?_⟩
 refine q cl _ hcl (fun x o hx h=>?_) ⟨dx,?_,?_⟩
 ·rw [Yb hx,Yb hx,Yb (Yg h hcl)];exact h
 ·rw [Ye]
  exact congrArg some (congrArg (HO.ins _ _) (mft cl _))
 ·rw [Yb (Ne.symm hne),Yb (Ne.symm hne),Ye];rfl
def QI:Sp:=fun vs H Q _=>∃ (n:Nat),vs=[.int n]∧n≤100∧Q (.int (1*2^n / 2^1)) H
theorem Z1D {Z3 Zb Z8 Zf Z9 Zc Z5 Zd Z6 Za Ze Z7 Z2 Z4 Z1 Z0:Addr} {c_law_right P_law_right:Addr} (R:g.Raw "least_distance" "least_distance" Z08 ["size"]):g.Fn (1) "least_distance" ["size"] (QI):=by
 refine R.fn Z1A (fun vs H Q E h=>by obtain ⟨n,rfl,hn,q⟩:=h;rfl) fun f_ cdv A outer s H vs Q E hr h=>?_
 obtain ⟨n,rfl,hn,q⟩:=h
 refine ⟨_,(@Yh _ _ _ (@Yo _ _ _ _ (@Yq _ _ _ _ _ _ _ _ Ycg (@Yq _ _ _ _ _ _ _ _ QV Yi (pv 0)) Yi))),?_⟩
 walk_at "rd"
 exact ⟨⟨by omega,by omega,by decide⟩,by decide,q⟩
def Z0S (K:PySem.W.Frag) (CW CT:Addr):Sp:=fun vs H Q _=>∃ (p dx cl:Addr) (lo:Int) (span n:Nat),vs=[.ref p,.int n]∧n≤100∧H p=some (.ins CW dx (mf cl (.w lo span)))∧Q (.int (wc span n)) H
theorem Z0A {k:Nat} {Z3 Zb Z8 Zf Z9 Zc Z5 Zd Z6 Za Ze Z7 Z2 Z4 Z1 Z0:Addr} {c_law_right P_law_right:Addr} (R:g.RawM Z0 "reckoned" "WholeMaker.reckoned" ZC ["self","size"]) (Z0b:g.Fn k "least_distance" ["size"] (QI)) (b_max:g.mg "max"=none) (b_min:g.mg "min"=none) (Zk:Cls g.K Z0) (Zj:Yk g.K Z0 "counts") (Zn:Yk g.K Z0 "low") (Zm:Yk g.K Z0 "span"):g.Me (k+1) Z0 "reckoned" ["self","size"] (Z0S g.K Z0 Z1):=by
 refine R.me Z06 (fun vs H Q E h=>by obtain ⟨p,dx,cl,lo,span,n,rfl,hn,hp,q⟩:=h;rfl) fun f_ cdv A outer s H vs Q E hr h=>?_
 obtain ⟨p,dx,cl,lo,span,n,rfl,hn,hp,q⟩:=h
 refine ⟨_,(@Yf _ _ _ _ _ (@YB _ _ (2) _ _ _ _ Z06.nd rfl (.inl rfl) (@Yv _ _ _ _ _ _ _ _ _ _ b_min (Wy rfl) (@Ya _ _ _ _ _ (@YL _ _ _ _ _ (pv 0) rfl) (@Ya _ _ _ _ _ (@Yq _ _ _ _ _ _ _ _ XN (@Yq _ _ _ _ _ _ _ _ QV Yi (pv 1)) Yi) Yc (by rfl)) (by rfl)) (by decide +kernel) (by rfl) (by rfl) (by decide) (by decide) (by rfl) (by rfl)) (by rfl) (by first | exact .inl rfl | exact .inr rfl | assumption)) (@Yh _ _ _ (@Yo _ _ _ _ (@Yv _ _ _ _ _ _ _ _ _ _ b_max (Wx rfl) (@Ya _ _ _ _ _ Yi (@Ya _ _ _ _ _ (@Yq _ _ _ _ _ _ _ _ XM (@Yq _ _ _ _ _ _ _ _ XN (pv 2) (@Y7 _ _ _ _ _ _ _ _ _ _ _ _ Z0b hr (@Ya _ _ _ _ _ (pv 1) Yc (by rfl)) (by omega) (by rfl) (by rfl) (by decide) (by rfl) (by rfl))) Yi) Yc (by rfl)) (by rfl)) (by decide +kernel) (by rfl) (by rfl) (by decide) (by decide) (by rfl) (by rfl))))),?_⟩
 walk_at "rd"
 exact ⟨_,_,_,hp,Zk,Zm,_,rfl,⟨by omega,by omega,by decide⟩,_,rfl,n,rfl,hn,_,rfl,q⟩
def Z0B (K:PySem.W.Frag) (CW CT:Addr):Sp:=fun vs H Q _=>∃ (p dx cl:Addr) (lo:Int) (span n k:Nat),vs=[.ref p,.int k]∧k≤50∧n≤60∧H p=some (.ins CW dx (mf cl (.w lo span)))∧H cl=some (.lst (YV (wc span) n)) ∧
 ∀ H',SameBut cl H H'→H' cl=some (.lst (YV (wc span) (max n (k+1))))→Q (.int (wc span k)) H'
theorem Z0C {k:Nat} {Z3 Zb Z8 Zf Z9 Zc Z5 Zd Z6 Za Ze Z7 Z2 Z4 Z1 Z0:Addr} {c_law_right P_law_right:Addr} (R:g.RawM Z0 "count_at" "Maker.count_at" ZE ["self","size"]) (Z0T:g.Me k Z0 "reckoned" ["self","size"] (Z0S g.K Z0 Z1)) (b_len:g.mg "len"=none) (Zk:Cls g.K Z0) (Zj:Yk g.K Z0 "counts") (Zn:Yk g.K Z0 "low") (Zm:Yk g.K Z0 "span"):g.Me (k+1) Z0 "count_at" ["self","size"] (Z0B g.K Z0 Z1):=by
 refine R.me Z0y (fun vs H Q E h=>by obtain ⟨p,dx,cl,lo,span,n,k,rfl,hk,hn,hp,hc,q⟩:=h;rfl) fun f_ cdv A outer s H vs Q E hr h=>?_
 obtain ⟨p,dx,cl,lo,span,n,k,rfl,hk,hn,hp,hc,q⟩:=h
 refine ⟨_,(@Yf _ _ _ _ _ (@V1 _ _ _ _ _ _ PassesOwn.never (@Yz _ _ _ _ _ _ _ _ Qg (@Yv _ _ _ _ _ _ _ _ _ _ b_len Y0 (@Ya _ _ _ _ _ (@YL _ _ _ _ _ (pv 0) rfl) Yc (by rfl)) (by decide +kernel) (by rfl) (by rfl) (by decide) (by decide) (by rfl) (by rfl)) (pv 1) (YC _)) (@Yh _ _ _ (@Xd _ _ _ _ (@W4 _ _ _ _ _ _ _ _ _ _ _ _ PySem.F.plainAttrs_list PySem.F.slot_list_append PySem.F.type_list_append XC (@YL _ _ _ _ _ (pv 0) rfl) (@Ya _ _ _ _ _ (@Xq _ _ _ _ _ _ _ _ _ _ _ _ _ _ _ _ Z0T Zk hr (pv 0) (@Ya _ _ _ _ _ (@Yv _ _ _ _ _ _ _ _ _ _ b_len Y0 (@Ya _ _ _ _ _ (@YL _ _ _ _ _ (pv 0) rfl) Yc (by rfl)) (by decide +kernel) (by rfl) (by rfl) (by decide) (by decide) (by rfl) (by rfl)) Yc (by rfl)) (by omega) (by rfl) (by rfl) (by rfl) (by rfl)) Yc (by rfl)) (by rfl) (by rfl) (by rfl) (by rfl) (by rfl)) (by rfl)))) (@Yh _ _ _ (@Yo _ _ _ _ (@Xo _ _ _ _ _ _ _ X7 (@YL _ _ _ _ _ (pv 0) rfl) (pv 1) (fun _ _=>rfl))))),?_⟩
 walk_at "rd"
 have hne:p≠cl:=YN hp hc (by simp)
 refine Uc (α:=Nat) (fun x σ H'=>σ=[some (.ref p),some (.int k)]∧SameBut cl H H'∧H' cl=some (.lst (YV (wc span) x))∧n≤x∧x≤max n (k+1)) (fun x=>decide (x≤k)) (fun x=>k+1 - x) n ⟨rfl,.refl _ _,hc,Nat.le_refl _,Nat.le_max_left _ _⟩ ?_ ?_ ?_
 ·rintro x σ H' ⟨rfl,sb,hx,h1,h2⟩ R r
  walk_at "rd"
  refine ⟨_,_,_,sb _ _ hne hp,Zk,Zj,_,Y3 _ _,_,rfl,_,.inl (SqL.of hx),?_⟩
  rw [Xy,dle]
  exact r H' ⟨rfl,sb,hx,h1,h2⟩
 ·rintro x σ H' ⟨rfl,sb,hx,h1,h2⟩ hd
  have hd:x≤k:=of_decide_eq_true hd
  walk_at "rd"
  have hp':=sb _ _ hne hp
  refine ⟨_,_,_,hp',Zk,Zj,_,Y3 _ _,.inl ⟨rfl,_,SqL.of hx⟩,_,_,hp',U8 _ _,_,_,_,hp',Zk,Zj,_,Y3 _ _,_,rfl,_,.inl (SqL.of hx),?_⟩
  rw [Xy]
  exact ⟨p,dx,cl,lo,span,x,rfl,by omega,hp',_,rfl,_,hx,by rw [Xy];exact few (by omega),sb.upd _,x+1,by rw [Ye,VE],by omega,by omega,by omega⟩
 ·rintro x σ H' ⟨rfl,sb,hx,h1,h2⟩ hd
  have hd:¬ x≤k:=of_decide_eq_false hd
  walk_at "rd"
  have e:x=max n (k+1):=by omega
  subst e
  exact ⟨_,_,_,sb _ _ hne hp,Zk,Zj,_,Y3 _ _,_,rfl,_,SqL.of hx,_,U7 _ (by omega),q H' sb hx⟩
def Z14 (K:PySem.W.Frag) (CW CT:Addr) (m:Nat):Sp:=fun vs H Q _=>∃ (p dx cl:Addr) (sg:List Nat) (n k:Nat),vs=[.ref p,.int k]∧1≤m∧(k=0∨2≤m)∧k≤n∧n≤60∧sg.length≤62∧H p=some (.ins CT dx (mf cl (.t sg)))∧H cl=some (.lst (YV (cnt (.t sg)) n)) ∧
 ∀ H',SameBut cl H H'→H' cl=some (.lst (YV (cnt (.t sg)) n))→Q (.int (cnt (.t sg) k)) H'
def Z07 (K:PySem.W.Frag) (CW CT:Addr) (m:Nat):Sp:=fun vs H Q _=>∃ (p dx cl:Addr) (sg:List Nat) (n k:Nat),vs=[.ref p,.int k]∧1≤m∧(k<n∨3≤m)∧k≤60∧n≤60∧sg.length≤62∧H p=some (.ins CT dx (mf cl (.t sg)))∧H cl=some (.lst (YV (cnt (.t sg)) n)) ∧
 ∀ H',SameBut cl H H'→H' cl=some (.lst (YV (cnt (.t sg)) (max n (k+1))))→Q (.int (cnt (.t sg) k)) H'
theorem YaY {K:PySem.W.Frag} {CW CT:Addr} {vs:List V} {H:Hp} {Q:VK} {E:XK} (h:Z14 K CW CT 0 vs H Q E):False:=by
 obtain ⟨p,dx,cl,sg,n,k,_,h,_⟩:=h
 omega
theorem Yap {K:PySem.W.Frag} {CW CT:Addr} {vs:List V} {H:Hp} {Q:VK} {E:XK} (h:Z07 K CW CT 0 vs H Q E):False:=by
 obtain ⟨p,dx,cl,sg,n,k,_,h,_⟩:=h
 omega
theorem pow62 {a:Nat} (h:a≤62) (j:Nat):((a:Int)^j).natAbs<2^(6*j+1):=by
 have e:((a:Int)^j).natAbs=a^j:=by rw [Int.natAbs_pow,Int.natAbs_natCast]
 rw [e]
 have h1:a^j≤(2^6)^j:=Nat.pow_le_pow_left (by omega) j
 rw [← Nat.pow_mul] at h1
 have h2:2^(6*j)<2^(6*j+1):=Nat.pow_lt_pow_right (by decide) (by omega)
 omega
variable {m:Nat}
theorem ZF {k:Nat} {Z3 Zb Z8 Zf Z9 Zc Z5 Zd Z6 Za Ze Z7 Z2 Z4 Z1 Z0:Addr} {c_law_right P_law_right:Addr} (R:g.RawM Z1 "reckoned" "TextMaker.reckoned" ZO ["self","size"]) (Zw:g.Me k Z1 "count_at" ["self","size"] (Z07 g.K Z0 Z1 m)) (b_len:g.mg "len"=none) (Zi:Cls g.K Z1) (Zg:Yk g.K Z1 "counts") (Zh:Yk g.K Z1 "signs"):g.Me (k+1) Z1 "reckoned" ["self","size"] (Z14 g.K Z0 Z1 (m+1)):=by
 refine R.me Z0O (fun vs H Q E h=>by obtain ⟨p,dx,cl,sg,n,k,rfl,hm,hk,hkn,hn,hl,hp,hc,q⟩:=h;rfl) fun f_ cdv A outer s H vs Q E hr h=>?_
 obtain ⟨p,dx,cl,sg,n,k,rfl,hm,hk,hkn,hn,hl,hp,hc,q⟩:=h
 refine ⟨_,(@Yh _ _ _ (@Yo _ _ _ _ (@Yaw _ _ _ _ _ _ _ _ (@Yz _ _ _ _ _ _ _ _ Wi (pv 1) Yi (YC _)) Yi (@Yq _ _ _ _ _ _ _ _ Wa (@Yv _ _ _ _ _ _ _ _ _ _ b_len Xb (@Ya _ _ _ _ _ (@YL _ _ _ _ _ (pv 0) rfl) Yc (by rfl)) (by decide +kernel) (by rfl) (by rfl) (by decide) (by decide) (by rfl) (by rfl)) (@Xq _ _ _ _ _ _ _ _ _ _ _ _ _ _ _ _ Zw Zi hr (pv 0) (@Ya _ _ _ _ _ (@Yq _ _ _ _ _ _ _ _ XN (pv 1) Yi) Yc (by rfl)) (by omega) (by rfl) (by rfl) (by rfl) (by rfl)))))),?_⟩
 walk_at "rd"
 refine WA (fun c=>?_) (fun c=>?_)
 ·have e:k=0:=by omega
  subst e
  have:=q H (.refl _ _) hc
  exact this
 ·obtain ⟨j,rfl⟩:∃ j,k=j+1:=⟨k - 1,by omega⟩
  refine ⟨_,_,_,hp,Zi,Zh,_,rfl,_,rfl,by rw [YO];exact few (by omega),_,_,hp,XX _ _,?_⟩
  refine ⟨p,dx,cl,sg,n,j,by rw [show ((j+1:Nat):Int) - 1=(j:Int) by omega],by omega,.inl (by omega),by omega,hn,hl,hp,hc,fun H' s' h'=>⟨_,rfl,?_,?_⟩⟩
  ·rw [YO]
   refine .inl (cm (m:=7) (n:=6*j+1) ?_ (pow62 hl j) (by omega))
   rw [Int.natAbs_natCast];omega
  ·rw [YO]
   have:=q H' s' (by rw [show max n (j+1)=n by omega] at h';exact h')
   rw [show (sg.length:Int)*cnt (.t sg) j=cnt (.t sg) (j+1) by show _*(sg.length:Int)^j=(sg.length:Int)^(j+1);rw [Int.pow_succ,Int.mul_comm]]
   exact this
theorem ZG {k:Nat} {Z3 Zb Z8 Zf Z9 Zc Z5 Zd Z6 Za Ze Z7 Z2 Z4 Z1 Z0:Addr} {c_law_right P_law_right:Addr} (R:g.RawM Z1 "count_at" "Maker.count_at" ZQ ["self","size"]) (Z15:g.Me k Z1 "reckoned" ["self","size"] (Z14 g.K Z0 Z1 m)) (b_len:g.mg "len"=none) (Zi:Cls g.K Z1) (Zg:Yk g.K Z1 "counts") (Zh:Yk g.K Z1 "signs"):g.Me (k+1) Z1 "count_at" ["self","size"] (Z07 g.K Z0 Z1 (m+1)):=by
 refine R.me Z0P (fun vs H Q E h=>by obtain ⟨p,dx,cl,sg,n,k,rfl,hm,hk,hk50,hn,hl,hp,hc,q⟩:=h;rfl) fun f_ cdv A outer s H vs Q E hr h=>?_
 obtain ⟨p,dx,cl,sg,n,k,rfl,hm,hk,hk50,hn,hl,hp,hc,q⟩:=h
 refine ⟨_,(@Yf _ _ _ _ _ (@V1 _ _ _ _ _ _ PassesOwn.never (@Yz _ _ _ _ _ _ _ _ Qg (@Yv _ _ _ _ _ _ _ _ _ _ b_len Y0 (@Ya _ _ _ _ _ (@YL _ _ _ _ _ (pv 0) rfl) Yc (by rfl)) (by decide +kernel) (by rfl) (by rfl) (by decide) (by decide) (by rfl) (by rfl)) (pv 1) (YC _)) (@Yh _ _ _ (@Xd _ _ _ _ (@W4 _ _ _ _ _ _ _ _ _ _ _ _ PySem.F.plainAttrs_list PySem.F.slot_list_append PySem.F.type_list_append XC (@YL _ _ _ _ _ (pv 0) rfl) (@Ya _ _ _ _ _ (@Xq _ _ _ _ _ _ _ _ _ _ _ _ _ _ _ _ Z15 Zi hr (pv 0) (@Ya _ _ _ _ _ (@Yv _ _ _ _ _ _ _ _ _ _ b_len Y0 (@Ya _ _ _ _ _ (@YL _ _ _ _ _ (pv 0) rfl) Yc (by rfl)) (by decide +kernel) (by rfl) (by rfl) (by decide) (by decide) (by rfl) (by rfl)) Yc (by rfl)) (by omega) (by rfl) (by rfl) (by rfl) (by rfl)) Yc (by rfl)) (by rfl) (by rfl) (by rfl) (by rfl) (by rfl)) (by rfl)))) (@Yh _ _ _ (@Yo _ _ _ _ (@Xo _ _ _ _ _ _ _ X7 (@YL _ _ _ _ _ (pv 0) rfl) (pv 1) (fun _ _=>rfl))))),?_⟩
 walk_at "rd"
 have hne:p≠cl:=YN hp hc (by simp)
 refine Uc (α:=Nat) (fun x σ H'=>σ=[some (.ref p),some (.int k)]∧SameBut cl H H'∧H' cl=some (.lst (YV (cnt (.t sg)) x))∧n≤x∧x≤max n (k+1)) (fun x=>decide (x≤k)) (fun x=>k+1 - x) n ⟨rfl,.refl _ _,hc,Nat.le_refl _,Nat.le_max_left _ _⟩ ?_ ?_ ?_
 ·rintro x σ H' ⟨rfl,sb,hx,h1,h2⟩ R r
  walk_at "rd"
  refine ⟨_,_,_,sb _ _ hne hp,Zi,Zg,_,Y3 _ _,_,rfl,_,.inl (SqL.of hx),?_⟩
  rw [Xy,dle]
  exact r H' ⟨rfl,sb,hx,h1,h2⟩
 ·rintro x σ H' ⟨rfl,sb,hx,h1,h2⟩ hd
  have hd:x≤k:=of_decide_eq_true hd
  walk_at "rd"
  have hp':=sb _ _ hne hp
  refine ⟨_,_,_,hp',Zi,Zg,_,Y3 _ _,.inl ⟨rfl,_,SqL.of hx⟩,_,_,hp',U8 _ _,_,_,_,hp',Zi,Zg,_,Y3 _ _,_,rfl,_,.inl (SqL.of hx),?_⟩
  rw [Xy]
  exact ⟨p,dx,cl,sg,x,x,rfl,by omega,by omega,Nat.le_refl _,by omega,hl,hp',hx,fun H2 s2 h2'=>⟨_,rfl,_,h2',by rw [Xy];exact few (by omega),(sb.trans s2).upd _,x+1,by rw [Ye,VE],by omega,by omega,by omega⟩⟩
 ·rintro x σ H' ⟨rfl,sb,hx,h1,h2⟩ hd
  have hd:¬ x≤k:=of_decide_eq_false hd
  walk_at "rd"
  have e:x=max n (k+1):=by omega
  subst e
  exact ⟨_,_,_,sb _ _ hne hp,Zi,Zg,_,Y3 _ _,_,rfl,_,SqL.of hx,_,U7 _ (by omega),q H' sb hx⟩
def lf (b:V) (d:Addr):List (Str×V):=[("book",b),("makers",.ref d)]
theorem nbm:¬ (("book":Str)="makers"):=by decide +kernel
theorem YcF (b:V) (d:Addr):YF "makers" (.ref d) (YF "book" b [])=lf b d:=by
 simp only [YF,if_neg nbm];rfl
theorem WK (b:V) (d:Addr):(lf b d).lookup ("makers":Str)=some (.ref d):=by
 show List.lookup ("makers":Str) [(("book":Str),b),(("makers":Str),V.ref d)]=_
 rw [List.lookup_cons,show (("makers":Str)==("book":Str))=false by decide +kernel,List.lookup_cons,show (("makers":Str)==("makers":Str))=true by decide +kernel]
theorem Ybq (b:V) (d:Addr) {m:Str} (h1:(m==("book":Str))=false) (h2:(m==("makers":Str))=false):(lf b d).lookup m=none:=by
 show List.lookup m [(("book":Str),b),(("makers":Str),V.ref d)]=_
 rw [List.lookup_cons,h1,List.lookup_cons,h2];rfl
def Z1U (K:PySem.W.Frag) (C:Addr):Sp:=fun vs H Q _=>∃ (p dx:Addr) (b:V),vs=[.ref p,b]∧H p=some (.ins C dx [])∧∀ d H',H d=none→SameBut p H H'→H' p=some (.ins C dx (lf b d))→H' d=some (.dT [])→Q .non H'
theorem Z1m {Z3 Zb Z8 Zf Z9 Zc Z5 Zd Z6 Za Ze Z7 Z2 Z4 Z1 Z0:Addr} {c_law_right P_law_right:Addr} (R:g.RawI "Lister" Z4 "Lister.__init__" Z01 ["self","book"]) (Zr:Cls g.K Z4) (Zu:Yk g.K Z4 "book") (Zo:Yk g.K Z4 "makers"):g.Ma (1) "Lister" Z4 ["self","book"] (Z1U g.K Z4):=by
 refine R.ma Z1j (fun vs H Q E h=>by obtain ⟨p,dx,b,rfl,hp,q⟩:=h;rfl) fun f_ cdv A outer s H vs Q E hr h=>?_
 obtain ⟨p,dx,b,rfl,hp,q⟩:=h
 refine ⟨_,(@Yf _ _ _ _ _ (@X6 _ _ _ _ _ _ _ _ (pv 0) (pv 1) rfl) (@Yh _ _ _ (@X6 _ _ _ _ _ _ _ _ (pv 0) YaE rfl))),?_⟩
 walk_at "rd"
 refine ⟨Z4,dx,[],hp,Zr,Zu,by decide,fun d hd=>?_⟩
 have hne:p≠d:=Yg Ye hd
 rw [Yb (Ne.symm hne)] at hd
 refine ⟨Z4,dx,_,by rw [Yb hne];exact Ye,Zr,Zo,by simp [YF],q d _ hd (fun x o hx h=>?_) ?_ ?_⟩
 ·rw [Yb hx,Yb (Yg h hd),Yb hx];exact h
 ·rw [Ye,YcF]
 ·rw [Yb (Ne.symm hne),Ye]
theorem Xz {H:Hp} {a b:Addr} {o:HO} (h:upd H a o b=none):H b=none:=by
 by_cases e:b=a
 ·subst e;rw [Ye] at h;cases h
 ·rw [Yb e] at h;exact h
theorem Xm {H H':Hp} {x dx:Addr} {o u:HO} (hx:H x=none) (hdx:H dx=none) (sb:SameBut x (upd (upd H dx o) x u) H'):Yj H H':=fun y z h=>by
 have n1:y≠x:=Yg h hx
 have n2:y≠dx:=Yg h hdx
 exact sb _ _ n1 (by rw [Yb n1,Yb n2];exact h)
def Yaq (K:PySem.W.Frag) (CW CT:Addr):Sp:=fun vs H Q _=>∃ (l a:Addr) (sh:Sh),vs=[.ref l,.ref a]∧WJ H a sh∧∀ p cl H',Yj H H'→H p=none→H cl=none→Vg CW CT H' p sh cl 0→Q (.ref p) H'
theorem Z1g {k:Nat} {Z3 Zb Z8 Zf Z9 Zc Z5 Zd Z6 Za Ze Z7 Z2 Z4 Z1 Z0:Addr} {c_law_right P_law_right:Addr} (R:g.RawM Z4 "new_maker" "Lister.new_maker" ZV ["self","shape"]) {j_WholeMaker___init__:Nat} (Z0U:g.Ma j_WholeMaker___init__ "WholeMaker" Z0 ["self","low","high"] (Z1S g.K Z0 Z1)) (h_WholeMaker___init__:j_WholeMaker___init__+1≤k) {j_TextMaker___init__:Nat} (Z16:g.Ma j_TextMaker___init__ "TextMaker" Z1 ["self","signs"] (Z1T g.K Z0 Z1)) (h_TextMaker___init__:j_TextMaker___init__+1≤k):g.Me (k+1) Z4 "new_maker" ["self","shape"] (Yaq g.K Z0 Z1):=by
 refine R.me Z0h (fun vs H Q E h=>by obtain ⟨l,a,sh,rfl,ha,q⟩:=h;rfl) fun f_ cdv A outer s H vs Q E hr h=>?_
 obtain ⟨l,a,sh,rfl,ha,q⟩:=h
 refine ⟨_,(@Yf _ _ _ _ _ (@YB _ _ (2) _ _ _ _ Z0h.nd rfl (.inl rfl) (@Xo _ _ _ _ _ _ _ Wz (pv 1) Yi (fun _ _=>rfl)) (by rfl) (by first | exact .inl rfl | exact .inr rfl | assumption)) (@Yf _ _ _ _ _ (@YK _ _ _ _ _ _ _ _ (@Yz _ _ _ _ _ _ _ _ Wi (pv 2) Xf (YC _)) (@Yh _ _ _ (@Yo _ _ _ _ (@Qt _ _ _ _ _ _ _ _ _ _ _ _ _ Z0U hr (@Ya _ _ _ _ _ (@Xo _ _ _ _ _ _ _ Wz (pv 1) Yi (fun _ _=>rfl)) (@Ya _ _ _ _ _ (@Xo _ _ _ _ _ _ _ Wz (pv 1) Yi (fun _ _=>rfl)) Yc (by rfl)) (by rfl)) (by omega) (by rfl) (by rfl) (by decide) (by rfl) (by rfl)))) Yy) (@Yf _ _ _ _ _ (@YK _ _ _ _ _ _ _ _ (@Yz _ _ _ _ _ _ _ _ Wi (pv 2) Xf (YC _)) (@Yh _ _ _ (@Yo _ _ _ _ (@Qt _ _ _ _ _ _ _ _ _ _ _ _ _ Z16 hr (@Ya _ _ _ _ _ (@Xo _ _ _ _ _ _ _ Wz (pv 1) Yi (fun _ _=>rfl)) Yc (by rfl)) (by omega) (by rfl) (by rfl) (by decide) (by rfl) (by rfl)))) Yy) (@Yf _ _ _ _ _ YZ (@Yf _ _ _ _ _ YZ (@Yf _ _ _ _ _ YZ (@Yf _ _ _ _ _ YZ (@Yf _ _ _ _ _ YZ (@Yh _ _ _ YZ))))))))),?_⟩
 walk_at "rd"
 cases sh with
 | w lo span=>exact ⟨_,SqT.of ha,_,rfl,X9 _ _,XT rfl ⟨_,SqT.of ha,_,rfl,_,SqT.of ha,_,rfl,fun x dx hx hdx hne=>⟨x,dx,lo,span,rfl,Ye,fun cl H' hcl sb hm=>⟨rfl,q x cl H' (Xm hx hdx sb) hx (Xz (Xz hcl)) hm⟩⟩⟩⟩
 | t sg=>exact ⟨_,SqT.of ha,_,rfl,X9 _ _,YG (by decide +kernel) ⟨X9 _ _,XT rfl ⟨_,SqT.of ha,_,rfl,fun x dx hx hdx hne=>⟨x,dx,sg,rfl,Ye,fun cl H' hcl sb hm=>⟨rfl,q x cl H' (Xm hx hdx sb) hx (Xz (Xz hcl)) hm⟩⟩⟩⟩⟩
def shK:Sh→List Key
 | .w lo span=>[.inr "whole",.inl lo,.inl (lo+span)]
 | .t sg=>[.inr "text",.inr (S sg)]
theorem QJ (sh:Sh):(shK sh).map kV=shV sh:=by cases sh<;>rfl
theorem Yb3 (sh:Sh):∃ x,atI (shV sh) 0=some (.str x)∧¬ (V.str x=V.str "use"):=by
 cases sh
 ·exact ⟨"whole",rfl,by decide +kernel⟩
 ·exact ⟨"text",rfl,by decide +kernel⟩
def Z1K (K:PySem.W.Frag) (CL CW CT:Addr):Sp:=fun vs H Q _=>∃ (l dx d a:Addr) (b:V) (sh:Sh),vs=[.ref l,.ref a]∧H l=some (.ins CL dx (lf b d))∧H d=some (.dT [])∧WJ H a sh∧∀ p cl H',SameBut d H H'→H p=none→H cl=none→Vg CW CT H' p sh cl 0→Q (.ref p) H'
theorem Z1n {k:Nat} {Z3 Zb Z8 Zf Z9 Zc Z5 Zd Z6 Za Ze Z7 Z2 Z4 Z1 Z0:Addr} {c_law_right P_law_right:Addr} (R:g.RawM Z4 "maker_of" "Lister.maker_of" Z02 ["self","shape"]) (Z1o:g.Me k Z4 "new_maker" ["self","shape"] (Yaq g.K Z0 Z1)) (Zr:Cls g.K Z4) (Zu:Yk g.K Z4 "book") (Zo:Yk g.K Z4 "makers"):g.Me (k+1) Z4 "maker_of" ["self","shape"] (Z1K g.K Z4 Z0 Z1):=by
 refine R.me Z1k (fun vs H Q E h=>by obtain ⟨l,dx,d,a,b,sh,rfl,hl,hd,ha,q⟩:=h;rfl) fun f_ cdv A outer s H vs Q E hr h=>?_
 obtain ⟨l,dx,d,a,b,sh,rfl,hl,hd,ha,q⟩:=h
 have hu:=VR hr
 refine ⟨_,(@Yf _ _ _ _ _ (@YK _ _ _ _ _ _ _ _ (@Yz _ _ _ _ _ _ _ _ (Yad (VR hr)) (pv 1) (@YL _ _ _ _ _ (pv 0) rfl) rfl) (@Yh _ _ _ (@YK _ _ _ _ _ _ _ _ (@Yz _ _ _ _ _ _ _ _ Wi (@Xo _ _ _ _ _ _ _ Wz (pv 1) Yi (fun _ _=>rfl)) Xf (YC _)) (@Yh _ _ _ YZ) (@Yh _ _ _ (@YbK _ _ _ _ _ _ _ _ _ (VR hr) (@YL _ _ _ _ _ (pv 0) rfl) (pv 1) (@Xq _ _ _ _ _ _ _ _ _ _ _ _ _ _ _ _ Z1o Zr hr (pv 0) (@Ya _ _ _ _ _ (pv 1) Yc (by rfl)) (by omega) (by rfl) (by rfl) (by rfl) (by rfl)) rfl)))) Yy) (@Yh _ _ _ (@Yo _ _ _ _ (@YbJ _ _ _ _ _ _ (VR hr) (@YL _ _ _ _ _ (pv 0) rfl) (pv 1) (fun _ _=>rfl))))),?_⟩
 walk_at "rd"
 obtain ⟨x,hx,hnu⟩:=Yb3 sh
 have hg:XQ H d (.ref a) none:=XQ.t (kvs:=[]) (k:=shK sh) hd (by rw [QJ];exact ha)
 refine ⟨_,_,_,hl,Zr,Zo,_,WK _ _,_,rfl,_,hg,XT rfl ⟨_,SqT.of ha,_,hx,X9 _ _,YG hnu ⟨_,_,hl,Ybq _ _ (by decide +kernel) (by decide +kernel),l,a,sh,rfl,ha,fun p cl H' s' hp hcl hm=>?_⟩⟩⟩
 have nld:l≠d:=YN hl hd (by simp)
 have nad:a≠d:=YN ha hd (by simp)
 have npd:p≠d:=Ne.symm (Yg hd hp)
 have ncd:cl≠d:=Ne.symm (Yg hd hcl)
 refine ⟨_,_,_,s' _ _ hl,Zr,Zo,_,WK _ _,_,rfl,_,V7.t (k:=shK sh) (s' _ _ hd) (by rw [QJ];exact s' _ _ ha) (by decide),?_⟩
 refine ⟨_,_,_,(Yb nld).trans (s' _ _ hl),Zr,Zo,_,WK _ _,_,rfl,.ref p,?_,?_⟩
 ·have:=XQ.t (H:=upd H' d (.dT (Xp [] (shK sh) (.ref p)))) (a:=d) (b:=a) (k:=shK sh) Ye (by rw [Yb nad,QJ];exact s' _ _ ha)
  rw [YaC,if_pos rfl] at this
  exact this
 ·obtain ⟨dx2,m1,m2⟩:=hm
  exact q p cl _ (SameBut.upd (Yj.but s') _) hp hcl ⟨dx2,by rw [Yb npd];exact m1,by rw [Yb ncd];exact m2⟩
def Z1p (K:PySem.W.Frag) (CW CT:Addr):Sp:=fun vs H Q _=>∃ (a:Addr) (b:V) (sh:Sh),vs=[b,.ref a]∧WJ H a sh∧∀ p cl H',Yj H H'→H p=none→H cl=none→Vg CW CT H' p sh cl 0→Q (.ref p) H'
theorem Us {k:Nat} {Z3 Zb Z8 Zf Z9 Zc Z5 Zd Z6 Za Ze Z7 Z2 Z4 Z1 Z0:Addr} {c_law_right P_law_right:Addr} (R:g.Raw "maker_for" "maker_for" Z0t ["book","shape"]) {j_Lister___init__:Nat} (Z1E:g.Ma j_Lister___init__ "Lister" Z4 ["self","book"] (Z1U g.K Z4)) (h_Lister___init__:j_Lister___init__+1≤k) (Z1F:g.Me k Z4 "maker_of" ["self","shape"] (Z1K g.K Z4 Z0 Z1)) (Zr:Cls g.K Z4) (Zu:Yk g.K Z4 "book") (Zo:Yk g.K Z4 "makers"):g.Fn (k+1) "maker_for" ["book","shape"] (Z1p g.K Z0 Z1):=by
 refine R.fn Um (fun vs H Q E h=>by obtain ⟨a,b,sh,rfl,ha,q⟩:=h;rfl) fun f_ cdv A outer s H vs Q E hr h=>?_
 obtain ⟨a,b,sh,rfl,ha,q⟩:=h
 refine ⟨_,(@Yh _ _ _ (@Yo _ _ _ _ (@Xq _ _ _ _ _ _ _ _ _ _ _ _ _ _ _ _ Z1F Zr hr (@Qt _ _ _ _ _ _ _ _ _ _ _ _ _ Z1E hr (@Ya _ _ _ _ _ (pv 0) Yc (by rfl)) (by omega) (by rfl) (by rfl) (by decide) (by rfl) (by rfl)) (@Ya _ _ _ _ _ (pv 1) Yc (by rfl)) (by omega) (by rfl) (by rfl) (by rfl) (by rfl)))),?_⟩
 walk_at "rd"
 intro x dx hx hdx hne
 refine ⟨x,dx,b,rfl,Ye,fun d H1 hd sb h1 h2=>⟨rfl,_,_,h1,Ybq _ _ (by decide +kernel) (by decide +kernel),x,dx,d,a,b,sh,rfl,h1,h2,?_,fun p cl H2 s2 hp hcl hm=>q p cl H2 ?_ ?_ ?_ hm⟩⟩
 ·exact Xm hx hdx sb _ _ ha
 ·exact s2.new (Xm hx hdx sb) (Xz (Xz hd))
 ·exact (Xm hx hdx sb).free hp
 ·exact (Xm hx hdx sb).free hcl
def Z1L (K:PySem.W.Frag) (CW CT:Addr):Sp:=fun vs H Q _=>∃ (p dx cl:Addr) (lo j:Int) (span n:Nat),vs=[.ref p,.int n,.int j]∧n≤100∧H p=some (.ins CW dx (mf cl (.w lo span)))∧Q (.int (lo+1*2^n / 2^1+j)) H
theorem Z0D {k:Nat} {Z3 Zb Z8 Zf Z9 Zc Z5 Zd Z6 Za Ze Z7 Z2 Z4 Z1 Z0:Addr} {c_law_right P_law_right:Addr} (R:g.RawM Z0 "value_at" "WholeMaker.value_at" ZD ["self","size","number"]) (Z0b:g.Fn k "least_distance" ["size"] (QI)) (Zk:Cls g.K Z0) (Zj:Yk g.K Z0 "counts") (Zn:Yk g.K Z0 "low") (Zm:Yk g.K Z0 "span"):g.Me (k+1) Z0 "value_at" ["self","size","number"] (Z1L g.K Z0 Z1):=by
 refine R.me Z0x (fun vs H Q E h=>by obtain ⟨p,dx,cl,lo,j,span,n,rfl,hn,hp,q⟩:=h;rfl) fun f_ cdv A outer s H vs Q E hr h=>?_
 obtain ⟨p,dx,cl,lo,j,span,n,rfl,hn,hp,q⟩:=h
 refine ⟨_,(@Yh _ _ _ (@Yo _ _ _ _ (@Yq _ _ _ _ _ _ _ _ XM (@Yq _ _ _ _ _ _ _ _ XM (@YL _ _ _ _ _ (pv 0) rfl) (@Y7 _ _ _ _ _ _ _ _ _ _ _ _ Z0b hr (@Ya _ _ _ _ _ (pv 1) Yc (by rfl)) (by omega) (by rfl) (by rfl) (by decide) (by rfl) (by rfl))) (pv 2)))),?_⟩
 walk_at "rd"
 exact ⟨_,_,_,hp,Zk,Zn,_,rfl,n,rfl,hn,_,rfl,_,rfl,q⟩
def dg (sg:List Nat):Nat→Int→List Nat
 | 0,_=>[]
 | k+1,n=>sg.getD (n%sg.length).toNat 0::dg sg k (n / sg.length)
theorem WF (sg:List Nat):∀ k n,(dg sg k n).length=k
 | 0,_=>rfl
 | k+1,n=>by rw [dg,List.length_cons,WF]
def lef (m:Int):Nat→Int→Int
 | 0,n=>n
 | k+1,n=>lef m k n / m
theorem Ut (m:Int):∀ k n,lef m (k+1) n=lef m k (n / m)
 | 0,n=>rfl
 | k+1,n=>by rw [lef,Ut m k n];rfl
theorem U9 (sg:List Nat):∀ k n,dg sg (k+1) n=dg sg k n++[sg.getD (lef sg.length k n%sg.length).toNat 0]
 | 0,n=>rfl
 | k+1,n=>by
  rw [dg,U9 sg k (n / sg.length),dg,Ut]
  rfl
theorem sg_at {sg:List Nat} (h:0<sg.length) (n:Int):atI sg (n%sg.length)=some (sg.getD (n%sg.length).toNat 0):=by
 have h1:0≤n%(sg.length:Int):=Int.emod_nonneg _ (by omega)
 have h2:n%(sg.length:Int)<sg.length:=Int.emod_lt_of_pos _ (by omega)
 have e:n%(sg.length:Int)=((n%(sg.length:Int)).toNat:Int):=(Int.toNat_of_nonneg h1).symm
 rw [e,Int.toNat_natCast]
 have hlt:(n%(sg.length:Int)).toNat<sg.length:=by omega
 refine Vj ?_
 rw [List.getElem?_eq_getElem hlt,List.getD_eq_getElem?_getD,List.getElem?_eq_getElem hlt]
 rfl
theorem Yar (cl:Addr) (sh:Sh):(mf cl sh).lookup ("value_at":Str)=none:=QH cl sh (by decide +kernel) (by decide +kernel) (by decide +kernel) (by decide +kernel)
theorem Uu:∀ cs:List Nat,VU [] (cs.map fun c=>[c])=cs
 | []=>rfl
 | [c]=>rfl
 | c::d::r=>by
  have:=Uu (d::r)
  simp only [List.map_cons] at this ⊢
  rw [VU,this]
  rfl
theorem Yb4 (cs:List Nat):Txt.join ("":Str) (cs.map fun c=>S [c])=S cs:=by
 have:=Yco [] (cs.map fun c=>[c])
 rw [List.map_map,Uu] at this
 exact this
def Z1M (K:PySem.W.Frag) (CW CT:Addr):Sp:=fun vs H Q _=>∃ (p dx cl:Addr) (j:Int) (sg:List Nat) (n:Nat),vs=[.ref p,.int n,.int j]∧n≤100∧0<sg.length∧sg.length≤62∧H p=some (.ins CT dx (mf cl (.t sg)))∧∀ H',Yj H H'→Q (.str (S (dg sg n j).reverse)) H'
theorem Z0V {Z3 Zb Z8 Zf Z9 Zc Z5 Zd Z6 Za Ze Z7 Z2 Z4 Z1 Z0:Addr} {c_law_right P_law_right:Addr} (R:g.RawM Z1 "value_at" "TextMaker.value_at" ZP ["self","size","number"]) (b_len:g.mg "len"=none) (ZH:g.mg "range"=none) (Zi:Cls g.K Z1) (Zg:Yk g.K Z1 "counts") (Zh:Yk g.K Z1 "signs"):g.Me (1) Z1 "value_at" ["self","size","number"] (Z1M g.K Z0 Z1):=by
 refine R.me Zv (fun vs H Q E h=>by obtain ⟨p,dx,cl,j,sg,n,rfl,hn,h0,hl,hp,q⟩:=h;rfl) fun f_ cdv A outer s H vs Q E hr h=>?_
 obtain ⟨p,dx,cl,j,sg,n,rfl,hn,h0,hl,hp,q⟩:=h
 refine ⟨_,(@Yf _ _ _ _ _ (@YB _ _ (3) _ _ _ _ Zv.nd rfl (.inl rfl) (@Xg _ _ _ _ Yc) (by rfl) (by first | exact .inl rfl | exact .inr rfl | assumption)) (@Yf _ _ _ _ _ (@YB _ _ (4) _ _ _ _ Zv.nd rfl (.inl rfl) (pv 2) (by rfl) (by first | exact .inl rfl | exact .inr rfl | assumption)) (@Yf _ _ _ _ _ (@QU _ _ _ _ _ _ _ _ PassesOwn.never rfl (@Wt _ _ _ _ _ _ rfl ZH (@Ya _ _ _ _ _ (pv 1) Yc (by rfl)) (by rfl)) (@WO _ _ (5) _ Zv.nd rfl (.inl rfl) (by first | exact .inl rfl | exact .inr rfl | assumption)) (@Yf _ _ _ _ _ (@Xd _ _ _ _ (@W4 _ _ _ _ _ _ _ _ _ _ _ _ PySem.F.plainAttrs_list PySem.F.slot_list_append PySem.F.type_list_append XC (pv 3) (@Ya _ _ _ _ _ (@Xo _ _ _ _ _ _ _ Yck (@YL _ _ _ _ _ (pv 0) rfl) (@Yq _ _ _ _ _ _ _ _ Xa (pv 4) (@Yv _ _ _ _ _ _ _ _ _ _ b_len Xb (@Ya _ _ _ _ _ (@YL _ _ _ _ _ (pv 0) rfl) Yc (by rfl)) (by decide +kernel) (by rfl) (by rfl) (by decide) (by decide) (by rfl) (by rfl))) (fun _ _=>rfl)) Yc (by rfl)) (by rfl) (by rfl) (by rfl) (by rfl) (by rfl)) (by rfl)) (@Yh _ _ _ (@YB _ _ (4) _ _ _ _ Zv.nd rfl (.inl rfl) (@Yq _ _ _ _ _ _ _ _ XS (pv 4) (@Yv _ _ _ _ _ _ _ _ _ _ b_len Xb (@Ya _ _ _ _ _ (@YL _ _ _ _ _ (pv 0) rfl) Yc (by rfl)) (by decide +kernel) (by rfl) (by rfl) (by decide) (by decide) (by rfl) (by rfl))) (by rfl) (by first | exact .inl rfl | exact .inr rfl | assumption)))) (by intro _;rfl)) (@Yf _ _ _ _ _ (@Xd _ _ _ _ (@Ycl _ _ _ _ _ _ _ _ _ PySem.F.plainAttrs_list PySem.F.slot_list_reverse PySem.F.type_list_reverse Qp (pv 3) (by rfl) (by rfl)) (by rfl)) (@Yh _ _ _ (@Yo _ _ _ _ (@W4 _ _ _ _ _ _ _ _ _ _ _ _ PySem.F.plainAttrs_str PySem.F.slot_str_join PySem.F.type_str_join YbN Xf (@Ya _ _ _ _ _ (pv 3) Yc (by rfl)) (by rfl) (by rfl) (by rfl) (by rfl) (by rfl)))))))),?_⟩
 walk_at "rd"
 refine ⟨few (by decide),fun F gF=>?_⟩
 refine UE (n:=n) (fun i σ H'=>∃ o5,σ=[some (.ref p),some (.int n),some (.int j),some (.ref F),some (.int (lef sg.length i j)),o5]∧Yj H H'∧H' F=some (.lst ((dg sg i j).map fun c=>V.str (S [c])))) (fun R r=>by walk_at "rd";exact r) (by omega) ⟨_,rfl,.upd_new gF _,Ye⟩ ?_ ?_
 ·rintro i σ H' hi ⟨o5,rfl,sm,hF⟩
  have hp':=sm _ _ hp
  have hpF:p≠F:=Yg hp gF
  walk_at "rd"
  refine ⟨.inl ⟨rfl,_,SqL.of hF⟩,_,_,_,hp',Zi,Zh,_,rfl,_,_,_,hp',Zi,Zh,_,rfl,_,rfl,by rw [YO];exact few (by omega),by rw [YO];omega,?_⟩
  rw [YO]
  refine ⟨_,_,_,rfl,rfl,by rw [YO];exact few (by omega),by rw [Ua];exact sg_at h0 _,_,hF,by rw [List.length_map,WF];exact few (by omega),_,_,_,(Yb hpF).trans hp',Zi,Zh,_,rfl,_,rfl,?_⟩
  exact ⟨by rw [YO];exact few (by omega),by rw [YO];exact Q8 (by omega) (by omega),by rw [YO];rfl,.upd_over gF sm _,by rw [Ye,U9,List.map_append];rfl⟩
 ·rintro σ H' ⟨o5,rfl,sm,hF⟩
  walk_at "rd"
  refine ⟨.inl ⟨rfl,_,SqL.of hF⟩,_,hF,rfl,?_⟩
  have e1:((dg sg n j).map fun c=>V.str (S [c])).reverse=(dg sg n j).reverse.map fun c=>V.str (S [c]):=by rw [List.map_reverse]
  rw [e1]
  refine ⟨"",F,(dg sg n j).reverse.map fun c=>S [c],rfl,rfl,by rw [List.map_map];exact SqL.of Ye,?_,?_⟩
  ·rw [List.map_map,List.length_map,List.length_reverse,WF]
   have:((fun x:Str=>x.length) ∘ fun c=>S [c])=fun _=>1:=by funext c;simp [YO]
   rw [this,List.map_const',List.sum_replicate_nat,List.length_reverse,WF]
   have:("":Str).length=0:=by decide +kernel
   rw [this];omega
  ·rw [Yb4]
   exact q _ (.upd_over gF sm _)
def Uv (K:PySem.W.Frag) (fv vs:List V) (H:Hp) (Q:VK):Prop:=∃ (A:Addr) (xs:List V) (x:V),fv=[.ref A]∧vs=[x]∧H A=some (.lst xs)∧xs.length≤10000∧Q (.bl true) (upd H A (.lst (xs++[x])))
theorem Z0s {k:Nat} {Z3 Zb Z8 Zf Z9 Zc Z5 Zd Z6 Za Ze Z7 Z2 Z4 Z1 Z0:Addr} {f_ c_:Addr} {doc pm ctv:Value} {l:Yn}  (hl:l.map (·.1)=(["_law_notes"]:List Str)) (hnd:l.as.Nodup):FnOk g.P g.w g.K g.mg g.base CX0 (k+1) f_ (Zq l.cl c_ doc pm ctv) ["_law_value"] (fun vs H Q _=>ClZ H f_ c_ (Zq l.cl c_ doc pm ctv) Zp l∧(Uv g.K) l.vs vs (off H l.as) fun v H'=>(∀ c∈l.as,H' c=none)→Q v (on H' H l.as)):=by
 refine YaW (N:=["_law_value","_law_notes"]) (by rw [hl];exact Z0r) hnd (fun vs H Q h=>by obtain ⟨A,xs,x,hfv,rfl,hA,hl,q⟩:=h;rfl) fun A outer s H vs Q hr h=>?_
 obtain ⟨A,xs,x,hfv,rfl,hA,hl,q⟩:=h
 refine ⟨_,(@Yf _ _ _ _ _ (@Xd _ _ _ _ (@W4 _ _ _ _ _ _ _ _ _ _ _ _ PySem.F.plainAttrs_list PySem.F.slot_list_append PySem.F.type_list_append XC (pv 1) (@Ya _ _ _ _ _ (pv 0) Yc (by rfl)) (by rfl) (by rfl) (by rfl) (by rfl) (by rfl)) (by rfl)) (@Yh _ _ _ (@Yo _ _ _ _ Wg))),?_⟩
 rw [hfv]
 show (_:TS) _ [some x,some (.ref A)] H
 walk_at "rd"
 exact ⟨.inl ⟨rfl,_,SqL.of hA⟩,_,hA,Nat.lt_of_le_of_lt hl (by decide),q⟩
def WL (c m:Int):List (Str×V):=[("count",.int c),("most",.int m)]
def Z1q (C:Addr):Sp:=fun vs H Q E=>∃ c m:Int,vs=[.int c,.int m]∧(c≤m→Q .non H)∧(m<c→∀ d,H d=none→E (.ref C) (some d) (upd H d (YU d (WL c m))))
theorem Z1r {k:Nat} {Z3 Zb Z8 Zf Z9 Zc Z5 Zd Z6 Za Ze Z7 Z2 Z4 Z1 Z0:Addr} {c_law_right P_law_right:Addr} (R:g.Raw "refuse_too_many" "refuse_too_many" Z00 ["count","most"]) (Z1s:g.MaX "TooMany" Z2 ["self","count","most"] ["count","most"]) (hki:2≤k):g.FnX (k+1) "refuse_too_many" ["count","most"] (Z1q Z2):=by
 refine R.fnX Z1i (fun vs H Q E h=>by obtain ⟨c,m,rfl,q,qe⟩:=h;rfl) fun f_ cdv A outer s H vs Q E hr h=>?_
 obtain ⟨c,m,rfl,q,qe⟩:=h
 refine ⟨_,(@Yh _ _ _ (@YK _ _ _ _ _ _ _ _ (@Yz _ _ _ _ _ _ _ _ Ya8 (pv 0) (pv 1) (YC _)) (@Yh _ _ _ (@Yai _ _ _ _ _ _ _ _ _ _ _ _ _ _ Z1s hr YcD (@Ya _ _ _ _ _ (pv 0) (@Ya _ _ _ _ _ (pv 1) Yc (by rfl)) (by rfl)) (by omega) (by rfl) (by rfl) (by rfl) (by decide) (by rfl) (by rfl))) Yy)),?_⟩
 walk_at "rd"
 refine WA (fun z=>?_) (fun z=>q (by omega))
 unfold U3
 walk_at "rd"
 exact ⟨by decide,fun d hd=>qe z d hd⟩
def val (sh:Sh) (k:Nat) (n:Int):V:=match sh with
 | .w lo _ => .int (lo+1*2^k / 2^1+n)
 | .t sg => .str (S (dg sg k n).reverse)
def Sh.ok2:Sh→Prop
 | .w _ _=>True
 | .t sg=>0<sg.length∧sg.length≤62
def vls (sh:Sh) (k:Nat):List V:=(List.range (cnt sh k).toNat).map fun (j:Nat)=>val sh k j
theorem Vr (sh:Sh) (k:Nat):(vls sh k).length=(cnt sh k).toNat:=by simp [vls]
theorem VF (span:Int) (k:Nat):0≤wc span k:=by
 unfold wc
 split
 ·split<;>omega
 ·split<;>omega
theorem Wn (sh:Sh) (k:Nat):0≤cnt sh k:=by
 cases sh with
 | w lo span=>exact VF _ _
 | t sg=>exact Int.pow_nonneg (Int.natCast_nonneg _)
def Z0E (K:PySem.W.Frag) (CW CT:Addr):Sp:=fun vs H Q _=>∃ (p dx cl:Addr) (sh:Sh) (n k:Nat),vs=[.ref p,.int k]∧k<n∧n≤40∧sh.ok2∧(cnt sh k).toNat≤3000∧H p=some (.ins (mC CW CT sh) dx (mf cl sh))∧H cl=some (.lst (YV (cnt sh) n)) ∧
 ∀ D H',Yj H H'→H D=none→H' D=some (.lst (vls sh k))→Q (.ref D) H'
theorem UJ {k:Nat} {Z3 Zb Z8 Zf Z9 Zc Z5 Zd Z6 Za Ze Z7 Z2 Z4 Z1 Z0:Addr} {c_law_right P_law_right:Addr} (R:g.Raw "all_made" "all_made" Z11 ["maker","size"]) (Z0W:g.Me k Z0 "value_at" ["self","size","number"] (Z1L g.K Z0 Z1)) (Z17:g.Me k Z1 "value_at" ["self","size","number"] (Z1M g.K Z0 Z1)) (ZI:g.Me k Z0 "count_at" ["self","size"] (Z0B g.K Z0 Z1)) (Zw:g.Me k Z1 "count_at" ["self","size"] (Z07 g.K Z0 Z1 3)) (ZH:g.mg "range"=none) (Zi:Cls g.K Z1) (Zg:Yk g.K Z1 "counts") (Zh:Yk g.K Z1 "signs") (Zk:Cls g.K Z0) (Zj:Yk g.K Z0 "counts") (Zn:Yk g.K Z0 "low") (Zm:Yk g.K Z0 "span"):g.Fn (k+1) "all_made" ["maker","size"] (Z0E g.K Z0 Z1):=by
 refine R.fn UH (fun vs H Q E h=>by obtain ⟨p,dx,cl,sh,n,k,rfl,hk,hn,hok,hw,hp,hc,q⟩:=h;rfl) fun f_ cdv A outer s H vs Q E hr h=>?_
 obtain ⟨p,dx,cl,sh,n,k,rfl,hk,hn,hok,hw,hp,hc,q⟩:=h
 refine ⟨_,(@Yh _ _ _ (@Yo _ _ _ _ (@Ybh _ _ _ _ _ _ _ ([none,some 1,some 0]) ((["number","size","maker"]:List Str)) _ (Xi 0) _ _ (.own (.cap (i:=1) rfl rfl (by first | exact .inl rfl | exact .inr rfl) (.cap (i:=0) rfl rfl (by first | exact .inl rfl | exact .inr rfl) .nil))) rfl (@Wt _ _ _ _ _ _ rfl ZH (@Ya _ _ _ _ _ (@WG _ _ _ _ (@Xq _ _ _ _ _ _ _ _ _ _ _ _ _ _ _ _ ZI Zk hr (pv 0) (@Ya _ _ _ _ _ (pv 1) Yc (by rfl)) (by omega) (by rfl) (by rfl) (by rfl) (by rfl)) (@Xq _ _ _ _ _ _ _ _ _ _ _ _ _ _ _ _ Zw Zi hr (pv 0) (@Ya _ _ _ _ _ (pv 1) Yc (by rfl)) (by omega) (by rfl) (by rfl) (by rfl) (by rfl))) Yc (by rfl)) (by rfl)) (fun cl C s₀ H₀ fp pn=>(@WO _ _ (0) _ (show List.Nodup (["number","size","maker"]:List Str) by decide +kernel) rfl (.inl rfl) (.inr rfl))) (fun cl C s₀ H₀ fp pn=>YbL) (fun cl C s₀ H₀ fp pn=>(@WG _ _ _ _ (@Xq _ _ _ _ _ _ _ _ _ _ _ _ _ _ _ _ Z0W Zk hr (pv 2) (@Ya _ _ _ _ _ (pv 1) (@Ya _ _ _ _ _ (pv 0) Yc (by rfl)) (by rfl)) (by omega) (by rfl) (by rfl) (by rfl) (by rfl)) (@Xq _ _ _ _ _ _ _ _ _ _ _ _ _ _ _ _ Z17 Zi hr (pv 2) (@Ya _ _ _ _ _ (pv 1) (@Ya _ _ _ _ _ (pv 0) Yc (by rfl)) (by rfl)) (by omega) (by rfl) (by rfl) (by rfl) (by rfl)))) (by intro x hx;simp at hx;first | (subst hx;exact .inl rfl) | (rcases hx with rfl | rfl<;>exact .inl rfl) | (rcases hx with rfl | rfl | rfl<;>exact .inl rfl) | (rcases hx with rfl | rfl | rfl | rfl<;>exact .inl rfl) | (rcases hx with rfl | rfl | rfl | rfl | rfl<;>exact .inl rfl)) (by rfl) (by decide) (by decide +kernel) (by intro _;rfl)))),?_⟩
 walk_at "rd"
 have hfin:∀ (R:List V→Hp→Prop) (H':Hp),(∀ H1,Yj H H1→R [.int (cnt sh k).toNat] H1)→SameBut cl H H'→H' cl=some (.lst (YV (cnt sh) (max n (k+1))))→R [.int (cnt sh k)] H':=fun R H' r sb hc'=>by
  rw [show max n (k+1)=n by omega] at hc'
  have s:Yj H H':=fun b o e=>by
   by_cases h:b=cl
   ·subst h;rw [hc] at e;cases e;exact hc'
   ·exact sb _ _ h e
  have:=r H' s
  rw [Int.toNat_of_nonneg (Wn _ _)] at this
  exact this
 refine QB (n:=(cnt sh k).toNat) (fun (j:Nat)=>val sh k j) (fun R r=>?_) (by omega) ?_ (fun D H' hD s hd=>q D H' s hD hd)
 ·walk_at "rd"
  cases sh with
  | w lo span=>exact .inl ⟨_,_,hp,XX _ _,p,dx,cl,lo,span,n,k,rfl,by omega,by omega,hp,hc,fun H' sb hc'=>hfin R H' r sb hc'⟩
  | t sg=>exact .inr ⟨_,_,hp,XX _ _,p,dx,cl,sg,n,k,rfl,by omega,.inl hk,by omega,by omega,hok.2,hp,hc,fun H' sb hc'=>hfin R H' r sb hc'⟩
 ·intro i H' hi sm R r
  have hp':=sm _ _ hp
  walk_at "rd"
  cases sh with
  | w lo span=>exact .inl ⟨_,_,hp',Yar _ _,p,dx,cl,lo,(i:Int),span,k,rfl,by omega,hp',r H' (.refl _)⟩
  | t sg=>exact .inr ⟨_,_,hp',Yar _ _,p,dx,cl,(i:Int),sg,k,rfl,by omega,hok.1,hok.2,hp',fun H'' s''=>r H'' s''⟩
def Z0l (K:PySem.W.Frag) (C:Addr):Sp:=fun vs H Q E=>∃ (b:V) (a:Addr) (sh:Sh) (k:Nat) (m:Int),vs=[b,.ref a,.int k,.int m]∧WJ H a sh∧sh.ok2∧k≤30∧m≤2000 ∧
 (cnt sh k≤m→∀ D H',Yj H H'→H D=none→H' D=some (.lst (vls sh k))→Q (.ref D) H')∧(m<cnt sh k→∀ H' d,Yj H H'→H' d=none→E (.ref C) (some d) (upd H' d (YU d (WL (cnt sh k) m))))
theorem VN {k:Nat} {Z3 Zb Z8 Zf Z9 Zc Z5 Zd Z6 Za Ze Z7 Z2 Z4 Z1 Z0:Addr} {c_law_right P_law_right:Addr} (R:g.RawDX "all_values" "all_values" Z0n ["book","shape","size","most"] [.int 400]) (F_maker_for:g.Fn k "maker_for" ["book","shape"] (Z1p g.K Z0 Z1)) (Z1G:g.FnX k "refuse_too_many" ["count","most"] (Z1q Z2)) (F_all_made:g.Fn k "all_made" ["maker","size"] (Z0E g.K Z0 Z1)) (ZI:g.Me k Z0 "count_at" ["self","size"] (Z0B g.K Z0 Z1)) (Zw:g.Me k Z1 "count_at" ["self","size"] (Z07 g.K Z0 Z1 3)) (Zi:Cls g.K Z1) (Zg:Yk g.K Z1 "counts") (Zh:Yk g.K Z1 "signs") (Zk:Cls g.K Z0) (Zj:Yk g.K Z0 "counts") (Zn:Yk g.K Z0 "low") (Zm:Yk g.K Z0 "span"):g.FnDX (k+1) "all_values" ["book","shape","size","most"] [.int 400] (Z0l g.K Z2):=by
 refine R.fnDX Z1d (fun vs H Q E h=>by obtain ⟨b,a,sh,k,m,rfl,ha,hok,hk,hm,q,qe⟩:=h;rfl) fun f_ cdv A outer s H vs Q E hr h=>?_
 obtain ⟨b,a,sh,k,m,rfl,ha,hok,hk,hm,q,qe⟩:=h
 refine ⟨_,(@Yf _ _ _ _ _ (PS.nox (@YB _ _ (4) _ _ _ _ Z1d.nd rfl (.inl rfl) (@Y7 _ _ _ _ _ _ _ _ _ _ _ _ F_maker_for hr (@Ya _ _ _ _ _ (pv 0) (@Ya _ _ _ _ _ (pv 1) Yc (by rfl)) (by rfl)) (by omega) (by rfl) (by rfl) (by decide) (by rfl) (by rfl)) (by rfl) (by first | exact .inl rfl | exact .inr rfl | assumption))) (@Yf _ _ _ _ _ (@Xd _ _ _ _ (@Vb _ _ _ _ _ _ _ _ _ _ _ _ _ Z1G hr Qv (@Ya _ _ _ _ _ (@WG _ _ _ _ (@Xq _ _ _ _ _ _ _ _ _ _ _ _ _ _ _ _ ZI Zk hr (pv 4) (@Ya _ _ _ _ _ (pv 2) Yc (by rfl)) (by omega) (by rfl) (by rfl) (by rfl) (by rfl)) (@Xq _ _ _ _ _ _ _ _ _ _ _ _ _ _ _ _ Zw Zi hr (pv 4) (@Ya _ _ _ _ _ (pv 2) Yc (by rfl)) (by omega) (by rfl) (by rfl) (by rfl) (by rfl))) (@Ya _ _ _ _ _ (pv 3) Yc (by rfl)) (by rfl)) (by omega) (by rfl) (by rfl) (by decide) (by rfl) (by rfl)) (by rfl)) (@Yh _ _ _ (PS.nox (@Yo _ _ _ _ (@Y7 _ _ _ _ _ _ _ _ _ _ _ _ F_all_made hr (@Ya _ _ _ _ _ (pv 4) (@Ya _ _ _ _ _ (pv 2) Yc (by rfl)) (by rfl)) (by omega) (by rfl) (by rfl) (by decide) (by rfl) (by rfl))))))),?_⟩
 walk_at "rd"
 refine ⟨a,b,sh,rfl,ha,fun p cl H1 s1 hp hcl ⟨dx,m1,m2⟩=>?_⟩
 have npc:p≠cl:=YN m1 m2 (by simp)
 have fin:∀ H2,SameBut cl H1 H2→H2 cl=some (.lst (YV (cnt sh) (max 0 (k+1))))→Z1q Z2 [.int (cnt sh k),.int m] H2 (fun _ H3=>Z0E g.K Z0 Z1 [.ref p,.int k] H3 Q E0) E:=fun H2 sb h2=>by
  have s2:=sb.new s1 hcl
  refine ⟨_,_,rfl,fun hle=>⟨p,dx,cl,sh,k+1,k,rfl,by omega,by omega,hok,by have:=Wn sh k;omega,sb _ _ npc m1,by rw [h2,show max 0 (k+1)=k+1 by omega],fun D H3 s3 hD hd=>q hle D H3 (s2.trans s3) (s2.free hD) hd⟩,fun hlt d hd=>qe hlt H2 d s2 hd⟩
 cases sh with
 | w lo span=>exact .inl ⟨p,rfl,_,_,m1,XX _ _,p,dx,cl,lo,span,0,k,rfl,by omega,by omega,m1,m2,fun H2 sb h2=>fin H2 sb h2⟩
 | t sg=>exact .inr ⟨p,rfl,_,_,m1,XX _ _,p,dx,cl,sg,0,k,rfl,by omega,.inr (by omega),by omega,by omega,hok.2,m1,m2,fun H2 sb h2=>fin H2 sb h2⟩
def Uw (v:V):Prop:=(∃ i,v = .int i)∨∃ s,v = .str s
def VG:Sp:=fun vs H Q _=>∃ v,vs=[v]∧Uw v∧Q v H
theorem Yas {Z3 Zb Z8 Zf Z9 Zc Z5 Zd Z6 Za Ze Z7 Z2 Z4 Z1 Z0:Addr} {c_law_right P_law_right:Addr} (R:g.Raw "copied" "copied" W0 ["thing"]) (b_dict:g.mg "dict"=none) (Zl:g.mg "isinstance"=none) (b_list:g.mg "list"=none) (Z0X:g.mg "tuple"=none):g.Fn (1) "copied" ["thing"] (VG):=by
 refine R.fn Yan (fun vs H Q E h=>by obtain ⟨v,rfl,hv,q⟩:=h;rfl) fun f_ cdv A outer s H vs Q E hr h=>?_
 obtain ⟨v,rfl,hv,q⟩:=h
 refine ⟨_,(@Yf _ _ _ _ _ (@YK _ _ _ _ _ _ _ _ (@YI _ _ _ (@Yv _ _ _ _ _ _ _ _ _ _ Zl Y6 (@Ya _ _ _ _ _ (pv 0) (@Ya _ _ _ _ _ (@Wk _ _ _ _ ("list") b_list (by decide +kernel) (by rfl) (by rfl) (by decide) (by decide)) Yc (by rfl)) (by rfl)) (by decide +kernel) (by rfl) (by rfl) (by decide) (by decide) (by rfl) (by rfl)) (by intro _;rfl)) (@Yh _ _ _ YZ) Yy) (@Yf _ _ _ _ _ (@YK _ _ _ _ _ _ _ _ (@YI _ _ _ (@Yv _ _ _ _ _ _ _ _ _ _ Zl Y6 (@Ya _ _ _ _ _ (pv 0) (@Ya _ _ _ _ _ (@Wk _ _ _ _ ("tuple") Z0X (by decide +kernel) (by rfl) (by rfl) (by decide) (by decide)) Yc (by rfl)) (by rfl)) (by decide +kernel) (by rfl) (by rfl) (by decide) (by decide) (by rfl) (by rfl)) (by intro _;rfl)) (@Yh _ _ _ YZ) Yy) (@Yf _ _ _ _ _ (@YK _ _ _ _ _ _ _ _ (@YI _ _ _ (@Yv _ _ _ _ _ _ _ _ _ _ Zl Y6 (@Ya _ _ _ _ _ (pv 0) (@Ya _ _ _ _ _ (@Wk _ _ _ _ ("dict") b_dict (by decide +kernel) (by rfl) (by rfl) (by decide) (by decide)) Yc (by rfl)) (by rfl)) (by decide +kernel) (by rfl) (by rfl) (by decide) (by decide) (by rfl) (by rfl)) (by intro _;rfl)) (@Yh _ _ _ YZ) Yy) (@Yh _ _ _ (@Yo _ _ _ _ (pv 0)))))),?_⟩
 walk_at "rd"
 rcases hv with ⟨i,rfl⟩ | ⟨z,rfl⟩
 ·exact ⟨_,rfl,_,.int i,false,rfl,YG (by decide) ⟨_,rfl,_,.int i,false,rfl,YG (by decide) ⟨_,rfl,_,.int i,false,rfl,YG (by decide) q⟩⟩⟩
 ·exact ⟨_,rfl,_,.str z,false,rfl,YG (by decide) ⟨_,rfl,_,.str z,false,rfl,YG (by decide) ⟨_,rfl,_,.str z,false,rfl,YG (by decide) q⟩⟩⟩
def NL (H H':Hp):Prop:=(∀ b xs,H b=some (.tup xs)→H' b=some (.tup xs))∧(∀ b φ,H b=some (.ext φ)→H' b=some (.ext φ))∧∀ b o u,H b=some (.frz o u)→H' b=some (.frz o u)
theorem NL.refl (H:Hp):NL H H:=⟨fun _ _ e=>e,fun _ _ e=>e,fun _ _ _ e=>e⟩
theorem NL.trans {H H1 H2:Hp} (a:NL H H1) (b:NL H1 H2):NL H H2:=⟨fun c o e=>b.1 c o (a.1 c o e),fun c o e=>b.2.1 c o (a.2.1 c o e),fun c o u e=>b.2.2 c o u (a.2.2 c o u e)⟩
theorem Ybr {H H':Hp} (s:Yj H H'):NL H H':=⟨fun b o e=>s b _ e,fun b o e=>s b _ e,fun b o u e=>s b _ e⟩
abbrev Okf (g:Gx) (f:Addr) (fd:FuncData) (ps:List Str) (sp:Sp):Prop:=FnOk g.P g.w g.K g.mg g.base CX0 2 f fd ps sp∧∀ us:List Value,us.length=ps.length→bindArgs fd ⟨us,[]⟩=pure (ps.zip us)
def WM (g:Gx) (H:Hp) (f asked:Addr):Prop:=∃ fd sp,Okf g f fd ["_law_value"] sp∧H f=some (FnO f fd) ∧
 ∀ (H1:Hp) (x:V) (xs:List V) (Q:VK),NL H H1→H1 asked=some (.lst xs)→xs.length≤10000→Q (.bl true) (upd H1 asked (.lst (xs++[x])))→H1 f=some (FnO f fd)∧sp [x] H1 Q E0
theorem WM.nl {g:Gx} {H H':Hp} {f asked:Addr} (h:WM g H f asked) (n:NL H H'):WM g H' f asked:=by
 obtain ⟨fd,sp,h1,h2,h3⟩:=h
 exact ⟨fd,sp,h1,n.2.1 _ _ h2,fun H1 x xs Q n1=>h3 H1 x xs Q (n.trans n1)⟩
def Ux (g:Gx):Sp:=fun vs H Q _=>∃ (f asked:Addr) (x:V) (xs:List V),vs=[.ref f,x]∧Uw x∧WM g H f asked∧H asked=some (.lst xs)∧xs.length≤10000∧Q (.bl true) (upd H asked (.lst (xs++[x])))
theorem YaZ {k:Nat} {Z3 Zb Z8 Zf Z9 Zc Z5 Zd Z6 Za Ze Z7 Z2 Z4 Z1 Z0:Addr} {c_law_right P_law_right:Addr} (R:g.Raw "holds" "holds" Vq ["judge","value"]) (F_copied:g.Fn k "copied" ["thing"] (VG)) (hkc:2≤k):g.Fn (k+1) "holds" ["judge","value"] (Ux g):=by
 refine R.fn YaX (fun vs H Q E h=>by obtain ⟨f,asked,x,xs,rfl,hx,⟨fd1,sp1,ok1,hf1,hf1c⟩,ha,hl,q⟩:=h;rfl) fun f_ cdv A outer s H vs Q E hr h=>?_
 obtain ⟨f,asked,x,xs,rfl,hx,⟨fd1,sp1,ok1,hf1,hf1c⟩,ha,hl,q⟩:=h
 refine ⟨_,(@Yh _ _ _ (@Yo _ _ _ _ (@Vh _ _ _ _ _ _ _ _ Ycs (@YaK _ (g) _ (2) _ _ _ _ _ _ 0 hr (@Ya _ _ _ _ _ (@Y7 _ _ _ _ _ _ _ _ _ _ _ _ F_copied hr (@Ya _ _ _ _ _ (pv 1) Yc (by rfl)) (by omega) (by rfl) (by rfl) (by decide) (by rfl) (by rfl)) Yc (by rfl)) (by omega) (by rfl) (by rfl) (by first | exact .inl rfl | exact .inr (.inl rfl) | exact .inr (.inr rfl)) (by decide) (by decide) (by rfl) (by rfl)) Wg (YC _)))),?_⟩
 walk_at "rd"
 refine ⟨f,fd1,_,sp1,rfl,ok1.1,ok1.2,hf1,?_⟩
 walk_at "rd"
 exact ⟨x,rfl,hx,hf1c H x xs _ (.refl _) ha hl ⟨_,rfl,q⟩⟩
theorem Yat {K:PySem.W.Frag} {src:List (Option Nat)} {te tl:TE} {tt:TT} {gg:TG} {σ:St} {H:Hp} {Q:VK} (h:∀ R:V→Hp→Prop,tl σ H R):tLC src (Qd K tl) gg tt te σ H Q:=h _
theorem Yb5 {K:PySem.W.Frag} {src:List (Option Nat)} {te tl:TE} {tt:TT} {σ:St} {H:Hp} {Q:VK} (G:Addr→List V→Hp→Prop) (ha:∀ R:V→Hp→Prop,(∀ b xs H1,SqL K H1 b xs→G b xs H1→R (.ref b) H1)→tl σ H R)
  (hb:∀ b xs H1 D,SqL K H1 b xs→G b xs H1→H1 D=none→∃ Pv:Nat→List V→St→Hp→Prop,Pv 0 [] (none::YW src σ) (upd H1 D (.lst []))∧(∀ i zs σ' H',Pv i zs σ' H'→SqL K H' b xs∧H' D=some (.lst zs)) ∧
   (∀ (i:Nat) zs σ' H' x,xs[i]?=some x→Pv i zs σ' H'→Xi 0 x σ' H' fun σ2 H4=>tt σ2 H4 fun bb H5=>if bb=true then te σ2 H5 (fun y H6=>H6 D=some (.lst zs)∧zs.length<sizeLine∧Pv (i+1) (zs++[y]) σ2 (upd H6 D (.lst (zs++[y])))) else Pv (i+1) zs σ2 H5)∧(∀ zs σ' H',Pv xs.length zs σ' H'→Q (.ref D) H')):tLC (none::src) (Qd K tl) (Xi 0) tt te σ H Q :=
 ha _ fun b xs H1 hS hG=>⟨b,rfl,⟨xs,hS⟩,fun D hD=>by
  obtain ⟨Pv,h0,h1,h2,h3⟩:=hb b xs H1 D hS hG hD
  exact Ybi Qr Pv h0 h1 h2 h3⟩
def VH (g:Gx) (C:Addr):Sp:=fun vs H Q E=>∃ (b:V) (a:Addr) (sh:Sh) (k:Nat) (m:Int) (f asked:Addr) (xs:List V),vs=[b,.ref a,.int k,.ref f,.int m]∧WJ H a sh∧sh.ok2∧k≤30∧m≤2000∧WM g H f asked∧H asked=some (.lst xs)∧xs.length≤5000 ∧
 (cnt sh k≤m→∀ D H',(∀ q o,q≠asked→H q=some o→H' q=some o)→H D=none→H' D=some (.lst (vls sh k))→H' asked=some (.lst (xs++vls sh k))→Q (.ref D) H')∧(m<cnt sh k→∀ H' d,Yj H H'→H' d=none→E (.ref C) (some d) (upd H' d (YU d (WL (cnt sh k) m))))
theorem Yau {k:Nat} {Z3 Zb Z8 Zf Z9 Zc Z5 Zd Z6 Za Ze Z7 Z2 Z4 Z1 Z0:Addr} {c_law_right P_law_right:Addr} (R:g.RawDX "sieved" "sieved" W1 ["book","shape","size","judge","most"] [.int 400]) (Z0f:g.FnDX k "all_values" ["book","shape","size","most"] [.int 400] (Z0l g.K Z2)) (F_holds:g.Fn k "holds" ["judge","value"] (Ux g)):g.FnDX (k+1) "sieved" ["book","shape","size","judge","most"] [.int 400] (VH g Z2):=by
 refine R.fnDX Yao (fun vs H Q E h=>by obtain ⟨b,a,sh,k,m,f,asked,xs,rfl,ha,hok,hk,hm,hj,hA,hxl,q,qe⟩:=h;rfl) fun f_ cdv A outer s H vs Q E hr h=>?_
 obtain ⟨b,a,sh,k,m,f,asked,xs,rfl,ha,hok,hk,hm,hj,hA,hxl,q,qe⟩:=h
 refine ⟨_,(@Yh _ _ _ (@Yo _ _ _ _ (@Ybh _ _ _ _ _ _ _ ([none,some 3]) ((["value","judge"]:List Str)) _ (Xi 0) _ _ (.own (.cap (i:=3) rfl rfl (by first | exact .inl rfl | exact .inr rfl) .nil)) rfl (@Ybx _ _ _ _ (@Vb _ _ _ _ _ _ _ _ _ _ _ _ _ Z0f.full hr Qv (@Ya _ _ _ _ _ (pv 0) (@Ya _ _ _ _ _ (pv 1) (@Ya _ _ _ _ _ (pv 2) (@Ya _ _ _ _ _ (pv 4) Yc (by rfl)) (by rfl)) (by rfl)) (by rfl)) (by omega) (by rfl) (by rfl) (by decide) (by rfl) (by rfl))) (fun cl C s₀ H₀ fp pn=>(@WO _ _ (0) _ (show List.Nodup (["value","judge"]:List Str) by decide +kernel) rfl (.inl rfl) (.inr rfl))) (fun cl C s₀ H₀ fp pn=>(@YbM _ _ _ (@YI _ _ _ (@Y7 _ _ _ _ _ _ _ _ _ _ _ _ F_holds hr (@Ya _ _ _ _ _ (pv 1) (@Ya _ _ _ _ _ (pv 0) Yc (by rfl)) (by rfl)) (by omega) (by rfl) (by rfl) (by decide) (by rfl) (by rfl)) (by intro _;rfl)))) (fun cl C s₀ H₀ fp pn=>(pv 0)) (by intro x hx;simp at hx;first | (subst hx;exact .inl rfl) | (rcases hx with rfl | rfl<;>exact .inl rfl) | (rcases hx with rfl | rfl | rfl<;>exact .inl rfl) | (rcases hx with rfl | rfl | rfl | rfl<;>exact .inl rfl) | (rcases hx with rfl | rfl | rfl | rfl | rfl<;>exact .inl rfl)) (by rfl) (by decide) (by decide +kernel) (by intro _;rfl)))),?_⟩
 walk_at "rd"
 by_cases hc:cnt sh k≤m
 rotate_left
 ·refine Yat fun R=>?_
  walk_at "rd"
  exact ⟨b,a,sh,k,m,rfl,ha,hok,hk,hm,fun z=>absurd z hc,fun z H' d s' hd=>qe z H' d s' hd⟩
 have hcl:(cnt sh k).toNat≤2000:=by omega
 refine Yb5 (K:=g.K) (fun c ys H1=>ys=vls sh k∧Yj H H1∧H c=none∧H1 c=some (.lst (vls sh k))) (fun R r=>?_) ?_
 ·walk_at "rd"
  exact ⟨b,a,sh,k,m,rfl,ha,hok,hk,hm,fun _ D H' s' hD hd=>r D _ H' (SqL.of hd) ⟨rfl,s',hD,hd⟩,fun z=>absurd hc (by omega)⟩
 ·rintro c ys H1 D hS ⟨rfl,s1,hcn,hc1⟩ hD
  have hA1:=s1 _ _ hA
  have nDA:D≠asked:=Ne.symm (Yg hA1 hD)
  have ncA:c≠asked:=Ne.symm (Yg hA hcn)
  have ncD:c≠D:=Yg hc1 hD
  refine ⟨fun i zs σ' H'=>zs=(vls sh k).take i∧(∃ o,σ'=[o,some (.ref f)])∧H' D=some (.lst zs)∧H' asked=some (.lst (xs++(vls sh k).take i))∧∀ q o,q≠asked→q≠D→H1 q=some o→H' q=some o,?_,?_,?_,?_⟩
  ·refine ⟨by simp,⟨_,rfl⟩,Ye,?_,fun q o _ h2 h=>by rw [Yb h2];exact h⟩
   rw [Yb (Ne.symm nDA),hA1]
   simp
  ·rintro i zs σ' H' ⟨rfl,_,h1,h2,h3⟩
   exact ⟨SqL.of (h3 _ _ ncA ncD hc1),h1⟩
  ·rintro i zs σ' H' x hx ⟨rfl,⟨o,rfl⟩,h1,h2,h3⟩
   have hi:=(List.getElem?_eq_some_iff.mp hx).1
   rw [Vr] at hi
   have hxs:Uw x:=by
    rw [vls,List.getElem?_map] at hx
    obtain ⟨j,_,rfl⟩:=Option.map_eq_some_iff.mp hx
    cases sh with
    | w lo span=>exact .inl ⟨_,rfl⟩
    | t sg=>exact .inr ⟨_,rfl⟩
   have nl:NL H H':=by
    have key:∀ b o,(∀ l,o ≠ .lst l)→H b=some o→H' b=some o:=fun b o no e=>h3 b o (YN e hA (fun z=>no _ z)) (Yg (s1 _ _ e) hD) (s1 _ _ e)
    exact ⟨fun b l e=>key b _ (by intro l z;cases z) e,fun b l e=>key b _ (by intro l z;cases z) e,fun b l u e=>key b _ (by intro l z;cases z) e⟩
   have tk:=VC hx
   have ltk:((vls sh k).take i).length≤2000:=by rw [List.length_take,Vr];omega
   walk_at "rd"
   refine ⟨f,asked,x,_,rfl,hxs,hj.nl nl,h2,by rw [List.length_append];omega,_,rfl,XT rfl ⟨by rw [Yb nDA];exact h1,Nat.lt_of_le_of_lt ltk (by decide),tk.symm,Ye,?_,fun q o n1 n2 e=>?_⟩⟩
   ·rw [Yb (Ne.symm nDA),Ye,tk,List.append_assoc]
   ·rw [Yb n2,Yb n1]
    exact h3 q o n1 n2 e
  ·rintro zs σ' H' ⟨rfl,_,h1,h2,h3⟩
   rw [List.take_length] at h1 h2
   exact q hc D H' (fun q o n1 e=>h3 q o n1 (Yg (s1 _ _ e) hD) (s1 _ _ e)) (s1.free hD) h1 h2
def Z1t (C:Addr):Sp:=fun vs H Q _=>∃ (a d:Addr),vs=[.ref a]∧H a=some (Xe a (.ref C) (some d))∧Q (.bl true) H
theorem Uy {Z3 Zb Z8 Zf Z9 Zc Z5 Zd Z6 Za Ze Z7 Z2 Z4 Z1 Z0:Addr} {c_law_right P_law_right:Addr} (R:g.Raw "_law_alone" "_law_alone" Z0v ["_law_e"]) (ZX:g.mg "ValueError"=none) (Zl:g.mg "isinstance"=none) (x_Astray:g.mg "Astray"=some (.ref Ze)) (x_CountError:g.mg "CountError"=some (.ref Z3)) (x_Crowded:g.mg "Crowded"=some (.ref Z8)) (x_NoBreach:g.mg "NoBreach"=some (.ref Z7)) (x_NoDraw:g.mg "NoDraw"=some (.ref Zd)) (x_NoGround:g.mg "NoGround"=some (.ref Z5)) (x_NoName:g.mg "NoName"=some (.ref Zc)) (x_NoNote:g.mg "NoNote"=some (.ref Zb)) (x_NoNumber:g.mg "NoNumber"=some (.ref Z6)) (x_NoRange:g.mg "NoRange"=some (.ref Z9)) (x_NoValue:g.mg "NoValue"=some (.ref Za)) (x_TooMany:g.mg "TooMany"=some (.ref Z2)) (x_Twice:g.mg "Twice"=some (.ref Zf)) (t_TooMany:ExcT g.K Z2) (i_TooMany_NoNote:PySem.W.kitOne g.K (.ref Z2) (.ref Zb)=some false) (i_TooMany_Crowded:PySem.W.kitOne g.K (.ref Z2) (.ref Z8)=some false) (i_TooMany_Twice:PySem.W.kitOne g.K (.ref Z2) (.ref Zf)=some false) (i_TooMany_NoRange:PySem.W.kitOne g.K (.ref Z2) (.ref Z9)=some false) (i_TooMany_NoName:PySem.W.kitOne g.K (.ref Z2) (.ref Zc)=some false) (i_TooMany_NoGround:PySem.W.kitOne g.K (.ref Z2) (.ref Z5)=some false) (i_TooMany_NoDraw:PySem.W.kitOne g.K (.ref Z2) (.ref Zd)=some false) (i_TooMany_NoNumber:PySem.W.kitOne g.K (.ref Z2) (.ref Z6)=some false) (i_TooMany_NoValue:PySem.W.kitOne g.K (.ref Z2) (.ref Za)=some false) (i_TooMany_Astray:PySem.W.kitOne g.K (.ref Z2) (.ref Ze)=some false) (i_TooMany_NoBreach:PySem.W.kitOne g.K (.ref Z2) (.ref Z7)=some false) (i_TooMany_TooMany:PySem.W.kitOne g.K (.ref Z2) (.ref Z2)=some true) (i_TooMany_CountError:PySem.W.kitOne g.K (.ref Z2) (.ref Z3)=some true) (i_TooMany_ValueError:PySem.W.kitOne g.K (.ref Z2) (.type "ValueError")=some true):g.FnM (1) "_law_alone" ["_law_e"] (Z1t Z2):=by
 refine R.fnM Up (fun vs H Q E h=>by obtain ⟨a,d,rfl,ha,q⟩:=h;rfl) fun f_ cdv A outer s H vs Q E hr h=>?_
 obtain ⟨a,d,rfl,ha,q⟩:=h
 refine ⟨_,(@Yf _ _ _ _ _ (@YK _ _ _ _ _ _ _ _ (@Xn _ _ _ _ _ _ _ (@YI _ _ _ (@Yv _ _ _ _ _ _ _ _ _ _ Zl (Yt (K:=g.K) t_TooMany) (@Ya _ _ _ _ _ (pv 0) (@Ya _ _ _ _ _ (@YT _ _ _ _ _ x_NoNote (by rfl) (by rfl) (by decide)) Yc (by rfl)) (by rfl)) (by decide +kernel) (by rfl) (by rfl) (by decide) (by decide) (by rfl) (by rfl)) (by intro _;rfl)) (@Xn _ _ _ _ _ _ _ (@YI _ _ _ (@Yv _ _ _ _ _ _ _ _ _ _ Zl (Yt (K:=g.K) t_TooMany) (@Ya _ _ _ _ _ (pv 0) (@Ya _ _ _ _ _ (@YT _ _ _ _ _ x_Crowded (by rfl) (by rfl) (by decide)) Yc (by rfl)) (by rfl)) (by decide +kernel) (by rfl) (by rfl) (by decide) (by decide) (by rfl) (by rfl)) (by intro _;rfl)) (@Xn _ _ _ _ _ _ _ (@YI _ _ _ (@Yv _ _ _ _ _ _ _ _ _ _ Zl (Yt (K:=g.K) t_TooMany) (@Ya _ _ _ _ _ (pv 0) (@Ya _ _ _ _ _ (@YT _ _ _ _ _ x_Twice (by rfl) (by rfl) (by decide)) Yc (by rfl)) (by rfl)) (by decide +kernel) (by rfl) (by rfl) (by decide) (by decide) (by rfl) (by rfl)) (by intro _;rfl)) (@Wr _ _ _ _ (@YI _ _ _ (@Yv _ _ _ _ _ _ _ _ _ _ Zl (Yt (K:=g.K) t_TooMany) (@Ya _ _ _ _ _ (pv 0) (@Ya _ _ _ _ _ (@YT _ _ _ _ _ x_NoRange (by rfl) (by rfl) (by decide)) Yc (by rfl)) (by rfl)) (by decide +kernel) (by rfl) (by rfl) (by decide) (by decide) (by rfl) (by rfl)) (by intro _;rfl)))))).pt (@Yh _ _ _ (@Yo _ _ _ _ Wg)) Yy) (@Yf _ _ _ _ _ (@YK _ _ _ _ _ _ _ _ (@Xn _ _ _ _ _ _ _ (@YI _ _ _ (@Yv _ _ _ _ _ _ _ _ _ _ Zl (Yt (K:=g.K) t_TooMany) (@Ya _ _ _ _ _ (pv 0) (@Ya _ _ _ _ _ (@YT _ _ _ _ _ x_NoName (by rfl) (by rfl) (by decide)) Yc (by rfl)) (by rfl)) (by decide +kernel) (by rfl) (by rfl) (by decide) (by decide) (by rfl) (by rfl)) (by intro _;rfl)) (@Xn _ _ _ _ _ _ _ (@YI _ _ _ (@Yv _ _ _ _ _ _ _ _ _ _ Zl (Yt (K:=g.K) t_TooMany) (@Ya _ _ _ _ _ (pv 0) (@Ya _ _ _ _ _ (@YT _ _ _ _ _ x_NoGround (by rfl) (by rfl) (by decide)) Yc (by rfl)) (by rfl)) (by decide +kernel) (by rfl) (by rfl) (by decide) (by decide) (by rfl) (by rfl)) (by intro _;rfl)) (@Xn _ _ _ _ _ _ _ (@YI _ _ _ (@Yv _ _ _ _ _ _ _ _ _ _ Zl (Yt (K:=g.K) t_TooMany) (@Ya _ _ _ _ _ (pv 0) (@Ya _ _ _ _ _ (@YT _ _ _ _ _ x_NoDraw (by rfl) (by rfl) (by decide)) Yc (by rfl)) (by rfl)) (by decide +kernel) (by rfl) (by rfl) (by decide) (by decide) (by rfl) (by rfl)) (by intro _;rfl)) (@Wr _ _ _ _ (@YI _ _ _ (@Yv _ _ _ _ _ _ _ _ _ _ Zl (Yt (K:=g.K) t_TooMany) (@Ya _ _ _ _ _ (pv 0) (@Ya _ _ _ _ _ (@YT _ _ _ _ _ x_NoNumber (by rfl) (by rfl) (by decide)) Yc (by rfl)) (by rfl)) (by decide +kernel) (by rfl) (by rfl) (by decide) (by decide) (by rfl) (by rfl)) (by intro _;rfl)))))).pt (@Yh _ _ _ (@Yo _ _ _ _ Wg)) Yy) (@Yf _ _ _ _ _ (@YK _ _ _ _ _ _ _ _ (@Xn _ _ _ _ _ _ _ (@YI _ _ _ (@Yv _ _ _ _ _ _ _ _ _ _ Zl (Yt (K:=g.K) t_TooMany) (@Ya _ _ _ _ _ (pv 0) (@Ya _ _ _ _ _ (@YT _ _ _ _ _ x_NoValue (by rfl) (by rfl) (by decide)) Yc (by rfl)) (by rfl)) (by decide +kernel) (by rfl) (by rfl) (by decide) (by decide) (by rfl) (by rfl)) (by intro _;rfl)) (@Xn _ _ _ _ _ _ _ (@YI _ _ _ (@Yv _ _ _ _ _ _ _ _ _ _ Zl (Yt (K:=g.K) t_TooMany) (@Ya _ _ _ _ _ (pv 0) (@Ya _ _ _ _ _ (@YT _ _ _ _ _ x_Astray (by rfl) (by rfl) (by decide)) Yc (by rfl)) (by rfl)) (by decide +kernel) (by rfl) (by rfl) (by decide) (by decide) (by rfl) (by rfl)) (by intro _;rfl)) (@Wr _ _ _ _ (@YI _ _ _ (@Yv _ _ _ _ _ _ _ _ _ _ Zl (Yt (K:=g.K) t_TooMany) (@Ya _ _ _ _ _ (pv 0) (@Ya _ _ _ _ _ (@YT _ _ _ _ _ x_NoBreach (by rfl) (by rfl) (by decide)) Yc (by rfl)) (by rfl)) (by decide +kernel) (by rfl) (by rfl) (by decide) (by decide) (by rfl) (by rfl)) (by intro _;rfl))))).pt (@Yh _ _ _ (@Yo _ _ _ _ Wg)) Yy) (@Yh _ _ _ (@Yo _ _ _ _ (@V0 _ _ _ _ _ _ _ (@Yv _ _ _ _ _ _ _ _ _ _ Zl (Yt (K:=g.K) t_TooMany) (@Ya _ _ _ _ _ (pv 0) (@Ya _ _ _ _ _ (@YT _ _ _ _ _ x_TooMany (by rfl) (by rfl) (by decide)) Yc (by rfl)) (by rfl)) (by decide +kernel) (by rfl) (by rfl) (by decide) (by decide) (by rfl) (by rfl)) (@V0 _ _ _ _ _ _ _ (@Yv _ _ _ _ _ _ _ _ _ _ Zl (Yt (K:=g.K) t_TooMany) (@Ya _ _ _ _ _ (pv 0) (@Ya _ _ _ _ _ (@YT _ _ _ _ _ x_CountError (by rfl) (by rfl) (by decide)) Yc (by rfl)) (by rfl)) (by decide +kernel) (by rfl) (by rfl) (by decide) (by decide) (by rfl) (by rfl)) (@VZ _ _ _ _ _ (@Yv _ _ _ _ _ _ _ _ _ _ Zl (Yt (K:=g.K) t_TooMany) (@Ya _ _ _ _ _ (pv 0) (@Ya _ _ _ _ _ (@Wk _ _ _ _ ("ValueError") ZX (by decide +kernel) (by rfl) (by rfl) (by decide) (by decide)) Yc (by rfl)) (by rfl)) (by decide +kernel) (by rfl) (by rfl) (by decide) (by decide) (by rfl) (by rfl)))))))))),?_⟩
 walk_at "rd"
 exact ⟨_,rfl,false,_,ha,i_TooMany_NoNote,YG (by decide) ⟨_,rfl,false,_,ha,i_TooMany_Crowded,YG (by decide) ⟨_,rfl,false,_,ha,i_TooMany_Twice,YG (by decide) ⟨_,rfl,false,_,ha,i_TooMany_NoRange,YG (by decide) ⟨_,rfl,false,_,ha,i_TooMany_NoName,YG (by decide) ⟨_,rfl,false,_,ha,i_TooMany_NoGround,YG (by decide) ⟨_,rfl,false,_,ha,i_TooMany_NoDraw,YG (by decide) ⟨_,rfl,false,_,ha,i_TooMany_NoNumber,YG (by decide) ⟨_,rfl,false,_,ha,i_TooMany_NoValue,YG (by decide) ⟨_,rfl,false,_,ha,i_TooMany_Astray,YG (by decide) ⟨_,rfl,false,_,ha,i_TooMany_NoBreach,YG (by decide) ⟨_,rfl,true,_,ha,i_TooMany_TooMany,XT rfl ⟨_,rfl,true,_,ha,i_TooMany_CountError,XT rfl ⟨_,rfl,true,_,ha,i_TooMany_ValueError,q⟩⟩⟩⟩⟩⟩⟩⟩⟩⟩⟩⟩⟩⟩
def due (c bound:Int):List V:=if c≤bound then [.int c,.non] else [.int c,.int bound]
def bnd (mo:V) (m:Int):Prop:=(mo = .non∧m=400)∨mo = .int m
def JOpt (g:Gx) (H:Hp) (j:V) (A:Option Addr):Prop:=match A with
 | none=>j = .non
 | some a=>∃ f,j = .ref f∧WM g H f a∧∃ xs,H a=some (.lst xs)∧xs.length≤5000
theorem Ya0 {K:PySem.W.Frag} {cv:Value} {t:TBd} {j:Nat} {ts:TS} {D:Ends} {σ:St} {H:Hp} (h:∀ E:XK,(∀ cls dc H2,(PySem.W.exmOne K cls cv=some true∧∀ a,H2 a=none→ts (D.gone j) (σ.set j (some (.ref a))) (upd H2 a (Xe a cls dc)))→E cls dc H2)→t D.nx E σ H):Ybp K cv t j ts D σ H:=h _ fun _ _ _ z=>z
def Z1N (g:Gx):Sp:=fun vs H Q _=>∃ (a:Addr) (sh:Sh) (k:Nat) (mo j:V) (m:Int) (A:Option Addr),vs=[.ref a,.int k,mo,j]∧WJ H a sh∧sh.ok2∧k≤30∧m≤2000∧bnd mo m∧JOpt g H j A ∧
 ∀ t H',H' t=some (.tup (due (cnt sh k) m))→(∀ q o,A≠some q→H q=some o→H' q=some o)→(¬ cnt sh k≤m→Yj H H')→Q (.ref t) H'
theorem UK {k:Nat} {Z3 Zb Z8 Zf Z9 Zc Z5 Zd Z6 Za Ze Z7 Z2 Z4 Z1 Z0:Addr} {c_law_right P_law_right:Addr} (R:g.Raw "_law_told" "_law_told" Z12 ["_law_shape","_law_size","_law_most_here","_law_judge"]) (Z0f:g.FnDX k "all_values" ["book","shape","size","most"] [.int 400] (Z0l g.K Z2)) (F_sieved:g.FnDX k "sieved" ["book","shape","size","judge","most"] [.int 400] (VH g Z2)) (Z1O:g.FnM k "_law_whole" ["_law_found"] (Z1l)) (F_law_alone:g.FnM k "_law_alone" ["_law_e"] (Z1t Z2)) (xn_TooMany_count:PySem.W.findIn g.K (.ref Z2) "count"=some none) (xn_TooMany_most:PySem.W.findIn g.K (.ref Z2) "most"=some none) (Zl:g.mg "isinstance"=none) (b_len:g.mg "len"=none) (b_list:g.mg "list"=none) (x_CountError:g.mg "CountError"=some (.ref Z3)) (t_TooMany:ExcT g.K Z2) (m_TooMany_CountError:PySem.W.exmOne g.K (.ref Z2) (.ref Z3)=some true):g.Fn (k+1) "_law_told" ["_law_shape","_law_size","_law_most_here","_law_judge"] (Z1N g):=by
 refine R.fn ZA (fun vs H Q E h=>by obtain ⟨a,sh,k,mo,j,m,A,rfl,ha,hok,hk,hm,hb,hj,q⟩:=h;rfl) fun f_ cdv A outer s H vs Q E hr h=>?_
 obtain ⟨a,sh,k,mo,j,m,A,rfl,ha,hok,hk,hm,hb,hj,q⟩:=h
 refine ⟨_,(@Yf _ _ _ _ _ (@YB _ _ (4) _ _ _ _ ZA.nd rfl (.inl rfl) Y8 (by rfl) (by first | exact .inl rfl | exact .inr rfl | assumption)) (@Yf _ _ _ _ _ (@Yb1 _ _ (5) _ _ _ _ _ _ _ _ _ _ _ (@QG _ _ _ _ _ _ _ _ (@Ycd _ _ _ _ _ _ _ (@Yz _ _ _ _ _ _ _ _ Wv (pv 3) Y8 (YC _)) (@Ybw _ _ _ _ (@Yz _ _ _ _ _ _ _ _ Wv (pv 2) Y8 (YC _)))).pt (@Ul _ _ _ _ (4) _ _ _ _ _ _ _ _ _ _ _ _ Z0f hr ZA.nd rfl (.inl rfl) (@Ya _ _ _ _ _ (@Xg _ _ _ _ Yc) (@Ya _ _ _ _ _ (pv 0) (@Ya _ _ _ _ _ (pv 1) Yc (by rfl)) (by rfl)) (Wl _ _ _ _)) (by omega) (by rfl) (by rfl) (by decide) (by rfl) (by rfl) (by rfl) (by first | exact .inl rfl | exact .inr rfl)) (@QG _ _ _ _ _ _ _ _ (@Yz _ _ _ _ _ _ _ _ Wv (pv 3) Y8 (YC _)) (@U6 _ _ _ _ (4) _ _ _ _ _ _ _ _ _ _ _ Z0f.full hr ZA.nd rfl (.inl rfl) (@Ya _ _ _ _ _ (@Xg _ _ _ _ Yc) (@Ya _ _ _ _ _ (pv 0) (@Ya _ _ _ _ _ (pv 1) (@Ya _ _ _ _ _ (pv 2) Yc (by rfl)) (by rfl)) (by rfl)) (Wl _ _ _ _)) (by omega) (by rfl) (by rfl) (by decide) (by rfl) (by rfl) (by rfl) (by first | exact .inl rfl | exact .inr rfl)) (@QG _ _ _ _ _ _ _ _ (@Yz _ _ _ _ _ _ _ _ Wv (pv 2) Y8 (YC _)) (@Ul _ _ _ _ (4) _ _ _ _ _ _ _ _ _ _ _ _ F_sieved hr ZA.nd rfl (.inl rfl) (@Ya _ _ _ _ _ (@Xg _ _ _ _ Yc) (@Ya _ _ _ _ _ (pv 0) (@Ya _ _ _ _ _ (pv 1) (@Ya _ _ _ _ _ (pv 3) Yc (by rfl)) (by rfl)) (by rfl)) (Wl _ _ _ _)) (by omega) (by rfl) (by rfl) (by decide) (by rfl) (by rfl) (by rfl) (by first | exact .inl rfl | exact .inr rfl)) (@U6 _ _ _ _ (4) _ _ _ _ _ _ _ _ _ _ _ F_sieved.full hr ZA.nd rfl (.inl rfl) (@Ya _ _ _ _ _ (@Xg _ _ _ _ Yc) (@Ya _ _ _ _ _ (pv 0) (@Ya _ _ _ _ _ (pv 1) (@Ya _ _ _ _ _ (pv 3) (@Ya _ _ _ _ _ (pv 2) Yc (by rfl)) (by rfl)) (by rfl)) (by rfl)) (Wl _ _ _ _)) (by omega) (by rfl) (by rfl) (by decide) (by rfl) (by rfl) (by rfl) (by first | exact .inl rfl | exact .inr rfl))))) ZA.nd rfl rfl x_CountError (fun _=>(@Yf _ _ _ _ _ (@YK _ _ _ _ _ _ _ _ (@Xn _ _ _ _ _ _ _ (@Ws _ _ _ _ (@YI _ _ _ (@Ud _ _ _ _ _ _ _ _ _ _ _ _ F_law_alone (hr.m _) (@Ya _ _ _ _ _ (pv 5) Yc (by rfl)) (by omega) (by rfl) (by rfl) (by decide) (by rfl) (by rfl)) (by intro _;rfl))) (@Xn _ _ _ _ _ _ _ (@Ws _ _ _ _ (@YI _ _ _ (@Ud _ _ _ _ _ _ _ _ _ _ _ _ Z1O (hr.m _) (@Ya _ _ _ _ _ (@VW _ _ _ _ _ _ _ t_TooMany xn_TooMany_count (pv 5) (by rfl) (by rfl)) Yc (by rfl)) (by omega) (by rfl) (by rfl) (by decide) (by rfl) (by rfl)) (by intro _;rfl))) (@Wr _ _ _ _ (@Ws _ _ _ _ (@YI _ _ _ (@Ud _ _ _ _ _ _ _ _ _ _ _ _ Z1O (hr.m _) (@Ya _ _ _ _ _ (@VW _ _ _ _ _ _ _ t_TooMany xn_TooMany_most (pv 5) (by rfl) (by rfl)) Yc (by rfl)) (by omega) (by rfl) (by rfl) (by decide) (by rfl) (by rfl)) (by intro _;rfl)))))).pt (@Yh _ _ _ (@Yo _ _ _ _ (@XB _ _ _ _ _ (@Ya _ _ _ _ _ Xf (@Ya _ _ _ _ _ Yi Yc (by rfl)) (by rfl))))) Yy) (@Yh _ _ _ (@Yo _ _ _ _ (@XB _ _ _ _ _ (@Ya _ _ _ _ _ (@VW _ _ _ _ _ _ _ t_TooMany xn_TooMany_count (pv 5) (by rfl) (by rfl)) (@Ya _ _ _ _ _ (@VW _ _ _ _ _ _ _ t_TooMany xn_TooMany_most (pv 5) (by rfl) (by rfl)) Yc (by rfl)) (by rfl))))))) (by rfl) (by rfl) (by rfl) (by rfl) (by decide)) (@Yf _ _ _ _ _ (@YK _ _ _ _ _ _ _ _ (@Ws _ _ _ _ (@YI _ _ _ (@Yv _ _ _ _ _ _ _ _ _ _ Zl Y6 (@Ya _ _ _ _ _ (pv 4) (@Ya _ _ _ _ _ (@Wk _ _ _ _ ("list") b_list (by decide +kernel) (by rfl) (by rfl) (by decide) (by decide)) Yc (by rfl)) (by rfl)) (by decide +kernel) (by rfl) (by rfl) (by decide) (by decide) (by rfl) (by rfl)) (by intro _;rfl))) (@Yh _ _ _ (@Yo _ _ _ _ (@XB _ _ _ _ _ (@Ya _ _ _ _ _ Xf (@Ya _ _ _ _ _ Yi Yc (by rfl)) (by rfl))))) Yy) (@Yh _ _ _ (@Yo _ _ _ _ (@XB _ _ _ _ _ (@Ya _ _ _ _ _ (@Yv _ _ _ _ _ _ _ _ _ _ b_len Y0 (@Ya _ _ _ _ _ (pv 4) Yc (by rfl)) (by decide +kernel) (by rfl) (by rfl) (by decide) (by decide) (by rfl) (by rfl)) (@Ya _ _ _ _ _ Y8 Yc (by rfl)) (by rfl)))))))),?_⟩
 refine Ub (fun σ H'=>∃ D o,σ=[some (.ref a),some (.int k),some mo,some j,some (.ref D),o]∧H' D=some (.lst (vls sh k))∧cnt sh k≤m∧∀ q o,A≠some q→H q=some o→H' q=some o) ?_ ?_
 ·rintro σ H' ⟨D,o,rfl,hD,hc,hk'⟩
  walk_at "rd"
  refine ⟨_,rfl,_,.lst hD,true,rfl,YG (by decide) ⟨_,.inl (SqL.of hD),few (by decide),fun t ht=>?_⟩⟩
  have w:=Yj.upd_new ht (.tup [V.int ((vls sh k).length:Int),.non])
  refine q t _ ?_ (fun x o n e=>w _ _ (hk' x o n e)) (fun z=>absurd hc z)
  rw [Ye,due,if_pos hc,Vr,Int.toNat_of_nonneg (Wn _ _)]
 intro N hN
 walk_at "rd"
 refine Ya0 fun E' hE'=>?_
 have hE:∀ (H':Hp) (d:Addr),Yj H H'→H' d=none→m<cnt sh k→E' (.ref Z2) (some d) (upd H' d (YU d (WL (cnt sh k) m))):=fun H' d s' hd hlt=>hE' _ _ _ ⟨m_TooMany_CountError,fun x hx=>by
  walk_at "rd"
  have n1:d≠x:=fun z=>by
   rw [← z,Ye] at hx
   cases hx
  have s2:=Yj.upd_new hd (YU d (WL (cnt sh k) m))
  have s3:=Yj.upd_new hx (Xe x (.ref Z2) (some d))
  have hx':upd (upd H' d (YU d (WL (cnt sh k) m))) x (Xe x (.ref Z2) (some d)) x=some (Xe x (.ref Z2) (some d)):=Ye
  have hd':upd (upd H' d (YU d (WL (cnt sh k) m))) x (Xe x (.ref Z2) (some d)) d=some (YU d (WL (cnt sh k) m)):=(Yb n1).trans Ye
  have sA:=(s'.trans s2).trans s3
  refine ⟨x,d,rfl,hx',_,rfl,YG (by decide) ⟨_,rfl,x,d,_,_,rfl,hx',hd',rfl,_,rfl,_,rfl,YG (by decide) ⟨_,rfl,x,d,_,_,rfl,hx',hd',rfl,_,rfl,_,rfl,YG (by decide) ⟨_,rfl,x,d,_,_,rfl,hx',hd',rfl,⟨_,rfl,x,d,_,_,rfl,hx',hd',rfl,few (by decide),fun t ht=>?_⟩⟩⟩⟩⟩
  have w:=Yj.upd_new ht (.tup [V.int (cnt sh k),V.int m])
  refine q t _ ?_ (fun y o n e=>w _ _ (sA _ _ e)) (fun _=>sA.trans w)
  rw [Ye,due,if_neg (by omega)]⟩
 unfold tBif Uk
 walk_at "rd"
 have hp:∀ (p:Addr),H p=none→Yj H (upd H p (.lst [])):=fun p hp => .upd_new hp _
 cases A with
 | none =>
  have hj:j = .non:=hj
  refine XT hj ?_
  rcases hb with ⟨rfl,rfl⟩ | rfl
  ·refine XT rfl ⟨few (by decide),fun p h0=>⟨.ref p,a,sh,k,400,rfl,(hp p h0) _ _ ha,hok,hk,hm,fun hc D H' s' hD hd=>hN _ _ ⟨D,none,rfl,hd,hc,fun x o _ e=>s' _ _ ((hp p h0) _ _ e)⟩,fun hlt H' d s' hd=>hE H' d ((hp p h0).trans s') hd hlt⟩⟩
  ·refine YG (by intro z;cases z) (XT hj ⟨few (by decide),fun p h0=>⟨.ref p,a,sh,k,m,rfl,(hp p h0) _ _ ha,hok,hk,hm,fun hc D H' s' hD hd=>hN _ _ ⟨D,none,rfl,hd,hc,fun x o _ e=>s' _ _ ((hp p h0) _ _ e)⟩,fun hlt H' d s' hd=>hE H' d ((hp p h0).trans s') hd hlt⟩⟩)
 | some A =>
  obtain ⟨f,rfl,hjd,xs,hA,hxl⟩:=hj
  refine YG (by intro z;cases z) (YG (by intro z;cases z) ?_)
  have fin:∀ (p:Addr) (h0:H p=none) (hc:cnt sh k≤m) D H',(∀ q o,q≠A→upd H p (.lst []) q=some o→H' q=some o)→H' D=some (.lst (vls sh k))→N [some (.ref a),some (.int k),some mo,some (.ref f),some (.ref D),none] H':=fun p h0 hc D H' hk' hd=>hN _ _ ⟨D,none,rfl,hd,hc,fun x o n e=>hk' x o (fun z=>n (by rw [z])) ((hp p h0) _ _ e)⟩
  rcases hb with ⟨rfl,rfl⟩ | rfl
  ·refine XT rfl ⟨few (by decide),fun p h0=>⟨.ref p,a,sh,k,400,f,A,xs,rfl,(hp p h0) _ _ ha,hok,hk,hm,hjd.nl (Ybr (hp p h0)),(hp p h0) _ _ hA,hxl,fun hc D H' hk' hD hd _=>fin p h0 hc D H' hk' hd,fun hlt H' d s' hd=>hE H' d ((hp p h0).trans s') hd hlt⟩⟩
  ·refine YG (by intro z;cases z) ⟨few (by decide),fun p h0=>⟨.ref p,a,sh,k,m,f,A,xs,rfl,(hp p h0) _ _ ha,hok,hk,hm,hjd.nl (Ybr (hp p h0)),(hp p h0) _ _ hA,hxl,fun hc D H' hk' hD hd _=>fin p h0 hc D H' hk' hd,fun hlt H' d s' hd=>hE H' d ((hp p h0).trans s') hd hlt⟩⟩
theorem jd_ok {g:Gx} {H:Hp} {f c cell A:Addr} {doc pm ctv:Value} (h:ClZ H f c (Zq [("_law_notes",cell)] c doc pm ctv) Zp [("_law_notes",cell,.ref A)]):WM g H f A:=by
 have F:=Z0s (g:=g) (k:=1) (Z3:=0) (Zb:=0) (Z8:=0) (Zf:=0) (Z9:=0) (Zc:=0) (Z5:=0) (Zd:=0) (Z6:=0) (Za:=0) (Ze:=0) (Z7:=0) (Z2:=0) (Z4:=0) (Z1:=0) (Z0:=0) (f_:=f) (c_:=c) (doc:=doc) (pm:=pm) (ctv:=ctv) (l:=[("_law_notes",cell,.ref A)]) rfl (by simp [Yn.as])
 refine ⟨_,_,⟨F,fun us hl=>?_⟩,h.1,fun H1 x xs Q n hA hl q=>?_⟩
 ·match us,hl with
  | [_],_=>rfl
 ·obtain ⟨o,hz⟩:=h.2.2 _ (.head _)
  have hz1:=n.2.2 _ _ _ hz
  have hne:A≠cell:=YN hA hz1 (by intro z;cases z)
  have hc:ClZ H1 f c (Zq [("_law_notes",cell)] c doc pm ctv) Zp [("_law_notes",cell,.ref A)]:=⟨n.2.1 _ _ h.1,n.2.1 _ _ h.2.1,fun p hp=>by
   obtain ⟨o',z⟩:=h.2.2 p hp
   exact ⟨o',n.2.2 _ _ _ z⟩⟩
  have nin:A∉Yn.as [("_law_notes",cell,V.ref A)]:=fun z=>hne (by simpa [Yn.as] using z)
  refine ⟨hc.1,hc,A,xs,x,rfl,rfl,by rw [YE nin];exact hA,hl,fun _=>?_⟩
  have e:on (upd (off H1 (Yn.as [("_law_notes",cell,V.ref A)])) A (.lst (xs++[x]))) H1 (Yn.as [("_law_notes",cell,V.ref A)])=upd H1 A (.lst (xs++[x])):=by
   funext b
   by_cases hb:b∈Yn.as [("_law_notes",cell,V.ref A)]
   ·rw [Qy hb,Yb (fun z:b=A=>nin (z▸hb))]
   ·rw [XD hb]
    by_cases hbA:b=A
    ·subst hbA;rw [Ye,Ye]
    ·rw [Yb hbA,Yb hbA,YE hb]
  rw [e]
  exact q
def Wo (H:Hp) (P:Addr):Prop:=H P=some (.tbl #[])∨∃ c,H P=some (.tbl #[rawInt 450,rawInt 4,.ref c])∧H c=some (CdO c Zp)
theorem Wo.keep {H H':Hp} {P:Addr} (h:Wo H P) (s:Yj H H'):Wo H' P:=by
 rcases h with h | ⟨c,h1,h2⟩
 ·exact .inl (s _ _ h)
 ·exact .inr ⟨c,s _ _ h1,s _ _ h2⟩
def QK (c bound:Int):PyData := .tuple (if c≤bound then [.int c,.none] else [.int c,.int bound])
theorem Wf {K:PySem.W.Frag} {H:Hp} {t:Addr} {c m:Int} (h:H t=some (.tup (due c m))):Den K H (.ref t) (QK c m):=by
 unfold due at h
 unfold QK
 split at h
 ·rename_i z
  rw [if_pos z]
  exact .tup (SqT.of h) (.cons (.int _) (.cons .non .nil))
 ·rename_i z
  rw [if_neg z]
  exact .tup (SqT.of h) (.cons (.int _) (.cons (.int _) .nil))
theorem Qa (c m:Int):(QK c m).depth≤64:=by
 unfold QK
 split<;>simp [PyData.depth,PyData.depthAll]
def Z1u (g:Gx) (P:Addr):Sp:=fun vs H Q _=>∃ (a:Addr) (sh:Sh) (k:Nat) (mo:V) (m:Int),vs=[.ref a,.int k,mo,.int (cnt sh k)]∧WJ H a sh∧sh.ok2∧k≤30∧m≤2000∧bnd mo m∧Wo H P∧∀ H',Wo H' P→(∀ q o,q≠P→H q=some o→H' q=some o)→Q (.bl true) H'
theorem Uz {k:Nat} {Z3 Zb Z8 Zf Z9 Zc Z5 Zd Z6 Za Ze Z7 Z2 Z4 Z1 Z0:Addr} {c_law_right P_law_right:Addr} (R:g.RawT "_law_right" "_law_right" Z0i ["_law_shape","_law_size","_law_most_here","_law_many"] c_law_right) (bm:Bm g.mg g.base) (Cd_law_right:PySem.W.CodeHd g.base c_law_right P_law_right) (Z1V:g.Fn k "_law_told" ["_law_shape","_law_size","_law_most_here","_law_judge"] (Z1N g)):g.FnX (k+1) "_law_right" ["_law_shape","_law_size","_law_most_here","_law_many"] (Z1u g P_law_right):=by
 refine R.fnX Zy (fun vs H Q E h=>by obtain ⟨a,sh,k,mo,m,rfl,ha,hok,hk,hm,hb,hT,q⟩:=h;rfl) fun f_ A outer s H vs Q E hr h=>?_
 obtain ⟨a,sh,k,mo,m,rfl,ha,hok,hk,hm,hb,hT,q⟩:=h
 refine ⟨_,(@Yf _ _ _ _ _ (PS.nox (@YB _ _ (4) _ _ _ _ Zy.nd rfl (.inr rfl) (@Xg _ _ _ _ Yc) (by rfl) (by first | exact .inl rfl | exact .inr rfl | assumption))) (@Yf _ _ _ _ _ (PS.nox (@YcA _ _ _ _ _ _ _ _ _ _ 5 bm Cd_law_right rfl rfl Zy.nd rfl (.inl rfl) (Eq.trans rfl XZ) rfl rfl rfl (.inr rfl))) (@Yf _ _ _ _ _ (PS.nox (@YB _ _ (6) _ _ _ _ Zy.nd rfl (.inl rfl) (pv 2) (by rfl) (by first | exact .inl rfl | exact .inr rfl | assumption))) (@Yf _ _ _ _ _ (PS.nox (@YK _ _ _ _ _ _ _ _ (@Yz _ _ _ _ _ _ _ _ Wv (pv 2) Y8 (YC _)) (@Yh _ _ _ (@YB _ _ (6) _ _ _ _ Zy.nd rfl (.inl rfl) Yi (by rfl) (by first | exact .inl rfl | exact .inr rfl | assumption))) Yy)) (@Yf _ _ _ _ _ (PS.nox (@YB _ _ (7) _ _ _ _ Zy.nd rfl (.inl rfl) (@XB _ _ _ _ _ (@Ya _ _ _ _ _ (pv 3) (@Ya _ _ _ _ _ Y8 Yc (by rfl)) (by rfl))) (by rfl) (by first | exact .inl rfl | exact .inr rfl | assumption))) (@Yf _ _ _ _ _ (PS.nox (@YK _ _ _ _ _ _ _ _ (@Yz _ _ _ _ _ _ _ _ Ya8 (pv 3) (pv 6) (YC _)) (@Yh _ _ _ (@YB _ _ (7) _ _ _ _ Zy.nd rfl (.inl rfl) (@XB _ _ _ _ _ (@Ya _ _ _ _ _ (pv 3) (@Ya _ _ _ _ _ (pv 6) Yc (by rfl)) (by rfl))) (by rfl) (by first | exact .inl rfl | exact .inr rfl | assumption))) Yy)) (@Yf _ _ _ _ _ (@YK _ _ _ _ _ _ _ _ (@Xn _ _ _ _ _ _ _ (@Yz _ _ _ _ _ _ _ _ (Q9 hr.units) (@Y7 _ _ _ _ _ _ _ _ _ _ _ _ Z1V hr (@Ya _ _ _ _ _ (pv 0) (@Ya _ _ _ _ _ (pv 1) (@Ya _ _ _ _ _ (pv 2) (@Ya _ _ _ _ _ Y8 Yc (by rfl)) (by rfl)) (by rfl)) (by rfl)) (by omega) (by rfl) (by rfl) (by decide) (by rfl) (by rfl)) (pv 7) (YC _)) (@Wr _ _ _ _ (@Yz _ _ _ _ _ _ _ _ (Q9 hr.units) (@YaV _ _ _ _ _ _ _ _ _ _ _ _ _ _ _ _ _ _ _ _ _ Z1V.toF hr (@Ya _ _ _ _ _ (pv 0) (@Ya _ _ _ _ _ (pv 1) (@Ya _ _ _ _ _ (pv 2) (@Ya _ _ _ _ _ (pv 5) Yc (by rfl)) (by rfl)) (by rfl)) (by rfl)) (by omega) (by rfl) (by decide) (by rfl) (by rfl)) (pv 7) (YC _)))).pt (@Yh _ _ _ (PS.nox (@Yo _ _ _ _ Wg))) Yy) (@Yh _ _ _ (PS.nox (@Yo _ _ _ _ (@pe_or _ _ _ _ _ _ _ (@Vh _ _ _ _ _ _ _ _ Qg (pv 3) (pv 6) (YC _)) (@VZ _ _ _ _ _ (@Vh _ _ _ _ _ _ _ _ (Ycq hr.units) (pv 4) (@Xg _ _ _ _ Yc) (YC _)))))))))))))),?_⟩
 obtain ⟨ps,hps⟩:∃ ps,H P_law_right=some (.tbl ps):=by
  rcases hT with h | ⟨c,h,_⟩<;>exact ⟨_,h⟩
 refine Ub (fun σ H'=>∃ (A f c:Addr) (doc pm ctv:Value),σ=[some (.ref a),some (.int k),some mo,some (.int (cnt sh k)),some (.ref A),some (.ref f),none,none]∧H' A=some (.lst [])∧H' f=some (FnO f (Zq [("_law_notes",s.heap.objs.size+1)] c doc pm ctv))∧H' c=some (CdO c Zp)∧Wo H' P_law_right∧H A=none∧∀ q o,q≠P_law_right→H q=some o→H' q=some o) ?_ ?_
 rotate_left
 ·intro N hN
  walk_at "rd"
  refine ⟨few (by decide),fun A hA=>?_⟩
  have w:=Yj.upd_new hA (.lst [])
  have nAP:A≠P_law_right:=Ne.symm (Yg hps hA)
  rcases hT with hT | ⟨c0,hT,hc0⟩
  ·have hT':=w _ _ hT
   refine ⟨_,hT',trivial,.inl ⟨rfl,fun f c fd g1 g2 g3 ⟨doc,pm,ctv,e⟩=>?_⟩⟩
   subst e
   have fP:=Yg hT' g1
   have cP:=Yg hT' g2
   have fA:=Yg (Ye (H:=H) (a:=A) (o := .lst [])) g1
   have cA:=Yg (Ye (H:=H) (a:=A) (o := .lst [])) g2
   refine hN _ _ ⟨A,f,c,doc,pm,ctv,rfl,?_,by rw [Ye];rfl,by rw [Yb (Ne.symm g3),Ye],.inr ⟨c,by rw [Yb fP,Yb cP,Ye];rfl,by rw [Yb (Ne.symm g3),Ye]⟩,hA,fun x o nx e=>?_⟩
   ·rw [Yb fA,Yb cA,Yb nAP,Ye]
   ·rw [Yb (Yg (w _ _ e) g1),Yb (Yg (w _ _ e) g2),Yb nx]
    exact w _ _ e
  ·have hT':=w _ _ hT
   have hc':=w _ _ hc0
   refine ⟨_,hT',trivial,.inr ⟨c0,rfl,fun f fd g1 ⟨doc,pm,ctv,e⟩=>?_⟩⟩
   subst e
   have w2:=Yj.upd_new g1 (FnO f (Zq [("_law_notes",s.heap.objs.size+1)] c0 doc pm ctv))
   exact hN _ _ ⟨A,f,c0,doc,pm,ctv,rfl,w2 _ _ Ye,by rw [Ye];rfl,w2 _ _ hc',.inr ⟨c0,w2 _ _ hT',w2 _ _ hc'⟩,hA,fun x o nx e=>w2 _ _ (w _ _ e)⟩
 rintro σ H1 ⟨A,f,c,doc,pm,ctv,rfl,hA,hf,hc,hT1,hAn,hk1⟩
 refine Ub (fun σ H'=>H'=H1∧σ=[some (.ref a),some (.int k),some mo,some (.int (cnt sh k)),some (.ref A),some (.ref f),some (.int m),none]) ?_ ?_
 rotate_left
 ·intro N hN
  walk_at "rd"
  rcases hb with ⟨rfl,rfl⟩ | rfl
  ·exact XT rfl (hN _ _ ⟨rfl,rfl⟩)
  ·exact YG (by intro z;cases z) (hN _ _ ⟨rfl,rfl⟩)
 rintro σ H2 ⟨rfl,rfl⟩
 refine Ub (fun σ H'=>∃ t,Yj H2 H'∧H' t=some (.tup (due (cnt sh k) m))∧σ=[some (.ref a),some (.int k),some mo,some (.int (cnt sh k)),some (.ref A),some (.ref f),some (.int m),some (.ref t)]) ?_ ?_
 rotate_left
 ·intro N hN
  walk_at "rd"
  refine ⟨few (by decide),fun t ht=>WA (fun z=>⟨few (by decide),fun t2 ht2=>?_⟩) (fun z=>?_)⟩
  ·exact hN _ _ ⟨t2,(Yj.upd_new ht _).trans (.upd_new ht2 _),by rw [Ye,due,if_neg (by omega)],rfl⟩
  ·exact hN _ _ ⟨t,.upd_new ht _,by rw [Ye,due,if_pos (by omega)],rfl⟩
 rintro σ H3 ⟨t,s3,ht,rfl⟩
 have ha3:WJ H3 a sh:=s3 _ _ (hk1 _ _ (YN ha hps (by intro z;cases z)) ha)
 have hA3:=s3 _ _ hA
 walk_at "rd"
 refine ⟨a,sh,k,mo,.non,m,none,rfl,ha3,hok,hk,hm,hb,rfl,fun t4 H4 ht4 hk4 _=>?_⟩
 have s4:Yj H3 H4:=fun b o e=>hk4 b o (by intro z;cases z) e
 refine ⟨_,Wf ht4,_,Wf (s4 _ _ ht),Qa _ _,?_⟩
 rw [PySem.SeqAt.eqv_refl _ (Wf (K:=g.K) ht4).lay]
 refine YG (by decide) ?_
 have hk4':Yj H2 H4:=s3.trans s4
 unfold Ybn
 walk_at "rd"
 refine ⟨[("_law_notes",s.heap.objs.size+1,.ref A)],⟨by simp [Yn.as],fun z hz=>?_⟩,fun hcell Hz hL=>?_⟩
 ·cases List.mem_singleton.mp hz
  exact ⟨4,rfl,rfl,rfl,rfl⟩
 have hcn:H4 (s.heap.objs.size+1)=none:=hcell _ (by simp [Yn.as])
 obtain ⟨L1,L2'⟩:=hL
 obtain ⟨oz,hoz,_⟩:=L1 _ (.head _)
 have hoz:Hz (s.heap.objs.size+1)=some (.frz oz (XH (s.heap.objs.size+1) (.ref A))):=hoz
 have sz:Yj H4 Hz:=fun b o e=>by
  rw [L2' b (fun z=>by
   have e1:b=s.heap.objs.size+1:=by simpa [Yn.as] using z
   rw [e1,hcn] at e;cases e)]
  exact e
 have jd:WM g Hz f A:=jd_ok ⟨sz _ _ (hk4' _ _ hf),sz _ _ (hk4' _ _ hc),fun p hp=>by
  cases List.mem_singleton.mp hp
  exact ⟨oz,hoz⟩⟩
 have hAz:=sz _ _ (hk4' _ _ hA)
 refine ⟨a,sh,k,mo,.ref f,m,some A,rfl,sz _ _ (s4 _ _ ha3),hok,hk,hm,hb,⟨f,rfl,jd,[],hAz,by simp⟩,fun t5 H5 ht5 hk5 hs5=>?_⟩
 have hc5:H5 (s.heap.objs.size+1)=some (.frz oz (XH (s.heap.objs.size+1) (.ref A))):=hk5 _ _ (fun z=>by
  have e1:A=s.heap.objs.size+1:=Option.some.inj z
  rw [e1,hoz] at hAz;cases hAz) hoz
 have out:∀ {b:Addr} {o:HO},(∀ x u,o ≠ .frz x u)→H5 b=some o→off H5 (Yn.as [("_law_notes",s.heap.objs.size+1,V.ref A)]) b=some o:=fun {b o} no e=>by
  rw [YE (fun z=>by
   have e1:b=s.heap.objs.size+1:=by simpa [Yn.as] using z
   rw [e1,hc5] at e
   exact no _ _ (Option.some.inj e).symm)]
  exact e
 have old:∀ {b:Addr} {o:HO},b≠A→H4 b=some o→off H5 (Yn.as [("_law_notes",s.heap.objs.size+1,V.ref A)]) b=some o:=fun {b o} nb e=>by
  rw [YE (fun z=>by
   have e1:b=s.heap.objs.size+1:=by simpa [Yn.as] using z
   rw [e1,hcn] at e;cases e)]
  exact hk5 _ _ (fun z=>nb (Option.some.inj z).symm) (sz _ _ e)
 have nta:t≠A:=YN ht hA3 (by intro z;unfold due at z;split at z<;>cases z)
 have d5:=Wf (K:=g.K) (out (by intro x u z;unfold due at z;split at z<;>cases z) ht5)
 refine ⟨_,d5,_,Wf (old nta (s4 _ _ ht)),Qa _ _,?_⟩
 rw [PySem.SeqAt.eqv_refl _ d5.lay]
 refine YG (by decide) ?_
 have nAold:∀ {b:Addr} {o:HO},H b=some o→b≠A:=fun e=>Yg e hAn
 have tabk:∀ H6,(∀ b o,b≠A→H4 b=some o→H6 b=some o)→Wo H6 P_law_right:=fun H6 k6=>by
  have nPA:P_law_right≠A:=Yg hps hAn
  rcases hT1 with h | ⟨c1,h1,h2⟩
  ·exact .inl (k6 _ _ nPA (hk4' _ _ h))
  ·exact .inr ⟨c1,k6 _ _ nPA (hk4' _ _ h1),k6 _ _ (YN h2 hA (by intro z;cases z)) (hk4' _ _ h2)⟩
 refine WA (fun hc=>?_) (fun hc=>⟨few (by decide),fun p hp=>?_⟩)
 ·exact q _ (tabk _ fun b o nb e=>old nb e) fun x o nx e=>old (nAold e) (hk4' _ _ (hk1 _ _ nx e))
 ·have s5:=hs5 hc
  have w:=Yj.upd_new hp (.lst [])
  have hA6:=w _ _ (out (by intro x u z;cases z) (s5 _ _ hAz))
  refine ⟨_,.lst (SqL.of hA6) .nil,_,.lst (SqL.of Ye) .nil,by simp [PyData.depth,PyData.depthAll],?_⟩
  have e0:PyData.eqv (.list []) (.list [])=true:=by simp [PyData.eqv,PyData.eqvAll]
  rw [e0]
  exact q _ (tabk _ fun b o nb e=>w _ _ (old nb e)) fun x o nx e=>w _ _ (old (nAold e) (hk4' _ _ (hk1 _ _ nx e)))
theorem UL {gg:TG} {tb:TS} {D:Ends} {σ:St} {H:Hp} {ta:TA} {z:Int} (Pv:Nat→St→Hp→Prop) (ha:∀ R:List V→Hp→Prop,R [.int z] H→ta σ H R) (hz : -(2^62)≤z∧z<2^62) (h0:Pv 0 σ H)
  (hs:∀ i σ H,i<z.toNat→Pv i σ H→gg (.int i) σ H fun σ2 H2=>tb { D with nx:=Pv (i+1),ct:=Pv (i+1),bk:=D.nx } σ2 H2) (hd:∀ σ H,Pv z.toNat σ H→D.nx σ H):tFor (VO ta) gg tb D σ H:=by
 refine ha _ ⟨z,rfl,hz.1,hz.2,?_⟩
 refine Vs (lo:=0) (n:=z.toNat) Pv h0 (fun i σ H hi p=>?_) hd
 have e:(0:Int)+i=i:=by omega
 rw [e];exact hs i σ H hi p
theorem Yb6 (span:Nat):wc span 0=1:=by
 unfold wc
 have:(1*2^0 / 2^1:Int)=0:=by decide
 rw [this]
 split<;>split<;>omega
theorem Yb7 (span j:Nat):wc span (j+1)=if (if 2*(2:Int)^j<(span:Int)+1 then 2*(2:Int)^j else (span:Int)+1) - 2^j>0 then (if 2*(2:Int)^j<(span:Int)+1 then 2*(2:Int)^j else (span:Int)+1) - 2^j else 0:=by
 unfold wc
 have e1:(1*2^(j+1):Int)=2*2^j:=by rw [Int.pow_succ];omega
 rw [e1,show (2^1:Int)=2 from rfl]
 generalize (2:Int)^j=x
 have e2:2*x / 2=x:=by omega
 rw [e2]
 split<;>split<;>split<;>split<;>omega
def Z1P:Sp:=fun vs H Q _=>∃ (span k:Nat),vs=[.int span,.int k]∧k≤16∧Q (.int (wc span k)) H
theorem Z1h {Z3 Zb Z8 Zf Z9 Zc Z5 Zd Z6 Za Ze Z7 Z2 Z4 Z1 Z0:Addr} {c_law_right P_law_right:Addr} (R:g.Raw "_law_many_numbers" "_law_many_numbers" ZU ["_law_span","_law_size"]) (b_max:g.mg "max"=none) (b_min:g.mg "min"=none) (ZH:g.mg "range"=none):g.Fn (1) "_law_many_numbers" ["_law_span","_law_size"] (Z1P):=by
 refine R.fn Zz (fun vs H Q E h=>by obtain ⟨span,k,rfl,hk,q⟩:=h;rfl) fun f_ cdv A outer s H vs Q E hr h=>?_
 obtain ⟨span,k,rfl,hk,q⟩:=h
 refine ⟨_,(@Yf _ _ _ _ _ (@YB _ _ (2) _ _ _ _ Zz.nd rfl (.inl rfl) Yi (by rfl) (by first | exact .inl rfl | exact .inr rfl | assumption)) (@Yf _ _ _ _ _ (@QU _ _ _ _ _ _ _ _ PassesOwn.never rfl (@Wt _ _ _ _ _ _ rfl ZH (@Ya _ _ _ _ _ (@Yq _ _ _ _ _ _ _ _ XN (pv 1) Yi) Yc (by rfl)) (by rfl)) (@WO _ _ (3) _ Zz.nd rfl (.inl rfl) (by first | exact .inl rfl | exact .inr rfl | assumption)) (@Yh _ _ _ (@YB _ _ (2) _ _ _ _ Zz.nd rfl (.inl rfl) (@Yq _ _ _ _ _ _ _ _ Wa Yi (pv 2)) (by rfl) (by first | exact .inl rfl | exact .inr rfl | assumption))) (by intro _;rfl)) (@Yf _ _ _ _ _ (@YK _ _ _ _ _ _ _ _ (@Yz _ _ _ _ _ _ _ _ Wi (pv 1) Yi (YC _)) (@Yh _ _ _ (@Yo _ _ _ _ Yi)) Yy) (@Yh _ _ _ (@Yo _ _ _ _ (@Yv _ _ _ _ _ _ _ _ _ _ b_max (Wx rfl) (@Ya _ _ _ _ _ Yi (@Ya _ _ _ _ _ (@Yq _ _ _ _ _ _ _ _ XN (@Yv _ _ _ _ _ _ _ _ _ _ b_min (Wy rfl) (@Ya _ _ _ _ _ (@Yq _ _ _ _ _ _ _ _ XM (pv 0) Yi) (@Ya _ _ _ _ _ (@Yq _ _ _ _ _ _ _ _ Wa Yi (pv 2)) Yc (by rfl)) (by rfl)) (by decide +kernel) (by rfl) (by rfl) (by decide) (by decide) (by rfl) (by rfl)) (pv 2)) Yc (by rfl)) (by rfl)) (by decide +kernel) (by rfl) (by rfl) (by decide) (by decide) (by rfl) (by rfl))))))),?_⟩
 refine Ub (fun σ H'=>H'=H∧∃ o,σ=[some (.int span),some (.int k),some (.int (2^(k - 1))),o]) ?_ ?_
 rotate_left
 ·intro N hN
  walk_at "rd"
  refine UL (z:=(k:Int) - 1) (fun i σ H'=>H'=H∧∃ o,σ=[some (.int span),some (.int k),some (.int (2^i)),o]) (fun R r=>by walk_at "rd";exact r) (by omega) ⟨rfl,_,rfl⟩ ?_ ?_
  ·rintro i σ H' hi ⟨rfl,o,rfl⟩
   walk_at "rd"
   have:((2:Int)^i).natAbs<2^17:=by
    rw [Int.natAbs_pow]
    exact Nat.pow_lt_pow_right (by decide) (by omega)
   refine ⟨.inl (cm (m:=2) (n:=17) (by decide) this),?_⟩
   rw [Int.pow_succ,Int.mul_comm]
  ·rintro σ H' ⟨rfl,o,rfl⟩
   refine hN _ _ ⟨rfl,o,?_⟩
   rw [show ((k:Int) - 1).toNat=k - 1 by omega]
 rintro σ H' ⟨rfl,o,rfl⟩
 walk_at "rd"
 have:((2:Int)^(k - 1)).natAbs<2^17:=by
  rw [Int.natAbs_pow]
  exact Nat.pow_lt_pow_right (by decide) (by omega)
 refine WA (fun z=>?_) (fun z=>⟨.inl (cm (m:=2) (n:=17) (by decide) this),?_⟩)
 ·have e:k=0:=by omega
  subst e
  rw [Yb6] at q
  exact q
 ·obtain ⟨j,rfl⟩:∃ j,k=j+1:=⟨k - 1,by omega⟩
  rw [Yb7] at q
  exact q
def Z1Q:Sp:=fun vs H Q _=>∃ (c n:Int),vs=[.int c,.int n]∧0≤n∧∀ mo m,m≤2000→bnd mo m→∀ H',Yj H H'→Q mo H'
theorem UM {Z3 Zb Z8 Zf Z9 Zc Z5 Zd Z6 Za Ze Z7 Z2 Z4 Z1 Z0:Addr} {c_law_right P_law_right:Addr} (R:g.Raw "_law_most" "_law_most" Z13 ["_law_cell","_law_many"]) (b_max:g.mg "max"=none) (b_min:g.mg "min"=none):g.Fn (1) "_law_most" ["_law_cell","_law_many"] (Z1Q):=by
 refine R.fn UI (fun vs H Q E h=>by obtain ⟨c,n,rfl,hn,q⟩:=h;rfl) fun f_ cdv A outer s H vs Q E hr h=>?_
 obtain ⟨c,n,rfl,hn,q⟩:=h
 refine ⟨_,(@Yf _ _ _ _ _ (@YK _ _ _ _ _ _ _ _ (@Yz _ _ _ _ _ _ _ _ Wi (@Yq _ _ _ _ _ _ _ _ Xa (pv 0) Yi) Yi (YC _)) (@Yh _ _ _ (@Yo _ _ _ _ (@Yv _ _ _ _ _ _ _ _ _ _ b_max (Wx rfl) (@Ya _ _ _ _ _ Yi (@Ya _ _ _ _ _ (@Yv _ _ _ _ _ _ _ _ _ _ b_min (Wy rfl) (@Ya _ _ _ _ _ Yi (@Ya _ _ _ _ _ (@Yq _ _ _ _ _ _ _ _ XM (pv 1) (@Xo _ _ _ _ _ _ _ X7 (@Xg _ _ _ _ (@Ya _ _ _ _ _ (@pe_un _ _ _ _ _ _ Ych Yi) (@Ya _ _ _ _ _ Yi (@Ya _ _ _ _ _ Yi Yc (by rfl)) (by rfl)) (by rfl))) (@Yq _ _ _ _ _ _ _ _ Xa (@Yq _ _ _ _ _ _ _ _ XS (pv 0) Yi) Yi) (fun _ _=>rfl))) Yc (by rfl)) (by rfl)) (by decide +kernel) (by rfl) (by rfl) (by decide) (by decide) (by rfl) (by rfl)) Yc (by rfl)) (by rfl)) (by decide +kernel) (by rfl) (by rfl) (by decide) (by decide) (by rfl) (by rfl)))) Yy) (@Yf _ _ _ _ _ (@YK _ _ _ _ _ _ _ _ (@Yz _ _ _ _ _ _ _ _ Wi (@Yq _ _ _ _ _ _ _ _ Xa (pv 0) Yi) Yi (YC _)) (@Yh _ _ _ (@Yo _ _ _ _ Y8)) Yy) (@Yh _ _ _ (@Yo _ _ _ _ (@Yq _ _ _ _ _ _ _ _ Xa (@Yq _ _ _ _ _ _ _ _ XS (pv 0) Yi) Yi))))),?_⟩
 walk_at "rd"
 refine ⟨by decide,WA (fun z=>⟨few (by decide),fun p hp=>⟨⟨by decide,by decide⟩,by decide,_,SqL.of Ye,?_⟩⟩) (fun z=>⟨by decide,WA (fun z2=>?_) (fun z2=>⟨⟨by decide,by decide⟩,by decide,?_⟩)⟩)⟩
 ·obtain ⟨x,hx⟩:∃ x:Int,atI [V.int (-1),V.int 0,V.int 1] (c / 2%3)=some (.int x):=by
   have:c / 2%3=0∨c / 2%3=1∨c / 2%3=2:=by omega
   rcases this with h | h | h<;>rw [h]<;>exact ⟨_,rfl⟩
  refine ⟨_,hx,x,rfl,q _ _ ?_ (.inr rfl) _ (.upd_new hp _)⟩
  split<;>split at * <;> omega
 ·exact q _ 400 (by decide) (.inl ⟨rfl,rfl⟩) _ (.refl _)
 ·exact q _ _ (by omega) (.inr rfl) _ (.refl _)
def XY:List Nat:=[97,98,99,100,101,102,103,104,105,106,107,108,109,110,111,112,113,114,115,116,117,118,119,120,121,122,65,66,67,68,69,70,71,72,73,74,75,76,77,78,79,80,81,82,83,84,85,86,87,88,89,90,48,49,50,51,52,53,54,55,56,57]
theorem Ya1:Str.ofString "abcdefghijklmnopqrstuvwxyzABCDEFGHIJKLMNOPQRSTUVWXYZ0123456789"=S XY:=by decide +kernel
theorem Yb8 {K:PySem.W.Frag} {H H':Hp} {P a:Addr} {xs:List V} {ps:Array Value} (h:SqL K H a xs) (hk:∀ b u,b≠P→H b=some u→H' b=some u) (hP:H P=some (.tbl ps)):SqL K H' a xs:=by
 rcases h with (h | ⟨o,h⟩) | h
 ·exact .inl (.inl (hk _ _ (YN h hP (by intro z;cases z)) h))
 ·exact .inl (.inr ⟨o,hk _ _ (YN h hP (by intro z;cases z)) h⟩)
 ·exact .inr h
theorem Ya2 {k:Nat} {Z3 Zb Z8 Zf Z9 Zc Z5 Zd Z6 Za Ze Z7 Z2 Z4 Z1 Z0:Addr} {c_law_right P_law_right:Addr} (ZT:g.Fn k "_law_cell_at" ["_law_script","_law_k"] (Z0Q g.K)) (Z1v:g.Fn k "_law_many_numbers" ["_law_span","_law_size"] (Z1P)) (Z1R:g.FnX k "_law_right" ["_law_shape","_law_size","_law_most_here","_law_many"] (Z1u g P_law_right)) (F_law_most:g.Fn k "_law_most" ["_law_cell","_law_many"] (Z1Q)) (b_len:g.mg "len"=none):WC g k ["_law_script","_law_cell","_law_span","_law_size","_law_low","_law_many","_law_letters","_law_signs"] "law" VX (WT g.K [("_law_right",c_law_right,P_law_right)]):=by
 refine fun f_ cdv A outer s H vs Q E hr h=>?_
 obtain ⟨a,ns,rfl,hS,hl,ht,q⟩:=h
 refine ⟨_,(@Yf _ _ _ _ _ (@YB _ _ (1) _ _ _ _ Xs.nd rfl (.inl rfl) (@Y7 _ _ _ _ _ _ _ _ _ _ _ _ ZT hr (@Ya _ _ _ _ _ (pv 0) (@Ya _ _ _ _ _ Yi Yc (by rfl)) (by rfl)) (by omega) (by rfl) (by rfl) (by decide) (by rfl) (by rfl)) (by rfl) (by first | exact .inl rfl | exact .inr rfl | assumption)) (@Yf _ _ _ _ _ (@YB _ _ (2) _ _ _ _ Xs.nd rfl (.inl rfl) (@Xo _ _ _ _ _ _ _ X7 (@Xg _ _ _ _ (@Ya _ _ _ _ _ (@Yq _ _ _ _ _ _ _ _ V2 Yi Yi) (@Ya _ _ _ _ _ (@Yq _ _ _ _ _ _ _ _ Xa (@Yq _ _ _ _ _ _ _ _ XS (pv 1) Yi) Yi) Yc (by rfl)) (by rfl))) (@Yq _ _ _ _ _ _ _ _ Xa (pv 1) Yi) (fun _ _=>rfl)) (by rfl) (by first | exact .inl rfl | exact .inr rfl | assumption)) (@Yf _ _ _ _ _ (@YB _ _ (3) _ _ _ _ Xs.nd rfl (.inl rfl) (@Yq _ _ _ _ _ _ _ _ Xa (@Yq _ _ _ _ _ _ _ _ XS (pv 1) Yi) Yi) (by rfl) (by first | exact .inl rfl | exact .inr rfl | assumption)) (@Yf _ _ _ _ _ (@YB _ _ (4) _ _ _ _ Xs.nd rfl (.inl rfl) (@Yq _ _ _ _ _ _ _ _ XN (@Yq _ _ _ _ _ _ _ _ Xa (@Y7 _ _ _ _ _ _ _ _ _ _ _ _ ZT hr (@Ya _ _ _ _ _ (pv 0) (@Ya _ _ _ _ _ Yi Yc (by rfl)) (by rfl)) (by omega) (by rfl) (by rfl) (by decide) (by rfl) (by rfl)) (@Yq _ _ _ _ _ _ _ _ V2 Yi Yi)) (@Yq _ _ _ _ _ _ _ _ Wa Yi (@Yq _ _ _ _ _ _ _ _ V2 Yi Yi))) (by rfl) (by first | exact .inl rfl | exact .inr rfl | assumption)) (@Yf _ _ _ _ _ (@YB _ _ (5) _ _ _ _ Xs.nd rfl (.inl rfl) (@Y7 _ _ _ _ _ _ _ _ _ _ _ _ Z1v hr (@Ya _ _ _ _ _ (pv 2) (@Ya _ _ _ _ _ (pv 3) Yc (by rfl)) (by rfl)) (by omega) (by rfl) (by rfl) (by decide) (by rfl) (by rfl)) (by rfl) (by first | exact .inl rfl | exact .inr rfl | assumption)) (@Yf _ _ _ _ _ (@YK _ _ _ _ _ _ _ _ (@Ws _ _ _ _ (@YI _ _ _ (@Vb _ _ _ _ _ _ _ _ _ _ _ _ _ Z1R hr Yac (@Ya _ _ _ _ _ (@XB _ _ _ _ _ (@Ya _ _ _ _ _ Xf (@Ya _ _ _ _ _ (pv 4) (@Ya _ _ _ _ _ (@Yq _ _ _ _ _ _ _ _ XM (pv 4) (pv 2)) Yc (by rfl)) (by rfl)) (by rfl))) (@Ya _ _ _ _ _ (pv 3) (@Ya _ _ _ _ _ (@Y7 _ _ _ _ _ _ _ _ _ _ _ _ F_law_most hr (@Ya _ _ _ _ _ (@Y7 _ _ _ _ _ _ _ _ _ _ _ _ ZT hr (@Ya _ _ _ _ _ (pv 0) (@Ya _ _ _ _ _ Yi Yc (by rfl)) (by rfl)) (by omega) (by rfl) (by rfl) (by decide) (by rfl) (by rfl)) (@Ya _ _ _ _ _ (pv 5) Yc (by rfl)) (by rfl)) (by omega) (by rfl) (by rfl) (by decide) (by rfl) (by rfl)) (@Ya _ _ _ _ _ (pv 5) Yc (by rfl)) (by rfl)) (by rfl)) (Ue _ _ _ _ _)) (by omega) (by rfl) (by rfl) (by decide) (by rfl) (by rfl)) (by intro _;rfl))) (@Yh _ _ _ (@Yo _ _ _ _ Wg)) Yy) (@Yf _ _ _ _ _ (@YB _ _ (6) _ _ _ _ Xs.nd rfl (.inl rfl) Xf (by rfl) (by first | exact .inl rfl | exact .inr rfl | assumption)) (@Yf _ _ _ _ _ (@YB _ _ (7) _ _ _ _ Xs.nd rfl (.inl rfl) (@V4 _ _ _ _ _ _ _ _ _ _ Q5 (pv 6) (@UR _ _ _ (@Yq _ _ _ _ _ _ _ _ Xa (@Y7 _ _ _ _ _ _ _ _ _ _ _ _ ZT hr (@Ya _ _ _ _ _ (pv 0) (@Ya _ _ _ _ _ Yi Yc (by rfl)) (by rfl)) (by omega) (by rfl) (by rfl) (by decide) (by rfl) (by rfl)) Yi)) UQ) (by rfl) (by first | exact .inl rfl | exact .inr rfl | assumption)) (@Yf _ _ _ _ _ (@YB _ _ (7) _ _ _ _ Xs.nd rfl (.inl rfl) (@V4 _ _ _ _ _ _ _ _ _ _ Q5 (pv 7) UQ (@UR _ _ _ (@Yq _ _ _ _ _ _ _ _ XM Yi (@Yq _ _ _ _ _ _ _ _ Xa (@Y7 _ _ _ _ _ _ _ _ _ _ _ _ ZT hr (@Ya _ _ _ _ _ (pv 0) (@Ya _ _ _ _ _ Yi Yc (by rfl)) (by rfl)) (by omega) (by rfl) (by rfl) (by decide) (by rfl) (by rfl)) Yi)))) (by rfl) (by first | exact .inl rfl | exact .inr rfl | assumption)) (@Yh _ _ _ (@Yo _ _ _ _ (@Vb _ _ _ _ _ _ _ _ _ _ _ _ _ Z1R hr Yac (@Ya _ _ _ _ _ (@XB _ _ _ _ _ (@Ya _ _ _ _ _ Xf (@Ya _ _ _ _ _ (pv 7) Yc (by rfl)) (by rfl))) (@Ya _ _ _ _ _ Yi (@Ya _ _ _ _ _ Y8 (@Ya _ _ _ _ _ (@Yq _ _ _ _ _ _ _ _ Wa (@Yv _ _ _ _ _ _ _ _ _ _ b_len Xb (@Ya _ _ _ _ _ (pv 7) Yc (by rfl)) (by decide +kernel) (by rfl) (by rfl) (by decide) (by decide) (by rfl) (by rfl)) (@Yv _ _ _ _ _ _ _ _ _ _ b_len Xb (@Ya _ _ _ _ _ (pv 7) Yc (by rfl)) (by decide +kernel) (by rfl) (by rfl) (by decide) (by decide) (by rfl) (by rfl))) Yc (by rfl)) (by rfl)) (by rfl)) (Ue _ _ _ _ _)) (by omega) (by rfl) (by rfl) (by decide) (by rfl) (by rfl))))))))))))),?_⟩
 have hT:H P_law_right=some (.tbl #[]):=ht _ (.head _)
 refine cut5 (fun σ H'=>∃ (c lo:Int) (span k:Nat),Yj H H'∧k≤16∧σ=[some (.ref a),some (.int c),some (.int span),some (.int k),some (.int lo),some (.int (wc span k)),none,none]) ?_ ?_
 rotate_left
 ·intro N hN
  walk_at "rd"
  refine ⟨a,ns,0,rfl,hS,hl,cpow,_,rfl,⟨by decide,by decide⟩,by decide,few (by decide),fun p hp=>⟨_,rfl,by decide,_,SqL.of Ye,?_⟩⟩
  generalize ns.getD 0 0=c
  obtain ⟨span,hsp⟩:∃ span:Nat,atI [V.int (10^Int.toNat 40),V.int (c / 34%3001)] (c%2)=some (.int span):=by
   have:c%2=0∨c%2=1:=by omega
   have p0:0≤c / 34%3001:=Int.emod_nonneg _ (by decide)
   rcases this with h | h<;>rw [h]
   ·exact ⟨10^40,rfl⟩
   ·exact ⟨(c / 34%3001).toNat,by rw [Int.toNat_of_nonneg p0];rfl⟩
  have p1:0≤c / 2%17:=Int.emod_nonneg _ (by decide)
  have p2:c / 2%17<17:=Int.emod_lt_of_pos _ (by decide)
  have w:=Yj.upd_new hp (.lst [V.int (10^Int.toNat 40),V.int (c / 34%3001)])
  refine ⟨_,hsp,_,rfl,⟨by decide,by decide⟩,by decide,a,ns,1,rfl,w.seq hS,hl,cpow,_,rfl,by decide,cpow,.inl (cm (m:=3) (n:=64) (by decide) (by decide)),span,(c / 2%17).toNat,by rw [Int.toNat_of_nonneg p1],by omega,?_⟩
  have:=hN [some (.ref a),some (.int c),some (.int span),some (.int ((c / 2%17).toNat:Nat)),some (.int (ns.getD 1 0%10^Int.toNat 20 - 5*10^Int.toNat 19)),some (.int (wc span (c / 2%17).toNat)),none,none] _ ⟨c,_,span,_,w,by omega,rfl⟩
  rw [Int.toNat_of_nonneg p1] at this
  exact this
 rintro σ H1 ⟨c,lo,span,k,s1,hk,rfl⟩
 have hT1:Wo H1 P_law_right := .inl (s1 _ _ hT)
 refine cut1 (fun σ H'=>Wo H' P_law_right∧SqL g.K H' a (ns.map V.int)∧σ=[some (.ref a),some (.int c),some (.int span),some (.int k),some (.int lo),some (.int (wc span k)),none,none]) ?_ ?_
 rotate_left
 ·intro N hN
  walk_at "rd"
  refine ⟨few (by decide),fun p hp=>?_⟩
  have w:=Yj.upd_new hp (.tup [V.str (Str.ofString "whole"),V.int lo,V.int (lo+span)])
  refine ⟨a,ns,2,rfl,w.seq (s1.seq hS),hl,_,_,rfl,VF _ _,fun mo m hm hb H2 s2=>?_⟩
  refine ⟨p,.w lo span,k,mo,m,rfl,s2 _ _ Ye,trivial,by omega,hm,hb,(hT1.keep w).keep s2,fun H3 hT3 hk3=>⟨_,rfl,YG (by decide) (hN _ _ ⟨hT3,?_,rfl⟩)⟩⟩
  exact Yb8 (s2.seq (w.seq (s1.seq hS))) hk3 (s2 _ _ (w _ _ (s1 _ _ hT)))
 rintro σ H2 ⟨hT2,hS2,rfl⟩
 walk_at "rd"
 refine ⟨a,ns,3,rfl,hS2,hl,_,rfl,by decide,S XY,by rw [Ya1],by rw [YO];decide,?_⟩
 obtain ⟨st,hst,est⟩:∃ st:Nat,st<30∧ns.getD 3 0%30=(st:Int):=⟨(ns.getD 3 0%30).toNat,by omega,by omega⟩
 rw [est,YbO]
 have lst:(XY.drop st).length=62 - st:=by rw [List.length_drop];rfl
 refine ⟨a,ns,4,rfl,hS2,hl,_,rfl,by decide,S (XY.drop st),rfl,by rw [YO];exact few (by omega),?_⟩
 obtain ⟨r,hr,hr2,er⟩:∃ r:Nat,17≤r∧r≤23∧17+ns.getD 4 0%7=(r:Int):=⟨(17+ns.getD 4 0%7).toNat,by omega,by omega,by omega⟩
 rw [er,YbP]
 have lsg:((XY.drop st).take r).length=r:=by rw [List.length_take];omega
 refine ⟨few (by decide),fun p hp=>⟨_,rfl,by rw [YO];exact few (by omega),_,rfl,by rw [YO];exact few (by omega),by rw [YO,lsg];exact .inl (cm (m:=5) (n:=5) (by omega) (by omega)),?_⟩⟩
 have w:=Yj.upd_new hp (.tup [V.str (Str.ofString "text"),.str (S ((XY.drop st).take r))])
 refine ⟨p,.t ((XY.drop st).take r),2,.non,400,?_,Ye,⟨by omega,by omega⟩,by omega,by decide,.inl ⟨rfl,rfl⟩,hT2.keep w,fun H3 _ _=>q H3⟩
 rw [YO]
 show _=[V.ref p,V.int 2,V.non,V.int ((((XY.drop st).take r).length:Int)^2)]
 rw [show ((((XY.drop st).take r).length:Int)^2)=(((XY.drop st).take r).length:Int)*(((XY.drop st).take r).length:Int) by rw [Int.pow_succ,Int.pow_succ,Int.pow_zero,Int.one_mul]]
theorem us1 {α:Type} {us:List α} (h:us.length=1):∃ a0,us=[a0]:=by
 match us,h with
 | [a0],_=>exact ⟨_,rfl⟩
theorem us2 {α:Type} {us:List α} (h:us.length=2):∃ a0 a1,us=[a0,a1]:=by
 match us,h with
 | [a0,a1],_=>exact ⟨_,_,rfl⟩
theorem us3 {α:Type} {us:List α} (h:us.length=3):∃ a0 a1 a2,us=[a0,a1,a2]:=by
 match us,h with
 | [a0,a1,a2],_=>exact ⟨_,_,_,rfl⟩
theorem us4 {α:Type} {us:List α} (h:us.length=4):∃ a0 a1 a2 a3,us=[a0,a1,a2,a3]:=by
 match us,h with
 | [a0,a1,a2,a3],_=>exact ⟨_,_,_,_,rfl⟩
structure Top (K:PySem.W.Frag) (mg:Str→Option Value) (Z3:Addr) (Zb:Addr) (Z8:Addr) (Zf:Addr) (Z9:Addr) (Zc:Addr) (Z5:Addr) (Zd:Addr) (Z6:Addr) (Za:Addr) (Ze:Addr) (Z7:Addr) (Z2:Addr) (Z4:Addr) (Z1:Addr) (Z0:Addr) (c_law_right P_law_right:Addr):Prop where
 Z0F:∀ P w base,(Gx.mk P w K mg base).Raw "_law_whole" "_law_whole" Z0u ["_law_found"]
 Z0m:∀ P w base,(Gx.mk P w K mg base).Raw "_law_cell_at" "_law_cell_at" Z0j ["_law_script","_law_k"]
 Z0c:∀ P w base,(Gx.mk P w K mg base).RawC "Maker" "__init__" "Maker.__init__" Z09 ["self"]
 ZJ:∀ P w base,(Gx.mk P w K mg base).RawI "WholeMaker" Z0 "WholeMaker.__init__" ZB ["self","low","high"]
 ZR:∀ P w base,(Gx.mk P w K mg base).RawI "TextMaker" Z1 "TextMaker.__init__" ZN ["self","signs"]
 Z0d:∀ P w base,(Gx.mk P w K mg base).Raw "least_distance" "least_distance" Z08 ["size"]
 ZK:∀ P w base,(Gx.mk P w K mg base).RawM Z0 "reckoned" "WholeMaker.reckoned" ZC ["self","size"]
 ZL:∀ P w base,(Gx.mk P w K mg base).RawM Z0 "count_at" "Maker.count_at" ZE ["self","size"]
 Zs:∀ P w base,(Gx.mk P w K mg base).RawM Z1 "reckoned" "TextMaker.reckoned" ZO ["self","size"]
 Zt:∀ P w base,(Gx.mk P w K mg base).RawM Z1 "count_at" "Maker.count_at" ZQ ["self","size"]
 Z03:∀ P w base,(Gx.mk P w K mg base).RawI "Lister" Z4 "Lister.__init__" Z01 ["self","book"]
 ZY:∀ P w base,(Gx.mk P w K mg base).RawM Z4 "new_maker" "Lister.new_maker" ZV ["self","shape"]
 Z04:∀ P w base,(Gx.mk P w K mg base).RawM Z4 "maker_of" "Lister.maker_of" Z02 ["self","shape"]
 Z0G:∀ P w base,(Gx.mk P w K mg base).Raw "maker_for" "maker_for" Z0t ["book","shape"]
 ZM:∀ P w base,(Gx.mk P w K mg base).RawM Z0 "value_at" "WholeMaker.value_at" ZD ["self","size","number"]
 ZS:∀ P w base,(Gx.mk P w K mg base).RawM Z1 "value_at" "TextMaker.value_at" ZP ["self","size","number"]
 Z05:∀ P w base,(Gx.mk P w K mg base).Raw "refuse_too_many" "refuse_too_many" Z00 ["count","most"]
 Z18:∀ P w base,(Gx.mk P w K mg base).Raw "all_made" "all_made" Z11 ["maker","size"]
 Z0o:∀ P w base,(Gx.mk P w K mg base).RawDX "all_values" "all_values" Z0n ["book","shape","size","most"] [.int 400]
 f_copied:∀ P w base,(Gx.mk P w K mg base).Raw "copied" "copied" W0 ["thing"]
 f_holds:∀ P w base,(Gx.mk P w K mg base).Raw "holds" "holds" Vq ["judge","value"]
 f_sieved:∀ P w base,(Gx.mk P w K mg base).RawDX "sieved" "sieved" W1 ["book","shape","size","judge","most"] [.int 400]
 Z0H:∀ P w base,(Gx.mk P w K mg base).Raw "_law_alone" "_law_alone" Z0v ["_law_e"]
 Z19:∀ P w base,(Gx.mk P w K mg base).Raw "_law_told" "_law_told" Z12 ["_law_shape","_law_size","_law_most_here","_law_judge"]
 Z0I:∀ P w base,(Gx.mk P w K mg base).RawT "_law_right" "_law_right" Z0i ["_law_shape","_law_size","_law_most_here","_law_many"] c_law_right
 ZZ:∀ P w base,(Gx.mk P w K mg base).Raw "_law_many_numbers" "_law_many_numbers" ZU ["_law_span","_law_size"]
 Z1a:∀ P w base,(Gx.mk P w K mg base).Raw "_law_most" "_law_most" Z13 ["_law_cell","_law_many"]
 Zr:Cls K Z4
 Zu:Yk K Z4 "book"
 Zo:Yk K Z4 "makers"
 Zi:Cls K Z1
 Zg:Yk K Z1 "counts"
 Zh:Yk K Z1 "signs"
 Zk:Cls K Z0
 Zj:Yk K Z0 "counts"
 Zn:Yk K Z0 "low"
 Zm:Yk K Z0 "span"
 ZX:mg "ValueError"=none
 b_bool:mg "bool"=none
 b_dict:mg "dict"=none
 b_int:mg "int"=none
 Zl:mg "isinstance"=none
 b_len:mg "len"=none
 b_list:mg "list"=none
 b_max:mg "max"=none
 b_min:mg "min"=none
 ZH:mg "range"=none
 Z0X:mg "tuple"=none
 x_CountError:mg "CountError"=some (.ref Z3)
 x_NoNote:mg "NoNote"=some (.ref Zb)
 x_Crowded:mg "Crowded"=some (.ref Z8)
 x_Twice:mg "Twice"=some (.ref Zf)
 x_NoRange:mg "NoRange"=some (.ref Z9)
 x_NoName:mg "NoName"=some (.ref Zc)
 x_NoGround:mg "NoGround"=some (.ref Z5)
 x_NoDraw:mg "NoDraw"=some (.ref Zd)
 x_NoNumber:mg "NoNumber"=some (.ref Z6)
 x_NoValue:mg "NoValue"=some (.ref Za)
 x_Astray:mg "Astray"=some (.ref Ze)
 x_NoBreach:mg "NoBreach"=some (.ref Z7)
 x_TooMany:mg "TooMany"=some (.ref Z2)
 t_TooMany:ExcT K Z2
 xi_TooMany:∀ P w base,(Gx.mk P w K mg base).RawX "TooMany" Z2 "TooMany.__init__" ZW ["self","count","most"]
 xf_TooMany:ExFl K Z2 Z3
 xn_TooMany_count:PySem.W.findIn K (.ref Z2) "count"=some none
 xn_TooMany_most:PySem.W.findIn K (.ref Z2) "most"=some none
 bi_CountError:∀ P w base,BInit (Gx.mk P w K mg base) "CountError" Z3
 i_TooMany_Astray:PySem.W.kitOne K (.ref Z2) (.ref Ze)=some false
 i_TooMany_CountError:PySem.W.kitOne K (.ref Z2) (.ref Z3)=some true
 i_TooMany_Crowded:PySem.W.kitOne K (.ref Z2) (.ref Z8)=some false
 i_TooMany_NoBreach:PySem.W.kitOne K (.ref Z2) (.ref Z7)=some false
 i_TooMany_NoDraw:PySem.W.kitOne K (.ref Z2) (.ref Zd)=some false
 i_TooMany_NoGround:PySem.W.kitOne K (.ref Z2) (.ref Z5)=some false
 i_TooMany_NoName:PySem.W.kitOne K (.ref Z2) (.ref Zc)=some false
 i_TooMany_NoNote:PySem.W.kitOne K (.ref Z2) (.ref Zb)=some false
 i_TooMany_NoNumber:PySem.W.kitOne K (.ref Z2) (.ref Z6)=some false
 i_TooMany_NoRange:PySem.W.kitOne K (.ref Z2) (.ref Z9)=some false
 i_TooMany_NoValue:PySem.W.kitOne K (.ref Z2) (.ref Za)=some false
 i_TooMany_TooMany:PySem.W.kitOne K (.ref Z2) (.ref Z2)=some true
 i_TooMany_Twice:PySem.W.kitOne K (.ref Z2) (.ref Zf)=some false
 i_TooMany_ValueError:PySem.W.kitOne K (.ref Z2) (.type "ValueError")=some true
 m_TooMany_CountError:PySem.W.exmOne K (.ref Z2) (.ref Z3)=some true
theorem Ya3 {K:PySem.W.Frag} {mg:Str→Option Value} {Z3 Zb Z8 Zf Z9 Zc Z5 Zd Z6 Za Ze Z7 Z2 Z4 Z1 Z0:Addr} {c_law_right P_law_right:Addr}  (t:Top K mg Z3 Zb Z8 Zf Z9 Zc Z5 Zd Z6 Za Ze Z7 Z2 Z4 Z1 Z0 c_law_right P_law_right) (P:Program) (w:World) (base:Heap) (hB:Bm mg base) (hC_law_right:PySem.W.CodeHd base c_law_right P_law_right) :
  WC (Gx.mk P w K mg base) 10 ["_law_script","_law_cell","_law_span","_law_size","_law_low","_law_many","_law_letters","_law_signs"] "law" VX (WT K [("_law_right",c_law_right,P_law_right)]):=by
 have Z1w:=Z1f (g:=Gx.mk P w K mg base) (t.xi_TooMany P w base) (t.bi_CountError P w base) t.xf_TooMany t.xn_TooMany_count t.xn_TooMany_most
 have G_law_whole:=Uq (g:=Gx.mk P w K mg base) (Z3:=Z3) (Zb:=Zb) (Z8:=Z8) (Zf:=Zf) (Z9:=Z9) (Zc:=Zc) (Z5:=Z5) (Zd:=Zd) (Z6:=Z6) (Za:=Za) (Ze:=Ze) (Z7:=Z7) (Z2:=Z2) (Z4:=Z4) (Z1:=Z1) (Z0:=Z0) (c_law_right:=c_law_right) (P_law_right:=P_law_right) (t.Z0F P w base) t.b_bool t.b_int t.Zl
 have G_law_cell_at:=Z1X (g:=Gx.mk P w K mg base) (Z3:=Z3) (Zb:=Zb) (Z8:=Z8) (Zf:=Zf) (Z9:=Z9) (Zc:=Zc) (Z5:=Z5) (Zd:=Zd) (Z6:=Z6) (Za:=Za) (Ze:=Ze) (Z7:=Z7) (Z2:=Z2) (Z4:=Z4) (Z1:=Z1) (Z0:=Z0) (c_law_right:=c_law_right) (P_law_right:=P_law_right) (t.Z0m P w base) t.b_len
 have Z0p:=Z1C (g:=Gx.mk P w K mg base) (Z3:=Z3) (Zb:=Zb) (Z8:=Z8) (Zf:=Zf) (Z9:=Z9) (Zc:=Zc) (Z5:=Z5) (Zd:=Zd) (Z6:=Z6) (Za:=Za) (Ze:=Ze) (Z7:=Z7) (Z2:=Z2) (Z4:=Z4) (Z1:=Z1) (Z0:=Z0) (c_law_right:=c_law_right) (P_law_right:=P_law_right) (t.Z0c P w base) t.Zi t.Zg t.Zh t.Zk t.Zj t.Zn t.Zm
 have Z0Y:=Z0z (g:=Gx.mk P w K mg base) (k:=1) (Z3:=Z3) (Zb:=Zb) (Z8:=Z8) (Zf:=Zf) (Z9:=Z9) (Zc:=Zc) (Z5:=Z5) (Zd:=Zd) (Z6:=Z6) (Za:=Za) (Ze:=Ze) (Z7:=Z7) (Z2:=Z2) (Z4:=Z4) (Z1:=Z1) (Z0:=Z0) (c_law_right:=c_law_right) (P_law_right:=P_law_right) (t.ZJ P w base) (Z0p.mono (by decide)) t.Zk t.Zj t.Zn t.Zm
 have Z1b:=Z0R (g:=Gx.mk P w K mg base) (k:=1) (Z3:=Z3) (Zb:=Zb) (Z8:=Z8) (Zf:=Zf) (Z9:=Z9) (Zc:=Zc) (Z5:=Z5) (Zd:=Zd) (Z6:=Z6) (Za:=Za) (Ze:=Ze) (Z7:=Z7) (Z2:=Z2) (Z4:=Z4) (Z1:=Z1) (Z0:=Z0) (c_law_right:=c_law_right) (P_law_right:=P_law_right) (t.ZR P w base) (Z0p.mono (by decide)) t.Zi t.Zg t.Zh
 have Z0q:=Z1D (g:=Gx.mk P w K mg base) (Z3:=Z3) (Zb:=Zb) (Z8:=Z8) (Zf:=Zf) (Z9:=Z9) (Zc:=Zc) (Z5:=Z5) (Zd:=Zd) (Z6:=Z6) (Za:=Za) (Ze:=Ze) (Z7:=Z7) (Z2:=Z2) (Z4:=Z4) (Z1:=Z1) (Z0:=Z0) (c_law_right:=c_law_right) (P_law_right:=P_law_right) (t.Z0d P w base)
 have Z0Z:=Z0A (g:=Gx.mk P w K mg base) (k:=1) (Z3:=Z3) (Zb:=Zb) (Z8:=Z8) (Zf:=Zf) (Z9:=Z9) (Zc:=Zc) (Z5:=Z5) (Zd:=Zd) (Z6:=Z6) (Za:=Za) (Ze:=Ze) (Z7:=Z7) (Z2:=Z2) (Z4:=Z4) (Z1:=Z1) (Z0:=Z0) (c_law_right:=c_law_right) (P_law_right:=P_law_right) (t.ZK P w base) (Z0q.mono (by decide)) t.b_max t.b_min t.Zk t.Zj t.Zn t.Zm
 have Z0e:=Z0C (g:=Gx.mk P w K mg base) (k:=2) (Z3:=Z3) (Zb:=Zb) (Z8:=Z8) (Zf:=Zf) (Z9:=Z9) (Zc:=Zc) (Z5:=Z5) (Zd:=Zd) (Z6:=Z6) (Za:=Za) (Ze:=Ze) (Z7:=Z7) (Z2:=Z2) (Z4:=Z4) (Z1:=Z1) (Z0:=Z0) (c_law_right:=c_law_right) (P_law_right:=P_law_right) (t.ZL P w base) (Z0Z.mono (by decide)) t.b_len t.Zk t.Zj t.Zn t.Zm
 have Z0J:=ZF (g:=Gx.mk P w K mg base) (m:=0) (k:=0) (Z3:=Z3) (Zb:=Zb) (Z8:=Z8) (Zf:=Zf) (Z9:=Z9) (Zc:=Zc) (Z5:=Z5) (Zd:=Zd) (Z6:=Z6) (Za:=Za) (Ze:=Ze) (Z7:=Z7) (Z2:=Z2) (Z4:=Z4) (Z1:=Z1) (Z0:=Z0) (c_law_right:=c_law_right) (P_law_right:=P_law_right) (t.Zs P w base) ((t.Zt P w base).none (fun _ _ _ _ h=>Yap h)) t.b_len t.Zi t.Zg t.Zh
 have Z0K:=ZG (g:=Gx.mk P w K mg base) (m:=0) (k:=0) (Z3:=Z3) (Zb:=Zb) (Z8:=Z8) (Zf:=Zf) (Z9:=Z9) (Zc:=Zc) (Z5:=Z5) (Zd:=Zd) (Z6:=Z6) (Za:=Za) (Ze:=Ze) (Z7:=Z7) (Z2:=Z2) (Z4:=Z4) (Z1:=Z1) (Z0:=Z0) (c_law_right:=c_law_right) (P_law_right:=P_law_right) (t.Zt P w base) ((t.Zs P w base).none (fun _ _ _ _ h=>YaY h)) t.b_len t.Zi t.Zg t.Zh
 have Z0L:=ZF (g:=Gx.mk P w K mg base) (m:=1) (k:=1) (Z3:=Z3) (Zb:=Zb) (Z8:=Z8) (Zf:=Zf) (Z9:=Z9) (Zc:=Zc) (Z5:=Z5) (Zd:=Zd) (Z6:=Z6) (Za:=Za) (Ze:=Ze) (Z7:=Z7) (Z2:=Z2) (Z4:=Z4) (Z1:=Z1) (Z0:=Z0) (c_law_right:=c_law_right) (P_law_right:=P_law_right) (t.Zs P w base) (Z0K.mono (by decide)) t.b_len t.Zi t.Zg t.Zh
 have Z0M:=ZG (g:=Gx.mk P w K mg base) (m:=1) (k:=1) (Z3:=Z3) (Zb:=Zb) (Z8:=Z8) (Zf:=Zf) (Z9:=Z9) (Zc:=Zc) (Z5:=Z5) (Zd:=Zd) (Z6:=Z6) (Za:=Za) (Ze:=Ze) (Z7:=Z7) (Z2:=Z2) (Z4:=Z4) (Z1:=Z1) (Z0:=Z0) (c_law_right:=c_law_right) (P_law_right:=P_law_right) (t.Zt P w base) (Z0J.mono (by decide)) t.b_len t.Zi t.Zg t.Zh
 have G_TextMaker_reckoned:=ZF (g:=Gx.mk P w K mg base) (m:=2) (k:=2) (Z3:=Z3) (Zb:=Zb) (Z8:=Z8) (Zf:=Zf) (Z9:=Z9) (Zc:=Zc) (Z5:=Z5) (Zd:=Zd) (Z6:=Z6) (Za:=Za) (Ze:=Ze) (Z7:=Z7) (Z2:=Z2) (Z4:=Z4) (Z1:=Z1) (Z0:=Z0) (c_law_right:=c_law_right) (P_law_right:=P_law_right) (t.Zs P w base) (Z0M.mono (by decide)) t.b_len t.Zi t.Zg t.Zh
 have Z0g:=ZG (g:=Gx.mk P w K mg base) (m:=2) (k:=2) (Z3:=Z3) (Zb:=Zb) (Z8:=Z8) (Zf:=Zf) (Z9:=Z9) (Zc:=Zc) (Z5:=Z5) (Zd:=Zd) (Z6:=Z6) (Za:=Za) (Ze:=Ze) (Z7:=Z7) (Z2:=Z2) (Z4:=Z4) (Z1:=Z1) (Z0:=Z0) (c_law_right:=c_law_right) (P_law_right:=P_law_right) (t.Zt P w base) (Z0L.mono (by decide)) t.b_len t.Zi t.Zg t.Zh
 have Z1H:=Z1m (g:=Gx.mk P w K mg base) (Z3:=Z3) (Zb:=Zb) (Z8:=Z8) (Zf:=Zf) (Z9:=Z9) (Zc:=Zc) (Z5:=Z5) (Zd:=Zd) (Z6:=Z6) (Za:=Za) (Ze:=Ze) (Z7:=Z7) (Z2:=Z2) (Z4:=Z4) (Z1:=Z1) (Z0:=Z0) (c_law_right:=c_law_right) (P_law_right:=P_law_right) (t.Z03 P w base) t.Zr t.Zu t.Zo
 have Z1x:=Z1g (g:=Gx.mk P w K mg base) (k:=3) (Z3:=Z3) (Zb:=Zb) (Z8:=Z8) (Zf:=Zf) (Z9:=Z9) (Zc:=Zc) (Z5:=Z5) (Zd:=Zd) (Z6:=Z6) (Za:=Za) (Ze:=Ze) (Z7:=Z7) (Z2:=Z2) (Z4:=Z4) (Z1:=Z1) (Z0:=Z0) (c_law_right:=c_law_right) (P_law_right:=P_law_right) (t.ZY P w base) Z0Y (by decide) Z1b (by decide)
 have Z1I:=Z1n (g:=Gx.mk P w K mg base) (k:=4) (Z3:=Z3) (Zb:=Zb) (Z8:=Z8) (Zf:=Zf) (Z9:=Z9) (Zc:=Zc) (Z5:=Z5) (Zd:=Zd) (Z6:=Z6) (Za:=Za) (Ze:=Ze) (Z7:=Z7) (Z2:=Z2) (Z4:=Z4) (Z1:=Z1) (Z0:=Z0) (c_law_right:=c_law_right) (P_law_right:=P_law_right) (t.Z04 P w base) (Z1x.mono (by decide)) t.Zr t.Zu t.Zo
 have G_maker_for:=Us (g:=Gx.mk P w K mg base) (k:=5) (Z3:=Z3) (Zb:=Zb) (Z8:=Z8) (Zf:=Zf) (Z9:=Z9) (Zc:=Zc) (Z5:=Z5) (Zd:=Zd) (Z6:=Z6) (Za:=Za) (Ze:=Ze) (Z7:=Z7) (Z2:=Z2) (Z4:=Z4) (Z1:=Z1) (Z0:=Z0) (c_law_right:=c_law_right) (P_law_right:=P_law_right) (t.Z0G P w base) Z1H (by decide) (Z1I.mono (by decide)) t.Zr t.Zu t.Zo
 have Z10:=Z0D (g:=Gx.mk P w K mg base) (k:=1) (Z3:=Z3) (Zb:=Zb) (Z8:=Z8) (Zf:=Zf) (Z9:=Z9) (Zc:=Zc) (Z5:=Z5) (Zd:=Zd) (Z6:=Z6) (Za:=Za) (Ze:=Ze) (Z7:=Z7) (Z2:=Z2) (Z4:=Z4) (Z1:=Z1) (Z0:=Z0) (c_law_right:=c_law_right) (P_law_right:=P_law_right) (t.ZM P w base) (Z0q.mono (by decide)) t.Zk t.Zj t.Zn t.Zm
 have Z1c:=Z0V (g:=Gx.mk P w K mg base) (Z3:=Z3) (Zb:=Zb) (Z8:=Z8) (Zf:=Zf) (Z9:=Z9) (Zc:=Zc) (Z5:=Z5) (Zd:=Zd) (Z6:=Z6) (Za:=Za) (Ze:=Ze) (Z7:=Z7) (Z2:=Z2) (Z4:=Z4) (Z1:=Z1) (Z0:=Z0) (c_law_right:=c_law_right) (P_law_right:=P_law_right) (t.ZS P w base) t.b_len t.ZH t.Zi t.Zg t.Zh
 have Z1J:=Z1r (g:=Gx.mk P w K mg base) (k:=2) (Z3:=Z3) (Zb:=Zb) (Z8:=Z8) (Zf:=Zf) (Z9:=Z9) (Zc:=Zc) (Z5:=Z5) (Zd:=Zd) (Z6:=Z6) (Za:=Za) (Ze:=Ze) (Z7:=Z7) (Z2:=Z2) (Z4:=Z4) (Z1:=Z1) (Z0:=Z0) (c_law_right:=c_law_right) (P_law_right:=P_law_right) (t.Z05 P w base) Z1w (by decide)
 have G_all_made:=UJ (g:=Gx.mk P w K mg base) (k:=3) (Z3:=Z3) (Zb:=Zb) (Z8:=Z8) (Zf:=Zf) (Z9:=Z9) (Zc:=Zc) (Z5:=Z5) (Zd:=Zd) (Z6:=Z6) (Za:=Za) (Ze:=Ze) (Z7:=Z7) (Z2:=Z2) (Z4:=Z4) (Z1:=Z1) (Z0:=Z0) (c_law_right:=c_law_right) (P_law_right:=P_law_right) (t.Z18 P w base) (Z10.mono (by decide)) (Z1c.mono (by decide)) (Z0e.mono (by decide)) (Z0g.mono (by decide)) t.ZH t.Zi t.Zg t.Zh t.Zk t.Zj t.Zn t.Zm
 have Z1y:=VN (g:=Gx.mk P w K mg base) (k:=6) (Z3:=Z3) (Zb:=Zb) (Z8:=Z8) (Zf:=Zf) (Z9:=Z9) (Zc:=Zc) (Z5:=Z5) (Zd:=Zd) (Z6:=Z6) (Za:=Za) (Ze:=Ze) (Z7:=Z7) (Z2:=Z2) (Z4:=Z4) (Z1:=Z1) (Z0:=Z0) (c_law_right:=c_law_right) (P_law_right:=P_law_right) (t.Z0o P w base) (G_maker_for.mono (by decide)) (Z1J.mono (by decide)) (G_all_made.mono (by decide)) (Z0e.mono (by decide)) (Z0g.mono (by decide)) t.Zi t.Zg t.Zh t.Zk t.Zj t.Zn t.Zm
 have G_copied:=Yas (g:=Gx.mk P w K mg base) (Z3:=Z3) (Zb:=Zb) (Z8:=Z8) (Zf:=Zf) (Z9:=Z9) (Zc:=Zc) (Z5:=Z5) (Zd:=Zd) (Z6:=Z6) (Za:=Za) (Ze:=Ze) (Z7:=Z7) (Z2:=Z2) (Z4:=Z4) (Z1:=Z1) (Z0:=Z0) (c_law_right:=c_law_right) (P_law_right:=P_law_right) (t.f_copied P w base) t.b_dict t.Zl t.b_list t.Z0X
 have G_holds:=YaZ (g:=Gx.mk P w K mg base) (k:=2) (Z3:=Z3) (Zb:=Zb) (Z8:=Z8) (Zf:=Zf) (Z9:=Z9) (Zc:=Zc) (Z5:=Z5) (Zd:=Zd) (Z6:=Z6) (Za:=Za) (Ze:=Ze) (Z7:=Z7) (Z2:=Z2) (Z4:=Z4) (Z1:=Z1) (Z0:=Z0) (c_law_right:=c_law_right) (P_law_right:=P_law_right) (t.f_holds P w base) (G_copied.mono (by decide)) (by decide)
 have G_sieved:=Yau (g:=Gx.mk P w K mg base) (k:=7) (Z3:=Z3) (Zb:=Zb) (Z8:=Z8) (Zf:=Zf) (Z9:=Z9) (Zc:=Zc) (Z5:=Z5) (Zd:=Zd) (Z6:=Z6) (Za:=Za) (Ze:=Ze) (Z7:=Z7) (Z2:=Z2) (Z4:=Z4) (Z1:=Z1) (Z0:=Z0) (c_law_right:=c_law_right) (P_law_right:=P_law_right) (t.f_sieved P w base) (Z1y.mono (by decide)) (G_holds.mono (by decide))
 have G_law_alone:=Uy (g:=Gx.mk P w K mg base) (Z3:=Z3) (Zb:=Zb) (Z8:=Z8) (Zf:=Zf) (Z9:=Z9) (Zc:=Zc) (Z5:=Z5) (Zd:=Zd) (Z6:=Z6) (Za:=Za) (Ze:=Ze) (Z7:=Z7) (Z2:=Z2) (Z4:=Z4) (Z1:=Z1) (Z0:=Z0) (c_law_right:=c_law_right) (P_law_right:=P_law_right) (t.Z0H P w base) t.ZX t.Zl t.x_Astray t.x_CountError t.x_Crowded t.x_NoBreach t.x_NoDraw t.x_NoGround t.x_NoName t.x_NoNote t.x_NoNumber t.x_NoRange t.x_NoValue t.x_TooMany t.x_Twice t.t_TooMany t.i_TooMany_NoNote t.i_TooMany_Crowded t.i_TooMany_Twice t.i_TooMany_NoRange t.i_TooMany_NoName t.i_TooMany_NoGround t.i_TooMany_NoDraw t.i_TooMany_NoNumber t.i_TooMany_NoValue t.i_TooMany_Astray t.i_TooMany_NoBreach t.i_TooMany_TooMany t.i_TooMany_CountError t.i_TooMany_ValueError
 have G_law_told:=UK (g:=Gx.mk P w K mg base) (k:=8) (Z3:=Z3) (Zb:=Zb) (Z8:=Z8) (Zf:=Zf) (Z9:=Z9) (Zc:=Zc) (Z5:=Z5) (Zd:=Zd) (Z6:=Z6) (Za:=Za) (Ze:=Ze) (Z7:=Z7) (Z2:=Z2) (Z4:=Z4) (Z1:=Z1) (Z0:=Z0) (c_law_right:=c_law_right) (P_law_right:=P_law_right) (t.Z19 P w base) (Z1y.mono (by decide)) (G_sieved.mono (by decide)) (G_law_whole.mono (by decide)) (G_law_alone.mono (by decide)) t.xn_TooMany_count t.xn_TooMany_most t.Zl t.b_len t.b_list t.x_CountError t.t_TooMany t.m_TooMany_CountError
 have G_law_right:=Uz (g:=Gx.mk P w K mg base) (k:=9) (Z3:=Z3) (Zb:=Zb) (Z8:=Z8) (Zf:=Zf) (Z9:=Z9) (Zc:=Zc) (Z5:=Z5) (Zd:=Zd) (Z6:=Z6) (Za:=Za) (Ze:=Ze) (Z7:=Z7) (Z2:=Z2) (Z4:=Z4) (Z1:=Z1) (Z0:=Z0) (c_law_right:=c_law_right) (P_law_right:=P_law_right) (t.Z0I P w base) hB hC_law_right (G_law_told.mono (by decide))
 have Z1z:=Z1h (g:=Gx.mk P w K mg base) (Z3:=Z3) (Zb:=Zb) (Z8:=Z8) (Zf:=Zf) (Z9:=Z9) (Zc:=Zc) (Z5:=Z5) (Zd:=Zd) (Z6:=Z6) (Za:=Za) (Ze:=Ze) (Z7:=Z7) (Z2:=Z2) (Z4:=Z4) (Z1:=Z1) (Z0:=Z0) (c_law_right:=c_law_right) (P_law_right:=P_law_right) (t.ZZ P w base) t.b_max t.b_min t.ZH
 have G_law_most:=UM (g:=Gx.mk P w K mg base) (Z3:=Z3) (Zb:=Zb) (Z8:=Z8) (Zf:=Zf) (Z9:=Z9) (Zc:=Zc) (Z5:=Z5) (Zd:=Zd) (Z6:=Z6) (Za:=Za) (Ze:=Ze) (Z7:=Z7) (Z2:=Z2) (Z4:=Z4) (Z1:=Z1) (Z0:=Z0) (c_law_right:=c_law_right) (P_law_right:=P_law_right) (t.Z1a P w base) t.b_max t.b_min
 exact Ya2 (g:=Gx.mk P w K mg base) (k:=10) (Z3:=Z3) (Zb:=Zb) (Z8:=Z8) (Zf:=Zf) (Z9:=Z9) (Zc:=Zc) (Z5:=Z5) (Zd:=Zd) (Z6:=Z6) (Za:=Za) (Ze:=Ze) (Z7:=Z7) (Z2:=Z2) (Z4:=Z4) (Z1:=Z1) (Z0:=Z0) (c_law_right:=c_law_right) (P_law_right:=P_law_right) (G_law_cell_at.mono (by decide)) (Z1z.mono (by decide)) (G_law_right.mono (by decide)) (G_law_most.mono (by decide)) t.b_len
end KW
theorem PySem.W.Fast.tw14770037106753251876:True:=trivial
theorem PySem.W.Fast.tw17925408764478972821:True:=trivial
theorem PySem.W.Fast.tw12766715780374970573:True:=trivial
theorem PySem.W.Fast.tw10806910667539459065:True:=trivial
theorem PySem.W.Fast.tw9226101745069206324:True:=trivial
theorem PySem.W.Fast.tw5145054512659324121:True:=trivial
theorem PySem.W.Fast.tw14094391469261193539:True:=trivial
theorem PySem.W.Fast.tw14146160960458092552:True:=trivial
theorem PySem.W.Fast.tw13133060981699360967:True:=trivial
theorem PySem.W.Fast.tw4733969805987449786:True:=trivial
theorem PySem.W.Fast.tw6193017843543031124:True:=trivial
theorem PySem.W.Fast.tw15106902836317644219:True:=trivial
theorem PySem.W.Fast.tw16457090573961072069:True:=trivial
theorem PySem.W.Fast.tw16675736139136117621:True:=trivial
theorem PySem.W.Fast.tw14899222486680780911:True:=trivial
theorem PySem.W.Fast.tw5713707282146031354:True:=trivial
theorem PySem.W.Fast.tw12505249445822646575:True:=trivial
theorem PySem.W.Fast.tw13555796873554358612:True:=trivial
theorem PySem.W.Fast.tw502169695547109286:True:=trivial
theorem PySem.W.Fast.tw13229115004203239781:True:=trivial
theorem PySem.W.Fast.tw9990989433923052600:True:=trivial
theorem PySem.W.Fast.tw9757495362657668596:True:=trivial
theorem PySem.W.Fast.tw10815319286933077131:True:=trivial
theorem PySem.W.Fast.tw2977777165713452452:True:=trivial
theorem PySem.W.Fast.tw413292815155339964:True:=trivial
theorem PySem.W.Fast.tw2510288822326394884:True:=trivial
theorem PySem.W.Fast.tw3747733106239614713:True:=trivial
theorem PySem.W.Fast.tw399933172444739089:True:=trivial
theorem PySem.W.Fast.tw5736988564297923745:True:=trivial
theorem PySem.W.Fast.tw16760800580752211350:True:=trivial
theorem PySem.W.Fast.tw10031808058226847533:True:=trivial
theorem PySem.W.Fast.tw10594269384002422265:True:=trivial
theorem PySem.W.Fast.tw13646968580746469733:True:=trivial
theorem PySem.W.Fast.tw9682816028096886188:True:=trivial
theorem PySem.W.Fast.tw1903627171372208021:True:=trivial
theorem PySem.W.Fast.tw7752007062192006922:True:=trivial
theorem PySem.W.Fast.tw11755544738080844113:True:=trivial
theorem PySem.W.Fast.tw14572926404836703590:True:=trivial
theorem PySem.W.Fast.tw8674211837927441670:True:=trivial
theorem PySem.W.Fast.tw3246067347462519095:True:=trivial
theorem PySem.W.Fast.tw11718272839619902090:True:=trivial
theorem PySem.W.Fast.tw7323077458679789461:True:=trivial
theorem PySem.W.Fast.tw15213098522380439741:True:=trivial
theorem PySem.W.Fast.tw10492874422319647785:True:=trivial
theorem PySem.W.Fast.tw2722640974540209439:True:=trivial
theorem PySem.W.Fast.tw12348520299832316346:True:=trivial
theorem PySem.W.Fast.tw4922030254653455417:True:=trivial
theorem PySem.W.Fast.tw6187981954841769014:True:=trivial
theorem PySem.W.Fast.tw3161283539054101687:True:=trivial
theorem PySem.W.Fast.tw9761775850906321058:True:=trivial
theorem PySem.W.Fast.tw9533589674051590939:True:=trivial
theorem PySem.W.Fast.tw8013896320181319914:True:=trivial
theorem PySem.W.Fast.tw2003481639222807794:True:=trivial
theorem PySem.W.Fast.tw8095691591701328160:True:=trivial
theorem PySem.W.Fast.tw3726479205599979224:True:=trivial
theorem PySem.W.Fast.tw17694503372424662485:True:=trivial
theorem PySem.W.Fast.tw7564314931718970929:True:=trivial
theorem PySem.W.Fast.tw14414197330868761257:True:=trivial
theorem PySem.W.Fast.tw6634475273757598960:True:=trivial
theorem PySem.W.Fast.tw5828630268167198228:True:=trivial
open PySem PySem.W PyProof.Rows
set_option maxRecDepth 100000 in
set_option maxHeartbeats 0 in
theorem PySem.Challenge.cw_countgen_k41_too_many_holds : PySem.Challenge.rw_countgen_k41_too_many.Holds := by
 w_on;o_law;k_head;(case hw=>w_witness2)
 k_fill
 refine' L2.YaL (l:=PySem.Challenge.rw_countgen_k41_too_many) (tabs:=[("_law_right",880,876)]) 10 "_law_script" KW.VX ["_law_script","_law_cell","_law_span","_law_size","_law_low","_law_many","_law_letters","_law_signs"] rfl rfl ⟨rfl,by decide,by decide,rfl⟩ KW.Xs (fun w h Y=>by first | exact PySem.W.kIn_of Y | exact PySem.W.km_in_of Y) ?tR ?tT ?tN ?F
 case tR=>intro p hp;simp only [List.mem_cons,List.not_mem_nil,or_false] at hp;rcases hp with rfl<;>exact ⟨_,rfl⟩
 case tT=>intro w p hp;simp only [List.mem_cons,List.not_mem_nil,or_false] at hp;rcases hp with rfl<;>kernel_rfl
 case tN=>intro w p hp;simp only [List.mem_cons,List.not_mem_nil,or_false] at hp;rcases hp with rfl<;>kernel_rfl
 case F =>
  intro w mg h KX G
  refine' ⟨L2.Q7 KX G ?a ?l ?c ?k (fun _ _ _ _ _ _ _ _ => .of_eq rfl),fun base hB hC=>KW.Ya3 ⟨?Z0F,?Z0m,?Z0c,?ZJ,?ZR,?Z0d,?ZK,?ZL,?Zs,?Zt,?Z03,?ZY,?Z04,?Z0G,?ZM,?ZS,?Z05,?Z18,?Z0o,?f_copied,?f_holds,?f_sieved,?Z0H,?Z19,?Z0I,?ZZ,?Z1a,?Zr,?Zu,?Zo,?Zi,?Zg,?Zh,?Zk,?Zj,?Zn,?Zm,?ZX,?b_bool,?b_dict,?b_int,?Zl,?b_len,?b_list,?b_max,?b_min,?ZH,?Z0X,?x_CountError,?x_NoNote,?x_Crowded,?x_Twice,?x_NoRange,?x_NoName,?x_NoGround,?x_NoDraw,?x_NoNumber,?x_NoValue,?x_Astray,?x_NoBreach,?x_TooMany,?t_TooMany,?xi_TooMany,?xf_TooMany,?xn_TooMany_count,?xn_TooMany_most,?bi_CountError,?i_TooMany_Astray,?i_TooMany_CountError,?i_TooMany_Crowded,?i_TooMany_NoBreach,?i_TooMany_NoDraw,?i_TooMany_NoGround,?i_TooMany_NoName,?i_TooMany_NoNote,?i_TooMany_NoNumber,?i_TooMany_NoRange,?i_TooMany_NoValue,?i_TooMany_TooMany,?i_TooMany_Twice,?i_TooMany_ValueError,?m_TooMany_CountError⟩ _ w base hB (hC _ (.head _))⟩
  (case a=>k_is)
  (case l=>k_is)
  (case c=>k_is)
  (case k=>k_is)
  case ZJ =>
   refine' L2.Vl KX G ["self","low","high"] ?aC ?mk ?kc ?a ?i ?l ?c ?k (fun _ _ _ _ _ _ us hl=>by obtain ⟨_,_,_,rfl⟩:=KW.us3 hl;rfl)
   (case aC=>k_is)
   (case mk=>k_is)
   (case kc=>k_is)
   (case a=>k_is)
   (case i=>k_is)
   (case l=>k_is)
   (case c=>k_is)
   (case k=>k_is)
  case ZR =>
   refine' L2.Vl KX G ["self","signs"] ?aC ?mk ?kc ?a ?i ?l ?c ?k (fun _ _ _ _ _ _ us hl=>by obtain ⟨_,_,rfl⟩:=KW.us2 hl;rfl)
   (case aC=>k_is)
   (case mk=>k_is)
   (case kc=>k_is)
   (case a=>k_is)
   (case i=>k_is)
   (case l=>k_is)
   (case c=>k_is)
   (case k=>k_is)
  case Z03 =>
   refine' L2.Vl KX G ["self","book"] ?aC ?mk ?kc ?a ?i ?l ?c ?k (fun _ _ _ _ _ _ us hl=>by obtain ⟨_,_,rfl⟩:=KW.us2 hl;rfl)
   (case aC=>k_is)
   (case mk=>k_is)
   (case kc=>k_is)
   (case a=>k_is)
   (case i=>k_is)
   (case l=>k_is)
   (case c=>k_is)
   (case k=>k_is)
  case Z0F =>
   refine' L2.Y4 KX G ["_law_found"] ?a ?l ?c ?k (fun _ _ _ _ _ _ us hl=>by obtain ⟨_,rfl⟩:=KW.us1 hl;rfl)
   (case a=>k_is)
   (case l=>k_is)
   (case c=>k_is)
   (case k=>k_is)
  case Z0m =>
   refine' L2.Y4 KX G ["_law_script","_law_k"] ?a ?l ?c ?k (fun _ _ _ _ _ _ us hl=>by obtain ⟨_,_,rfl⟩:=KW.us2 hl;rfl)
   (case a=>k_is)
   (case l=>k_is)
   (case c=>k_is)
   (case k=>k_is)
  case Z0c =>
   refine' L2.YbV KX G ["self"] ?aB ?ga ?rd ?a ?l ?c ?k (fun _ _ _ _ _ _ us hl=>by obtain ⟨_,rfl⟩:=KW.us1 hl;rfl)
   (case aB=>k_is)
   (case ga=>k_is)
   (case rd=>k_is)
   (case a=>k_is)
   (case l=>k_is)
   (case c=>k_is)
   (case k=>k_is)
  case Z0d =>
   refine' L2.Y4 KX G ["size"] ?a ?l ?c ?k (fun _ _ _ _ _ _ us hl=>by obtain ⟨_,rfl⟩:=KW.us1 hl;rfl)
   (case a=>k_is)
   (case l=>k_is)
   (case c=>k_is)
   (case k=>k_is)
  case ZK =>
   refine' L2.Xl KX G ["self","size"] ?a ?i ?l ?c ?k (fun _ _ _ _ _ _ us hl=>by obtain ⟨_,_,rfl⟩:=KW.us2 hl;rfl)
   (case a=>k_is)
   (case i=>k_is)
   (case l=>k_is)
   (case c=>k_is)
   (case k=>k_is)
  case ZL =>
   refine' L2.Xl KX G ["self","size"] ?a ?i ?l ?c ?k (fun _ _ _ _ _ _ us hl=>by obtain ⟨_,_,rfl⟩:=KW.us2 hl;rfl)
   (case a=>k_is)
   (case i=>k_is)
   (case l=>k_is)
   (case c=>k_is)
   (case k=>k_is)
  case Zs =>
   refine' L2.Xl KX G ["self","size"] ?a ?i ?l ?c ?k (fun _ _ _ _ _ _ us hl=>by obtain ⟨_,_,rfl⟩:=KW.us2 hl;rfl)
   (case a=>k_is)
   (case i=>k_is)
   (case l=>k_is)
   (case c=>k_is)
   (case k=>k_is)
  case Zt =>
   refine' L2.Xl KX G ["self","size"] ?a ?i ?l ?c ?k (fun _ _ _ _ _ _ us hl=>by obtain ⟨_,_,rfl⟩:=KW.us2 hl;rfl)
   (case a=>k_is)
   (case i=>k_is)
   (case l=>k_is)
   (case c=>k_is)
   (case k=>k_is)
  case ZY =>
   refine' L2.Xl KX G ["self","shape"] ?a ?i ?l ?c ?k (fun _ _ _ _ _ _ us hl=>by obtain ⟨_,_,rfl⟩:=KW.us2 hl;rfl)
   (case a=>k_is)
   (case i=>k_is)
   (case l=>k_is)
   (case c=>k_is)
   (case k=>k_is)
  case Z04 =>
   refine' L2.Xl KX G ["self","shape"] ?a ?i ?l ?c ?k (fun _ _ _ _ _ _ us hl=>by obtain ⟨_,_,rfl⟩:=KW.us2 hl;rfl)
   (case a=>k_is)
   (case i=>k_is)
   (case l=>k_is)
   (case c=>k_is)
   (case k=>k_is)
  case Z0G =>
   refine' L2.Y4 KX G ["book","shape"] ?a ?l ?c ?k (fun _ _ _ _ _ _ us hl=>by obtain ⟨_,_,rfl⟩:=KW.us2 hl;rfl)
   (case a=>k_is)
   (case l=>k_is)
   (case c=>k_is)
   (case k=>k_is)
  case ZM =>
   refine' L2.Xl KX G ["self","size","number"] ?a ?i ?l ?c ?k (fun _ _ _ _ _ _ us hl=>by obtain ⟨_,_,_,rfl⟩:=KW.us3 hl;rfl)
   (case a=>k_is)
   (case i=>k_is)
   (case l=>k_is)
   (case c=>k_is)
   (case k=>k_is)
  case ZS =>
   refine' L2.Xl KX G ["self","size","number"] ?a ?i ?l ?c ?k (fun _ _ _ _ _ _ us hl=>by obtain ⟨_,_,_,rfl⟩:=KW.us3 hl;rfl)
   (case a=>k_is)
   (case i=>k_is)
   (case l=>k_is)
   (case c=>k_is)
   (case k=>k_is)
  case Z05 =>
   refine' L2.Y4 KX G ["count","most"] ?a ?l ?c ?k (fun _ _ _ _ _ _ us hl=>by obtain ⟨_,_,rfl⟩:=KW.us2 hl;rfl)
   (case a=>k_is)
   (case l=>k_is)
   (case c=>k_is)
   (case k=>k_is)
  case Z18 =>
   refine' L2.Y4 KX G ["maker","size"] ?a ?l ?c ?k (fun _ _ _ _ _ _ us hl=>by obtain ⟨_,_,rfl⟩:=KW.us2 hl;rfl)
   (case a=>k_is)
   (case l=>k_is)
   (case c=>k_is)
   (case k=>k_is)
  case Z0o =>
   refine' L2.Uj KX G ["book","shape","size","most"] [.int 400] 3 ?a ?l ?c ?k ?t ?s ?v ?e ?b ?b0
   (case a=>k_is)
   (case l=>k_is)
   (case c=>k_is)
   (case k=>k_is)
   (case t=>k_is)
   (case s=>rfl)
   (case v=>exact .cons ⟨_,rfl⟩ (.nil))
   (case e=>rfl)
   (case b=>exact fun us hl=>match us,hl with | [_,_,_],_=>⟨_,rfl,rfl⟩)
   (case b0=>exact fun us hl=>match us,hl with | [_,_,_,_],_=>⟨_,rfl,rfl⟩)
  case f_copied =>
   refine' L2.Y4 KX G ["thing"] ?a ?l ?c ?k (fun _ _ _ _ _ _ us hl=>by obtain ⟨_,rfl⟩:=KW.us1 hl;rfl)
   (case a=>k_is)
   (case l=>k_is)
   (case c=>k_is)
   (case k=>k_is)
  case f_holds =>
   refine' L2.Y4 KX G ["judge","value"] ?a ?l ?c ?k (fun _ _ _ _ _ _ us hl=>by obtain ⟨_,_,rfl⟩:=KW.us2 hl;rfl)
   (case a=>k_is)
   (case l=>k_is)
   (case c=>k_is)
   (case k=>k_is)
  case f_sieved =>
   refine' L2.Uj KX G ["book","shape","size","judge","most"] [.int 400] 4 ?a ?l ?c ?k ?t ?s ?v ?e ?b ?b0
   (case a=>k_is)
   (case l=>k_is)
   (case c=>k_is)
   (case k=>k_is)
   (case t=>k_is)
   (case s=>rfl)
   (case v=>exact .cons ⟨_,rfl⟩ (.nil))
   (case e=>rfl)
   (case b=>exact fun us hl=>match us,hl with | [_,_,_,_],_=>⟨_,rfl,rfl⟩)
   (case b0=>exact fun us hl=>match us,hl with | [_,_,_,_,_],_=>⟨_,rfl,rfl⟩)
  case Z0H =>
   refine' L2.Y4 KX G ["_law_e"] ?a ?l ?c ?k (fun _ _ _ _ _ _ us hl=>by obtain ⟨_,rfl⟩:=KW.us1 hl;rfl)
   (case a=>k_is)
   (case l=>k_is)
   (case c=>k_is)
   (case k=>k_is)
  case Z19 =>
   refine' L2.Y4 KX G ["_law_shape","_law_size","_law_most_here","_law_judge"] ?a ?l ?c ?k (fun _ _ _ _ _ _ us hl=>by obtain ⟨_,_,_,_,rfl⟩:=KW.us4 hl;rfl)
   (case a=>k_is)
   (case l=>k_is)
   (case c=>k_is)
   (case k=>k_is)
  case Z0I =>
   refine' L2.YbW KX G ["_law_shape","_law_size","_law_most_here","_law_many"] ?a ?l ?c ?k ?e (fun _ _ _ _ _ _ us hl=>by obtain ⟨_,_,_,_,rfl⟩:=KW.us4 hl;rfl)
   (case a=>k_is)
   (case l=>k_is)
   (case c=>k_is)
   (case k=>k_is)
   (case e=>rfl)
  case ZZ =>
   refine' L2.Y4 KX G ["_law_span","_law_size"] ?a ?l ?c ?k (fun _ _ _ _ _ _ us hl=>by obtain ⟨_,_,rfl⟩:=KW.us2 hl;rfl)
   (case a=>k_is)
   (case l=>k_is)
   (case c=>k_is)
   (case k=>k_is)
  case Z1a =>
   refine' L2.Y4 KX G ["_law_cell","_law_many"] ?a ?l ?c ?k (fun _ _ _ _ _ _ us hl=>by obtain ⟨_,_,rfl⟩:=KW.us2 hl;rfl)
   (case a=>k_is)
   (case l=>k_is)
   (case c=>k_is)
   (case k=>k_is)
  case Zr =>
   refine' ⟨?a,?b,?c,?d⟩
   (case a=>k_is)
   (case b=>k_is)
   (case c=>k_is)
   (case d=>k_is)
  case Zu =>
   refine' L2.Xc ?a
   (case a=>k_is)
  case Zo =>
   refine' L2.Xc ?a
   (case a=>k_is)
  case Zi =>
   refine' ⟨?a,?b,?c,?d⟩
   (case a=>k_is)
   (case b=>k_is)
   (case c=>k_is)
   (case d=>k_is)
  case Zg =>
   refine' L2.Xc ?a
   (case a=>k_is)
  case Zh =>
   refine' L2.Xc ?a
   (case a=>k_is)
  case Zk =>
   refine' ⟨?a,?b,?c,?d⟩
   (case a=>k_is)
   (case b=>k_is)
   (case c=>k_is)
   (case d=>k_is)
  case Zj =>
   refine' L2.Xc ?a
   (case a=>k_is)
  case Zn =>
   refine' L2.Xc ?a
   (case a=>k_is)
  case Zm =>
   refine' L2.Xc ?a
   (case a=>k_is)
  case ZX =>
   refine' PySem.W.mg_none_of KX G ?a
   (case a=>k_is)
  case b_bool =>
   refine' PySem.W.mg_none_of KX G ?a
   (case a=>k_is)
  case b_dict =>
   refine' PySem.W.mg_none_of KX G ?a
   (case a=>k_is)
  case b_int =>
   refine' PySem.W.mg_none_of KX G ?a
   (case a=>k_is)
  case Zl =>
   refine' PySem.W.mg_none_of KX G ?a
   (case a=>k_is)
  case b_len =>
   refine' PySem.W.mg_none_of KX G ?a
   (case a=>k_is)
  case b_list =>
   refine' PySem.W.mg_none_of KX G ?a
   (case a=>k_is)
  case b_max =>
   refine' PySem.W.mg_none_of KX G ?a
   (case a=>k_is)
  case b_min =>
   refine' PySem.W.mg_none_of KX G ?a
   (case a=>k_is)
  case ZH =>
   refine' PySem.W.mg_none_of KX G ?a
   (case a=>k_is)
  case Z0X =>
   refine' PySem.W.mg_none_of KX G ?a
   (case a=>k_is)
  case x_CountError =>
   refine' PySem.W.mg_of KX G ?a
   (case a=>k_is)
  case x_NoNote =>
   refine' PySem.W.mg_of KX G ?a
   (case a=>k_is)
  case x_Crowded =>
   refine' PySem.W.mg_of KX G ?a
   (case a=>k_is)
  case x_Twice =>
   refine' PySem.W.mg_of KX G ?a
   (case a=>k_is)
  case x_NoRange =>
   refine' PySem.W.mg_of KX G ?a
   (case a=>k_is)
  case x_NoName =>
   refine' PySem.W.mg_of KX G ?a
   (case a=>k_is)
  case x_NoGround =>
   refine' PySem.W.mg_of KX G ?a
   (case a=>k_is)
  case x_NoDraw =>
   refine' PySem.W.mg_of KX G ?a
   (case a=>k_is)
  case x_NoNumber =>
   refine' PySem.W.mg_of KX G ?a
   (case a=>k_is)
  case x_NoValue =>
   refine' PySem.W.mg_of KX G ?a
   (case a=>k_is)
  case x_Astray =>
   refine' PySem.W.mg_of KX G ?a
   (case a=>k_is)
  case x_NoBreach =>
   refine' PySem.W.mg_of KX G ?a
   (case a=>k_is)
  case x_TooMany =>
   refine' PySem.W.mg_of KX G ?a
   (case a=>k_is)
  case xi_TooMany =>
   refine' L2.YbY KX G ["self","count","most"] ?aC ?a ?o ?i ?l ?c ?k (fun _ _ _ _ _ _ us hl=>by obtain ⟨_,_,_,rfl⟩:=KW.us3 hl;rfl)
   (case aC=>k_is)
   (case a=>k_is)
   (case o=>kernel_rfl)
   (case i=>k_is)
   (case l=>k_is)
   (case c=>k_is)
   (case k=>k_is)
  case xf_TooMany =>
   refine' ⟨?a,?b,?c⟩
   (case a=>k_is)
   (case b=>kernel_rfl)
   (case c=>k_is)
  case xn_TooMany_count=>k_is
  case xn_TooMany_most=>k_is
  case bi_CountError =>
   refine' L2.YaT KX G ?a ?b ?c ?d
   (case a=>k_is)
   (case b=>k_is)
   (case c=>k_is)
   (case d=>k_is)
  case t_TooMany =>
   refine' ⟨?a,?b,?c,?d,?e,?f⟩
   (case a=>k_is)
   (case b=>k_is)
   (case c=>k_is)
   (case d=>k_is)
   (case e=>k_is)
   (case f=>k_is)
  case i_TooMany_Astray=>kit_is
  case i_TooMany_CountError=>kit_is
  case i_TooMany_Crowded=>kit_is
  case i_TooMany_NoBreach=>kit_is
  case i_TooMany_NoDraw=>kit_is
  case i_TooMany_NoGround=>kit_is
  case i_TooMany_NoName=>kit_is
  case i_TooMany_NoNote=>kit_is
  case i_TooMany_NoNumber=>kit_is
  case i_TooMany_NoRange=>kit_is
  case i_TooMany_NoValue=>kit_is
  case i_TooMany_TooMany=>kit_is
  case i_TooMany_Twice=>kit_is
  case i_TooMany_ValueError=>kit_is
  case m_TooMany_CountError=>kts_exm
