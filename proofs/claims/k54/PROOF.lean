import PyProof.Rows.All
import Wide.All
import OpenK.AllK
import Wide.FinOn
import Lean
import PyProof.EqAt
import PyProof.EqKinds
import PyProof.TupleCall
import PyProof.NeData
import KE.KTryMore
import PyProof.ExcBaseAll.ValueError
import PyProof.ExcArgsOwn
import KE.KIntText
import PyProof.Rows.SetFrom
import PyProof.SetRoads
import PyProof.StrWalks
import PyProof.ListStr
import PyProof.Rows.StrSplitCount
import PyProof.MeetsStr
import PyProof.MeetsStr2
import PyProof.StrOps2
import KE.KTryOn
import OpenK.KMake
import PyProof.ReprRoads
import PyProof.ReprLen
import PySem.Challenge.RW_countgen_k54_each_said
set_option compiler.extract_closed false
set_option Elab.async false
set_option linter.all false
set_option maxRecDepth 100000
namespace L2
open PySem PySem.Spec PyProof.Rows
abbrev Key:=Sum Int Str
def XW:Key→Value→Bool
 | .inl k,v=>Value.isInt k v
 | .inr x,v=>Value.isStrOf x v
def keyH (w:World):Key→Int
 | .inl k=>hashInt k
 | .inr x=>hashStr w x
theorem YC:∀ {k:Key} {v:Value},XW k v=true→(∃ i t,k=Sum.inl i∧v=Value.int i t)∨(∃ x t,k=Sum.inr x∧v=Value.str x t)
 | .inl i,v,h=>by
  obtain ⟨t,e⟩:=Value.isInt_shape (k:=i) (v:=v) h
  exact .inl ⟨i,t,rfl,e⟩
 | .inr x,v,h=>by
  obtain ⟨t,e⟩:=Value.isStrOf_shape (x:=x) (v:=v) h
  exact .inr ⟨x,t,rfl,e⟩
theorem V1 (i:Int) (t:Tok):XW (.inl i) (.int i t)=true:=by simp [XW,Value.isInt]
theorem V2 (x:Str) (t:Tok):XW (.inr x) (.str x t)=true:=by simp [XW,Value.isStrOf]
theorem QP (a b:Int):decide ((Sum.inl a:Key)=Sum.inl b)=(a==b):=by
 by_cases e:a=b
 ·subst e;simp
 ·have h:¬ (Sum.inl a:Key)=Sum.inl b:=fun q=>e (Sum.inl.inj q)
  rw [decide_eq_false h]
  exact (beq_eq_false_iff_ne.mpr e).symm
theorem QQ (a b:Str):decide ((Sum.inr a:Key)=Sum.inr b)=decide (a=b):=by
 by_cases e:a=b
 ·subst e;simp
 ·have h:¬ (Sum.inr a:Key)=Sum.inr b:=fun q=>e (Sum.inr.inj q)
  rw [decide_eq_false h,decide_eq_false e]
theorem QR (a:Int) (b:Str):decide ((Sum.inl a:Key)=Sum.inr b)=false:=decide_eq_false (fun q=>nomatch q)
theorem QS (a:Str) (b:Int):decide ((Sum.inr a:Key)=Sum.inl b)=false:=decide_eq_false (fun q=>nomatch q)
def YS (prog:Program) (w:World):PySem.KeyKind prog w Key where
 is:=XW
 hash:=keyH w
 inj:=fun v a b ha hb=>by
  rcases YC ha with ⟨i,t,rfl,rfl⟩ | ⟨x,t,rfl,rfl⟩
  ·rcases YC hb with ⟨j,u,rfl,e⟩ | ⟨y,u,rfl,e⟩
   ·injection e with e1 _;rw [e1]
   ·exact nomatch e
  ·rcases YC hb with ⟨j,u,rfl,e⟩ | ⟨y,u,rfl,e⟩
   ·exact nomatch e
   ·injection e with e1 _;rw [e1]
 byValue:=fun k v h=>by
  rcases YC h with ⟨i,t,rfl,rfl⟩ | ⟨x,t,rfl,rfl⟩<;>rfl
 pyHash:=fun hv h=>by
  rcases YC hv with ⟨i,t,rfl,rfl⟩ | ⟨x,t,rfl,rfl⟩
  ·exact wpAny_pyHash_int h
  ·exact wpAny_pyHash_str h
 eqBool:=fun hu hv h=>by
  rcases YC hu with ⟨i,t,rfl,rfl⟩ | ⟨x,t,rfl,rfl⟩
  ·rcases YC hv with ⟨j,u,rfl,rfl⟩ | ⟨y,u,rfl,rfl⟩
   ·rw [QP] at h;exact wpAny_eqBool_int h
   ·rw [QR] at h;exact SeqAt.EqAt.int_str i t y u _ _ _ _ h
  ·rcases YC hv with ⟨j,u,rfl,rfl⟩ | ⟨y,u,rfl,rfl⟩
   ·rw [QS] at h;exact SeqAt.EqAt.str_int x t j u _ _ _ _ h
   ·rw [QQ] at h;exact wpAny_eqBool_str h
 «strs»:=fun k x t v h=>by
  rcases YC h with ⟨i,u,rfl,e⟩ | ⟨y,u,rfl,e⟩
  ·exact nomatch e
  ·injection e with e1 _
   subst e1
   cases v<;>rfl
theorem Va (prog:Program) (w:World) (i:Int) (t:Tok):(YS prog w).is (.inl i) (.int i t)=true:=V1 i t
theorem Vb (prog:Program) (w:World) (x:Str) (t:Tok):(YS prog w).is (.inr x) (.str x t)=true:=V2 x t
end L2
namespace L2
open PySem PySem.Spec PyProof.Rows
inductive V where
 | non | bl (b:Bool) | int (i:Int) | str (x:Str) | byt (b:Array UInt8) | flt (b:UInt64) | ref (a:Addr) | ty (n:String)
 deriving DecidableEq
def Ym:V→Value→Prop
 | .non,u=>u=Value.none
 | .bl b,u=>u=Value.bool b
 | .int i,u=>∃ t,u=Value.int i t
 | .str x,u=>∃ t,u=Value.str x t
 | .byt b,u=>∃ t,u=Value.bytes b t
 | .flt b,u=>∃ t,u=Value.float b t
 | .ref a,u=>u=Value.ref a
 | .ty n,u=>u=Value.type n
abbrev Yj:List V→List Value→Prop:=Paired Ym
theorem Yj.length {xs:List V} {us:List Value} (r:Yj xs us):xs.length=us.length:=Paired.length r
theorem Yj.get:∀ {xs:List V} {us:List Value} {i:Nat} {x:V},Yj xs us→xs[i]?=some x→∃ u,us[i]?=some u∧Ym x u
 | _,_,_,_,.nil,e=>by simp at e
 | _,_,0,_,.cons r _,e=>by simp at e;subst e;exact ⟨_,rfl,r⟩
 | _,_,i+1,x,.cons _ t,e=>by
  obtain ⟨u,h1,h2⟩:=Yj.get (i:=i) (x:=x) t (by simpa using e)
  exact ⟨u,by simpa using h1,h2⟩
theorem Yj.set {x:V} {u:Value} (r:Ym x u):∀ {xs:List V} {us:List Value} (i:Nat),Yj xs us→Yj (xs.set i x) (us.set i u)
 | _,_,_,.nil => .nil
 | _,_,0,.cons _ t => .cons r t
 | _,_,i+1,.cons q t => .cons q (Yj.set r i t)
theorem Yj.append:∀ {xs ys:List V} {us ws:List Value},Yj xs us→Yj ys ws→Yj (xs++ys) (us++ws)
 | _,_,_,_,.nil,s=>s
 | _,_,_,_,.cons r t,s => .cons r (Yj.append t s)
theorem Yj.take:∀ {xs:List V} {us:List Value} (n:Nat),Yj xs us→Yj (xs.take n) (us.take n)
 | _,_,0,_ => .nil
 | _,_,_+1,.nil => .nil
 | _,_,n+1,.cons r t => .cons r (Yj.take n t)
theorem Yj.drop:∀ {xs:List V} {us:List Value} (n:Nat),Yj xs us→Yj (xs.drop n) (us.drop n)
 | _,_,0,r=>r
 | _,_,_+1,.nil => .nil
 | _,_,n+1,.cons _ t=>Yj.drop n t
def XD:Option V→Option Value→Prop
 | some v,some u=>Ym v u
 | none,none=>True
 | _,_=>False
def KV {κ:Type}:List (κ×V)→List (κ×Value)→Prop:=Paired fun (p:κ×V) (q:κ×Value)=>p.1=q.1∧Ym p.2 q.2
def kV:Key→V
 | .inl i => .int i
 | .inr x => .str x
inductive HO where
 /-- a list -/
 | lst (xs:List V)
 /-- a tuple (never changes) -/
 | tup (xs:List V)
 /-- a dict whose keys are ints and texts;one whose keys are tuples of ints and texts (the empty one is both) -/
 | dK (kvs:List (Key×V)) | dT (kvs:List (List Key×V))
 /-- a set of ints: its members,its size -/
 | set (S:Int→Bool) (n:Nat)
 /-- an instance of the class at C,its dict at dx,its attributes -/
 | ins (C dx:Addr) (fs:List (Str×V))
 /-- the dict of the instance at x -/
 | own (x:Addr)
 /-- the dict of an exception -/
 | xd (fs:List (Str×V))
 /-- a bound method,f of x -/
 | met (f x:Addr)
 /-- a range object lo,lo+1,.. below hi -/
 | rng (lo hi:Int)
 /-- a thing that is known to the object (the script;a dict while a loop walks it): read,never written while it is so -/
 | frz (o:Obj) (u:HO)
 /-- a code object's table -/
 | tbl (ps:Array Value)
 /-- any other thing,by what is true of its one object (a def of one's own: SetO a S n:=HO.ext fun h => ..) -/
 | ext (φ:Heap→Prop)
abbrev Hp:=Addr→Option HO
def upd (H:Hp) (a:Addr) (o:HO):Hp:=fun b=>if b=a then some o else H b
theorem Yc {H:Hp} {a:Addr} {o:HO}:upd H a o a=some o:=by unfold upd;rw [if_pos rfl]
theorem Yg {H:Hp} {a b:Addr} {o:HO} (h:b≠a):upd H a o b=H b:=by unfold upd;rw [if_neg h]
theorem ne_of {H:Hp} {a b:Addr} {o u:HO} (h:H a=some o) (h':H b=some u) (d:o≠u):a≠b:=by
 intro e;subst e;rw [h] at h';exact d (Option.some.inj h')
theorem Yv {H:Hp} {a b:Addr} {o:HO} (h:H a=some o) (h':H b=none):a≠b:=by
 intro e;subst e;rw [h] at h';cases h'
section
variable (P:Program) (w:World)
def Ys (H:Hp) (h:Heap) (a:Addr):HO→Prop
 | .lst xs=>xs.length≤sizeLine∧∃ (its:List Value) (n:Nat),Yj xs its∧h.get? a=some { cls := .type "list",data := .seq its.toArray n }
 | .tup xs=>xs.length≤sizeLine∧∃ its:List Value,Yj xs its∧IsTup h a its.toArray
 | .dK kvs=>kvs.length≤sizeLine∧(a==sysModules)=false∧∃ vs,KV kvs vs∧h.DictOf (YS P w) a vs
 | .dT kvs=>kvs.length≤sizeLine∧(a==sysModules)=false∧∃ xs:List (List Key×Addr×Value),
   Paired (fun (p:List Key×V) (q:List Key×Addr×Value)=>p.1=q.1∧H q.2.1=some (.tup (p.1.map kV))∧Ym p.2 q.2.2) kvs xs ∧
   ∃ o es ep,h.get? a=some o∧o.ExactDict∧o.data = .dict es ep∧es.toList=xs.map (entryOfKey (tupleKind (YS P w)))∧(xs.map (·.1)).Nodup
 | .set S n=>h.SetOf (intKind P w) a S n
 | .ins C dx fs=>H dx=some (.own a)∧fs.length≤1000∧dx≠a∧h.get? a=some (PySem.W.instObj C dx) ∧
   ∃ mA,h.Ns1 dx mA∧(∀ f,XD (fs.lookup f) (mA f))∧PySem.Within mA (fs.map (·.1))
 | .own _=>∃ o,h.get? a=some o
 | .xd fs=>∃ mA,h.Ns1 a mA∧∀ f,XD (fs.lookup f) (mA f)
 | .rng lo hi=>∃ t u v,h.get? a=some { cls := .type "range",data := .fields #[.int lo t,.int hi u,.int 1 v] }
 | .frz o u=>h.get? a=some o∧Ys H h a u
 | .tbl ps=>h.get? a=some { cls := .none,data := .fields ps }
 | .met f x=>h.get? a=some (PySem.W.methodObj (.ref f) (.ref x))
 | .ext φ=>φ h∧(∃ o,h.get? a=some o)∧∀ h1 h2:Heap,φ h1→(∀ o,h1.get? a=some o→h2.get? a=some o)→φ h2
def HOk (H:Hp) (h:Heap):Prop:=∀ a o,H a=some o→Ys P w H h a o
end
section
variable {P:Program} {w:World} {H H':Hp} {h h':Heap} {a:Addr} {o:HO}
theorem Ys.lt (x:Ys P w H h a o):a<h.objs.size:=by
 cases o with
 | lst xs=>obtain ⟨_,_,_,_,e⟩:=x;exact Heap.lt_size e
 | tup xs=>obtain ⟨_,_,_,p⟩:=x;exact p.lt
 | dK kvs=>obtain ⟨_,_,_,_,o,_,_,e,_⟩:=x;exact Heap.lt_size e
 | dT kvs=>obtain ⟨_,_,_,_,o,_,_,e,_⟩:=x;exact Heap.lt_size e
 | set S n=>obtain ⟨o,_,_,_,e,_⟩:=x;exact Heap.lt_size e
 | ins C dx fs=>obtain ⟨_,_,_,e,_⟩:=x;exact Heap.lt_size e
 | own y=>obtain ⟨_,e⟩:=x;exact Heap.lt_size e
 | xd fs=>obtain ⟨_,⟨_,_,_,e,_⟩,_⟩:=x;exact Heap.lt_size e
 | rng lo hi=>obtain ⟨_,_,_,e⟩:=x;exact Heap.lt_size e
 | frz ob u=>obtain ⟨e,_⟩:=x;exact Heap.lt_size e
 | tbl ps=>exact Heap.lt_size (show h.get? a=some _ from x)
 | met f y=>exact Heap.lt_size (show h.get? a=some _ from x)
 | ext φ=>obtain ⟨_,⟨_,e⟩,_⟩:=x;exact Heap.lt_size e
theorem Paired.mapP {α β:Type} {F G:α→β→Prop}:∀ {l₁:List α} {l₂:List β},Paired F l₁ l₂→(∀ a b,F a b→G a b)→Paired G l₁ l₂
 | _,_,.nil,_ => .nil
 | _,_,.cons r t,f => .cons (f _ _ r) (Paired.mapP t f)
theorem Ys.stay (x:Ys P w H h a o) (k:∀ b u,(b=a∨H b=some (.own a))→h.get? b=some u→h'.get? b=some u)
  (ho:∀ b,H b=some (.own a)→H' b=some (.own a)) (ht:∀ b xs,H b=some (.tup xs)→H' b=some (.tup xs)):Ys P w H' h' a o:=by
 induction o with
 | lst xs=>obtain ⟨z,its,n,r,e⟩:=x;exact ⟨z,its,n,r,k _ _ (.inl rfl) e⟩
 | tup xs=>obtain ⟨z,its,r,ob,e,c⟩:=x;exact ⟨z,its,r,ob,k _ _ (.inl rfl) e,c⟩
 | dK kvs=>obtain ⟨z,y,vs,r,ob,es,ep,e,c⟩:=x;exact ⟨z,y,vs,r,ob,es,ep,k _ _ (.inl rfl) e,c⟩
 | dT kvs =>
  obtain ⟨z,y,xs,r,ob,es,ep,e,c⟩:=x
  exact ⟨z,y,xs,Paired.mapP r fun p q z=>⟨z.1,ht _ _ z.2.1,z.2.2⟩,ob,es,ep,k _ _ (.inl rfl) e,c⟩
 | set S n=>obtain ⟨ob,es,ep,t,e,c⟩:=x;exact ⟨ob,es,ep,t,k _ _ (.inl rfl) e,c⟩
 | ins C dx fs =>
  obtain ⟨d,z,ne,e,mA,⟨od,es,ep,e2,c⟩,r⟩:=x
  exact ⟨ho _ d,z,ne,k _ _ (.inl rfl) e,mA,⟨od,es,ep,k _ _ (.inr d) e2,c⟩,r⟩
 | own y=>obtain ⟨ob,e⟩:=x;exact ⟨ob,k _ _ (.inl rfl) e⟩
 | xd fs=>obtain ⟨mA,⟨od,es,ep,e,c⟩,r⟩:=x;exact ⟨mA,⟨od,es,ep,k _ _ (.inl rfl) e,c⟩,r⟩
 | rng lo hi=>obtain ⟨t,u,v,e⟩:=x;exact ⟨t,u,v,k _ _ (.inl rfl) e⟩
 | frz ob u ih=>obtain ⟨e,q⟩:=x;exact ⟨k _ _ (.inl rfl) e,ih q⟩
 | tbl ps =>
  have e:h.get? a=some { cls := .none,data := .fields ps }:=x
  show h'.get? a=some { cls := .none,data := .fields ps }
  exact k a _ (.inl rfl) e
 | met f y =>
  have e:h.get? a=some (PySem.W.methodObj (.ref f) (.ref y)):=x
  show h'.get? a=some (PySem.W.methodObj (.ref f) (.ref y))
  exact k a _ (.inl rfl) e
 | ext φ=>obtain ⟨p,⟨o,e⟩,st⟩:=x;exact ⟨st _ _ p fun o q=>k _ _ (.inl rfl) q,⟨o,k _ _ (.inl rfl) e⟩,st⟩
theorem HOk.lt (x:HOk P w H h) (e:H a=some o):a<h.objs.size:=(x a o e).lt
theorem HOk.fresh (x:HOk P w H h) (e:h.objs.size≤a):H a=none:=by
 cases q:H a with
 | none=>rfl
 | some u=>exact absurd (Nat.lt_of_lt_of_le (x.lt q) e) (Nat.lt_irrefl _)
theorem HOk.kept (x:HOk P w H h) (k:∀ b u,h.get? b=some u→h'.get? b=some u):HOk P w H h':=fun a o e =>
 (x a o e).stay (fun b u _ q=>k b u q) (fun _ q=>q) fun _ _ q=>q
theorem HOk.laid (x:HOk P w H h) (k:∀ b u,h.get? b=some u→h'.get? b=some u) (hp:h.objs.size≤a) (new:Ys P w (upd H a o) h' a o):HOk P w (upd H a o) h':=fun b u e=>by
 have hn:=x.fresh hp
 by_cases hb:b=a
 ·subst hb;rw [Yc] at e;cases e;exact new
 ·rw [Yg hb] at e
  exact (x b u e).stay (fun c v _ q=>k c v q) (fun c q=>by rw [Yg (Yv q hn)];exact q) fun c xs q=>by rw [Yg (Yv q hn)];exact q
end
def Rd (H:Hp) (a:Addr) (u:HO):Prop:=H a=some u∨∃ o,H a=some (.frz o u)
theorem Rd.of {H:Hp} {a:Addr} {u:HO} (h:H a=some u):Rd H a u := .inl h
theorem Rd.ok {P:Program} {w:World} {H:Hp} {h:Heap} {a:Addr} {u:HO} (r:Rd H a u) (x:HOk P w H h):Ys P w H h a u:=by
 rcases r with r | ⟨o,r⟩
 ·exact x a u r
 ·obtain ⟨_,q⟩:=x a _ r
  exact q
def Mut:Option HO→Prop
 | some (.lst _)=>True
 | some (.dK _)=>True
 | some (.dT _)=>True
 | some (.set _ _)=>True
 | some (.ins _ _ _)=>True
 | some (.ext _)=>True
 | _=>False
section
variable {P:Program} {w:World} {H:Hp} {h h':Heap} {x e:Addr} {o':HO}
theorem HOk.write (ok:HOk P w H h) (mu:Mut (H x)) (he:e=x∨H e=some (.own x)) (k:∀ b u,b≠e→h.get? b=some u→h'.get? b=some u) (heo:∃ u,h'.get? e=some u)
  (new:Ys P w (upd H x o') h' x o'):HOk P w (upd H x o') h':=fun b u q=>by
 have nown:∀ c y,H c=some (.own y)→c≠x:=fun c y r z=>by subst z;rw [r] at mu;exact mu
 have ntup:∀ c xs,H c=some (.tup xs)→c≠x:=fun c xs r z=>by subst z;rw [r] at mu;exact mu
 by_cases hb:b=x
 ·subst hb;rw [Yc] at q;cases q;exact new
 ·rw [Yg hb] at q
  by_cases hbe:b=e
  ·have q':H b=some (.own x):=by
    rcases he with z | z
    ·exact absurd (hbe.trans z) hb
    ·rw [hbe];exact z
   rw [q] at q';cases q'
   obtain ⟨v,hv⟩:=heo
   exact ⟨v,by rw [hbe];exact hv⟩
  ·refine (ok b u q).stay (fun c v hc r=>k c v ?_ r) (fun c r=>by rw [Yg (nown c b r)];exact r) fun c xs r=>by rw [Yg (ntup c xs r)];exact r
   rcases hc with rfl | hc
   ·exact hbe
   ·rintro rfl
    rcases he with z | z
    ·exact nown c b hc z
    ·rw [hc] at z;cases z;exact hb rfl
end
structure Un (fs ex:List Addr) (H H':Hp) (h h':Heap):Prop where
 keep:∀ b o,h.get? b=some o→H b=none→b∉fs→b∉ex→h'.get? b=some o
 slot:∀ b o,h.get? b=some o→H b=none→b∈fs→b∉ex→∃ sl,h'.get? b=some { o with slots:=sl }
 free:∀ b o,h.get? b=some o→H b=none→b∉ex→H' b=none
 there:∀ b o,h.get? b=some o→b∉ex→∃ o',h'.get? b=some o'
 tups:∀ b xs,H b=some (.tup xs)→H' b=some (.tup xs)
 frzs:∀ b o u,H b=some (.frz o u)→H' b=some (.frz o u)
 tbls:∀ b ps,H b=some (.tbl ps)→∃ more,H' b=some (.tbl (ps++more))
section
variable {fs fs' ex ex':List Addr} {H H1 H2:Hp} {h h1 h2 h':Heap} {a x e:Addr} {o:HO}
theorem Un.any (u:Un fs ex H H1 h h1) {b:Addr} {ob:Obj} (q:h.get? b=some ob) (n:H b=none) (hx:b∉ex):∃ sl,h1.get? b=some { ob with slots:=sl }:=by
 by_cases hb:b∈fs
 ·exact u.slot b ob q n hb hx
 ·exact ⟨ob.slots,u.keep b ob q n hb hx⟩
theorem Un.trans (a:Un fs ex H H1 h h1) (b:Un fs ex H1 H2 h1 h2):Un fs ex H H2 h h2 where
 keep:=fun c ob q n hc hx=>b.keep c ob (a.keep c ob q n hc hx) (a.free c ob q n hx) hc hx
 slot:=fun c ob q n hc hx=>by
  obtain ⟨sl,e1⟩:=a.slot c ob q n hc hx
  obtain ⟨sl',e2⟩:=b.slot c _ e1 (a.free c ob q n hx) hc hx
  exact ⟨sl',e2⟩
 free:=fun c ob q n hx=>by
  obtain ⟨o',e1⟩:=a.there c ob q hx
  exact b.free c o' e1 (a.free c ob q n hx) hx
 there:=fun c ob q hx=>by
  obtain ⟨o',e1⟩:=a.there c ob q hx
  exact b.there c o' e1 hx
 tups:=fun c xs q=>b.tups c xs (a.tups c xs q)
 frzs:=fun c ob xs q=>b.frzs c ob xs (a.frzs c ob xs q)
 tbls:=fun c ps q=>by
  obtain ⟨m1,e1⟩:=a.tbls c ps q
  obtain ⟨m2,e2⟩:=b.tbls c _ e1
  exact ⟨m1++m2,by rw [e2,Array.append_assoc]⟩
theorem Un.kept (k:∀ b u,h.get? b=some u→h'.get? b=some u):Un fs ex H H h h' :=
 ⟨fun b ob q _ _ _=>k b ob q,fun b ob q _ _ _=>⟨ob.slots,k b ob q⟩,fun _ _ _ n _=>n,fun b ob q _=>⟨ob,k b ob q⟩,fun _ _ q=>q,fun _ _ _ q=>q,fun _ ps q=>⟨#[],by rw [q];simp⟩⟩
theorem Un.refl:Un fs ex H H h h:=Un.kept fun _ _ q=>q
theorem Un.laid (k:∀ b u,h.get? b=some u→h'.get? b=some u) (hp:h.objs.size≤a) (hn:H a=none):Un fs ex H (upd H a o) h h' where
 keep:=fun b u q _ _ _=>k b u q
 slot:=fun b u q _ _ _=>⟨u.slots,k b u q⟩
 free:=fun b u q n _=>by rw [Yg (Nat.ne_of_lt (Nat.lt_of_lt_of_le (Heap.lt_size q) hp))];exact n
 there:=fun b u q _=>⟨u,k b u q⟩
 tups:=fun b xs q=>by rw [Yg (Yv q hn)];exact q
 frzs:=fun b u xs q=>by rw [Yg (Yv q hn)];exact q
 tbls:=fun b ps q=>⟨#[],by rw [Yg (Yv q hn),q];simp⟩
theorem Un.write (mu:Mut (H x)) (he:e=x∨H e=some (.own x)) (k:∀ b u,b≠e→h.get? b=some u→h'.get? b=some u) (heo:∃ u,h'.get? e=some u):Un fs ex H (upd H x o) h h':=by
 have hx:∀ b,H b=none→b≠x:=fun b n z=>by subst z;rw [n] at mu;exact mu
 have hb:∀ b,H b=none→b≠e:=fun b n z=>by
  subst z
  rcases he with r | r
  ·exact hx b n r
  ·rw [n] at r;cases r
 have hm:∀ b u,H b=some u→¬ Mut (some u)→b≠x:=fun b u q nm z=>by subst z;rw [q] at mu;exact nm mu
 refine ⟨fun b u q n _ _=>k b u (hb b n) q,fun b u q n _ _=>⟨u.slots,k b u (hb b n) q⟩,fun b u q n _=>by rw [Yg (hx b n)];exact n,fun b u q _=>?_,
  fun b xs q=>by rw [Yg (hm b _ q fun z=>z)];exact q,fun b u xs q=>by rw [Yg (hm b _ q fun z=>z)];exact q,fun b ps q=>⟨#[],by rw [Yg (hm b _ q fun z=>z),q];simp⟩⟩
 by_cases hbe:b=e
 ·subst hbe;exact heo
 ·exact ⟨u,k b u hbe q⟩
end
def trk (h:Heap) (H:Hp):List Addr:=(List.range h.objs.size).filter fun a=>(H a).isSome
def XE (h:Heap) (H:Hp):Heap:=PySem.W.hideAll h (trk h H)
theorem V3 (h:Heap) (H:Hp):(XE h H).objs.size=h.objs.size:=PySem.W.hideAll_size _ _
theorem UH {h:Heap} {H:Hp} {b:Addr} {o:Obj} (e:h.get? b=some o) (n:H b=none):(XE h H).get? b=some o :=
 PySem.W.hideAll_get _ e fun hm=>by
  have q:(H b).isSome=true:=(List.mem_filter.mp hm).2
  rw [n] at q;simp at q
theorem Qo {h:Heap} {H:Hp} {b:Addr} {o:Obj} (e:(XE h H).get? b=some o):h.get? b=some o∧H b=none:=by
 have e':h.get? b=some o:=PySem.W.of_hideAll (trk h H) e
 refine ⟨e',?_⟩
 cases q:H b with
 | none=>rfl
 | some x =>
  have hm:b∈trk h H:=List.mem_filter.mpr ⟨List.mem_range.mpr (Heap.lt_size e'),by simp [q]⟩
  have z:(XE h H).get? b=none:=PySem.W.hideAll_none (trk h H) hm
  rw [z] at e;cases e
def Qp (g h:Heap) (L:Addr):List (Addr×Obj):=(List.range h.objs.size).filterMap fun a=>if a=L∨(g.get? a).isSome=true then none else (h.get? a).map fun o=>(a,o)
def YA (g h:Heap) (L d:Addr):List (Addr×Obj):=(Qp g h L).filter fun p=>decide (p.1≠d)
end L2
namespace L2
open PySem PySem.Spec PyProof.Rows
structure Mod (K:PySem.W.Frag) (mg:Str→Option Value) (base:Heap):Prop where
 kin:K.In base
 glob:base.Ns mainGlobals mg
 blt:∃ mb,base.Ns builtinsNs mb∧∀ x:Str,x≠"__name__"→mb x=bootBuiltins x
 nolimit:base.NoLimit
structure Cx where
 prog:Program
 w:World
 K:PySem.W.Frag
 mg:Str→Option Value
 base:Heap
 A:Around
 N:List Str
 s₀:Shared
 H₀:Hp
 env:Env
 outer:List Env
 stack:List Env
 ex:List Addr
 fn:Str→Bool
 calm:Bool
 pn:List (Addr×Obj)
 xe:Value→Shared→Prop
def frs (l:List Env):List Addr:=l.filterMap (·.frame)
abbrev Cx.fs (X:Cx):List Addr:=frs X.outer
def Vis (sc:Scope) (x:Str):Prop:=sc.names.lookup x=some .local∨sc.names.lookup x=some .cell∨sc.names.lookup x=some .free
def Loc (sc:Scope) (x:Str):Prop:=sc.names.lookup x=some .local∨sc.names.lookup x=some .cell
def Look (env:Env) (h:Heap) (m:Str→Option Value) (x:Str) (u:Value):Prop :=
 (env.kindOf x=some .local∧m x=some u)∨((env.kindOf x=some .cell∨env.kindOf x=some .free)∧∃ c,env.cells.lookup x=some c∧h.IsCell c (some u))
structure Cx.Ok (X:Cx):Prop where
 mod:Mod X.K X.mg X.base
 kind:X.env.scope.kind = .function
 glob:X.env.globals=mainGlobals
 blt:X.env.builtins=builtinsNs
 above:X.s₀.heap.objs.size≤X.env.locals
 inj:∀ x y c,X.env.cells.lookup x=some c→X.env.cells.lookup y=some c→x=y
 has:∀ x,(X.env.kindOf x=some .cell∨X.env.kindOf x=some .free)→∃ c,X.env.cells.lookup x=some c
 cab:∀ x c,X.fn x=true→X.env.cells.lookup x=some c→X.s₀.heap.objs.size≤c
 hd:X.calm=true→X.A.handled=none
 frames:X.A.frames=some X.stack
 stk:X.stack=X.outer∨(X.stack=X.env::X.outer∧X.env.frame=some X.env.locals)
 exf:∀ b∈X.ex,b≠X.env.locals∧∀ x c,X.env.cells.lookup x=some c→c≠b
 bs:∀ b o,X.base.get? b=some o→X.s₀.heap.get? b=some o∧X.H₀ b=none
 bsz:X.base.objs.size≤X.s₀.heap.objs.size
 noex:∀ b o,X.base.get? b=some o→b∉X.ex
 exfs:∀ b∈X.ex,b∉X.fs
 funs:X.s₀.heap.FunFrames X.base X.outer
 frf:∀ b∈X.fs,X.H₀ b=none
structure Inv (X:Cx) (pins:List (Addr×Obj)) (σ:List (Option V)) (H:Hp) (s:Shared):Prop where
 ok:X.Ok
 os:s.os=X.s₀.os
 bare:AllBare s.gens
 base:Un X.fs X.ex X.H₀ H X.s₀.heap s.heap
 loc:∃ m,s.heap.Ns X.env.locals m∧∀ (i:Nat) (x:Str) (v:V),X.N[i]?=some x→σ[i]?=some (some v)→Vis X.env.scope x→∃ u,Ym v u∧Look X.env s.heap m x u
 cell:∀ x c,X.env.cells.lookup x=some c→∃ v,s.heap.IsCell c v
 free:H X.env.locals=none
 freeC:∀ x c,X.env.cells.lookup x=some c→H c=none
 pin:∀ p∈X.pn++pins,s.heap.get? p.1=some p.2∧H p.1=none∧p.1≠X.env.locals∧p.1∉X.fs∧∀ v,p.2.data ≠ .cell v
 hok:HOk X.prog X.w H s.heap
 len:σ.length=X.N.length
section
variable {X:Cx} {pins:List (Addr×Obj)} {σ:List (Option V)} {H H':Hp} {s:Shared} {h':Heap}
theorem Cx.Ok.nofr (ok:X.Ok) {b:Addr} {o:Obj} (e:X.base.get? b=some o):b∉X.fs:=fun hb=>by
 have:=(ok.funs.mem hb).1
 rw [e] at this;cases this
theorem Inv.bs (I:Inv X pins σ H s):∀ b o,X.base.get? b=some o→s.heap.get? b=some o∧H b=none:=fun b o e =>
 ⟨I.base.keep b o (I.ok.bs b o e).1 (I.ok.bs b o e).2 (I.ok.nofr e) (I.ok.noex b o e),I.base.free b o (I.ok.bs b o e).1 (I.ok.bs b o e).2 (I.ok.noex b o e)⟩
theorem Inv.bk (I:Inv X pins σ H s):∀ b o,X.base.get? b=some o→s.heap.get? b=some o:=fun b o e=>(I.bs b o e).1
theorem Inv.mod (I:Inv X pins σ H s):Mod X.K X.mg X.base:=I.ok.mod
theorem Inv.kIn (I:Inv X pins σ H s):X.K.In s.heap:=I.ok.mod.kin.keeps I.bk
theorem Inv.lt (I:Inv X pins σ H s):X.env.locals<s.heap.objs.size:=let ⟨_,hn,_⟩:=I.loc;hn.lt
theorem Inv.sz (I:Inv X pins σ H s):X.s₀.heap.objs.size≤s.heap.objs.size:=Nat.le_trans I.ok.above (Nat.le_of_lt I.lt)
theorem Inv.nofs (I:Inv X pins σ H s) {a:Addr} (h:s.heap.objs.size≤a):a∉X.fs:=fun hb=>by
 obtain ⟨_,o,ho,_⟩:=I.ok.funs.mem hb
 exact absurd (Nat.lt_of_lt_of_le (Heap.lt_size ho) (Nat.le_trans I.sz h)) (Nat.lt_irrefl _)
theorem Inv.cne (I:Inv X pins σ H s):∀ x c,X.env.cells.lookup x=some c→c≠X.env.locals:=fun x c e z=>by
 obtain ⟨v,o,ho,hd⟩:=I.cell x c e
 obtain ⟨m,⟨o',es,ep,ho',hd',_⟩,_⟩:=I.loc
 rw [z,ho'] at ho;cases ho;rw [hd'] at hd;cases hd
theorem Inv.funs (I:Inv X pins σ H s):s.heap.FunFrames X.base X.outer:=by
 have all:∀ (l:List Env),(∀ b∈frs l,b∈X.fs)→X.s₀.heap.FunFrames X.base l→s.heap.FunFrames X.base l:=by
  intro l
  induction l with
  | nil=>intro _ _;trivial
  | cons env r ih =>
   intro hs hl
   obtain ⟨hk,⟨L,o,hf,hn,ho,hd⟩,hr⟩:=hl
   have hL:L∈X.fs:=hs L (by unfold frs;rw [List.filterMap_cons,hf];exact List.mem_cons_self)
   obtain ⟨sl,e⟩:=I.base.slot L o ho (I.ok.frf L hL) hL fun z=>I.ok.exfs L z hL
   exact ⟨hk,⟨L,_,hf,hn,e,hd⟩,ih (fun b hb=>hs b (by unfold frs;rw [List.filterMap_cons,hf];exact List.mem_cons_of_mem _ hb)) hr⟩
 exact all X.outer (fun _ hb=>hb) I.ok.funs
theorem Inv.stack (I:Inv X pins σ H s):s.heap.FunFrames X.base X.stack:=by
 rcases I.ok.stk with e | ⟨e,hf⟩
 ·rw [e];exact I.funs
 ·rw [e]
  obtain ⟨m,hn,_⟩:=I.loc
  refine .cons (by rw [I.ok.kind];decide) hf hn ?_ I.funs
  exact Heap.get?_none_of_le (Nat.le_trans I.ok.bsz I.ok.above)
theorem Inv.stkSub (I:Inv X pins σ H s):∀ b∈frs X.stack,b∈X.env.locals::X.fs:=fun b hb=>by
 rcases I.ok.stk with e | ⟨e,hf⟩
 ·rw [e] at hb;exact List.mem_cons_of_mem _ hb
 ·rw [e] at hb
  unfold frs at hb
  rw [List.filterMap_cons,hf] at hb
  exact hb
theorem Inv.stkFree (I:Inv X pins σ H s):∀ b∈frs X.stack,H b=none:=fun b hb=>by
 rcases List.mem_cons.mp (I.stkSub b hb) with e | hb
 ·rw [e];exact I.free
 ·obtain ⟨_,o,ho,_⟩:=I.ok.funs.mem hb
  exact I.base.free b o ho (I.ok.frf b hb) fun z=>I.ok.exfs b z hb
theorem Inv.step {g':Array GenState} {t':Nat} {d':Drawn} {ch:List Addr} (I:Inv X pins σ H s)
  (hch:∀ b∈ch,(b∈X.ex∨X.s₀.heap.objs.size≤b)∧b≠X.env.locals∧(∀ x c,X.env.cells.lookup x=some c→c≠b)∧∀ p∈X.pn++pins,p.1≠b)
  (keep:∀ b o,b≠X.env.locals→b∉X.fs→b∉ch→s.heap.get? b=some o→H b=none→h'.get? b=some o)
  (slot:∀ b o,b≠X.env.locals→b∈X.fs→b∉ch→s.heap.get? b=some o→H b=none→∃ sl,h'.get? b=some { o with slots:=sl }) (free:∀ b o,b∉ch→s.heap.get? b=some o→H b=none→H' b=none)
  (there:∀ b o,b∉ch→s.heap.get? b=some o→∃ o',h'.get? b=some o')
  (tups:∀ b xs,H b=some (.tup xs)→H' b=some (.tup xs)) (frzs:∀ b o u,H b=some (.frz o u)→H' b=some (.frz o u)) (tbls:∀ b ps,H b=some (.tbl ps)→∃ more,H' b=some (.tbl (ps++more)))
  (ns:∀ m,s.heap.Ns X.env.locals m→h'.Ns X.env.locals m) (hok:HOk X.prog X.w H' h') (hg:AllBare g') :
  Inv X pins σ H' { s with heap:=h',gens:=g',drawn:=d',toks:=t' }:=by
 have neL:∀ b o,X.s₀.heap.get? b=some o→b≠X.env.locals:=fun b o e=>Nat.ne_of_lt (Nat.lt_of_lt_of_le (Heap.lt_size e) I.ok.above)
 have neC:∀ b o,X.s₀.heap.get? b=some o→b∉X.ex→b∉ch:=fun b o e hx hb=>by
  rcases (hch b hb).1 with z | z
  ·exact hx z
  ·exact absurd (Nat.lt_of_lt_of_le (Heap.lt_size e) z) (Nat.lt_irrefl _)
 have cellK:∀ x c,X.env.cells.lookup x=some c→∀ v,s.heap.IsCell c v→h'.IsCell c v:=fun x c e v ⟨o,ho,hd⟩=>by
  have nch:c∉ch:=fun z=>(hch c z).2.2.1 x c e rfl
  by_cases hc:c∈X.fs
  ·obtain ⟨sl,q⟩:=slot c o (I.cne x c e) hc nch ho (I.freeC x c e)
   exact ⟨_,q,hd⟩
  ·exact ⟨o,keep c o (I.cne x c e) hc nch ho (I.freeC x c e),hd⟩
 refine ⟨I.ok,I.os,hg,⟨fun b o e n hb hx=>?_,fun b o e n hb hx=>?_,fun b o e n hx=>?_,fun b o e hx=>?_,fun b xs e=>tups b xs (I.base.tups b xs e),fun b o xs e=>frzs b o xs (I.base.frzs b o xs e),fun b ps e=>?_⟩,?_,fun x c e=>?_,?_,fun x c e=>?_,fun p hp=>?_,hok,I.len⟩
 ·exact keep b o (neL b o e) hb (neC b o e hx) (I.base.keep b o e n hb hx) (I.base.free b o e n hx)
 ·obtain ⟨sl,e1⟩:=I.base.slot b o e n hb hx
  obtain ⟨sl',e2⟩:=slot b _ (neL b o e) hb (neC b o e hx) e1 (I.base.free b o e n hx)
  exact ⟨sl',e2⟩
 ·obtain ⟨o',e1⟩:=I.base.there b o e hx
  exact free b o' (neC b o e hx) e1 (I.base.free b o e n hx)
 ·obtain ⟨o',e1⟩:=I.base.there b o e hx
  exact there b o' (neC b o e hx) e1
 ·obtain ⟨m1,e1⟩:=I.base.tbls b ps e
  obtain ⟨m2,e2⟩:=tbls b _ e1
  exact ⟨m1++m2,by rw [e2,Array.append_assoc]⟩
 ·obtain ⟨m,hn,hl⟩:=I.loc
  refine ⟨m,ns m hn,fun i x v e1 e2 e3=>?_⟩
  obtain ⟨u,r,l⟩:=hl i x v e1 e2 e3
  refine ⟨u,r,?_⟩
  rcases l with l | ⟨k,c,e,z⟩
  ·exact .inl l
  ·exact .inr ⟨k,c,e,cellK x c e _ z⟩
 ·obtain ⟨v,z⟩:=I.cell x c e
  exact ⟨v,cellK x c e v z⟩
 ·obtain ⟨m,⟨o,_,_,ho,_⟩,_⟩:=I.loc
  exact free _ o (fun z=>(hch _ z).2.1 rfl) ho I.free
 ·obtain ⟨v,o,ho,hd⟩:=I.cell x c e
  exact free c o (fun z=>(hch c z).2.2.1 x c e rfl) ho (I.freeC x c e)
 ·obtain ⟨e,n,ne,nf,d⟩:=I.pin p hp
  have nch:p.1∉ch:=fun z=>(hch p.1 z).2.2.2 p hp rfl
  exact ⟨keep p.1 p.2 ne nf nch e n,free p.1 p.2 nch e n,ne,nf,d⟩
theorem Inv.un {t':Nat} (I:Inv X pins σ H s) (u:Un X.fs [] H H' s.heap h') (hok:HOk X.prog X.w H' h'):Inv X pins σ H' { s with heap:=h',toks:=t' }:=by
 obtain ⟨m,⟨o,es,ep,ho,r⟩,_⟩:=id I.loc
 obtain ⟨sl,hL⟩:=u.any ho I.free (by simp)
 exact I.step (g':=s.gens) (d':=s.drawn) (ch:=[]) (fun _ z=>nomatch z) (fun b o _ hb _ e n=>u.keep b o e n hb (by simp)) (fun b o _ hb _ e n=>u.slot b o e n hb (by simp)) (fun b o _ e n=>u.free b o e n (by simp)) (fun b o _ e=>u.there b o e (by simp)) u.tups u.frzs u.tbls (fun m' hm=>by
  obtain ⟨o',es',ep',ho',r'⟩:=hm
  rw [ho] at ho';cases ho'
  exact ⟨_,es',ep',hL,r'⟩) hok I.bare
theorem Inv.call {g':Array GenState} {t':Nat} {d':Drawn} {ch:List Addr} (I:Inv X pins σ H s) (u:Un (frs X.stack) ch H H' s.heap h') (hok:HOk X.prog X.w H' h') (hg:AllBare g')
  (hch:∀ b∈ch,(b∈X.ex∨X.s₀.heap.objs.size≤b)∧b≠X.env.locals∧(∀ x c,X.env.cells.lookup x=some c→c≠b)∧∀ p∈X.pn++pins,p.1≠b) :
  Inv X pins σ H' { s with heap:=h',gens:=g',drawn:=d',toks:=t' }:=by
 obtain ⟨m,⟨o,es,ep,ho,r⟩,_⟩:=id I.loc
 obtain ⟨sl,hL⟩:=u.any ho I.free fun z=>(hch _ z).2.1 rfl
 exact I.step (ch:=ch) hch (fun b o hL hb hc e n=>u.keep b o e n (fun z=>(List.mem_cons.mp (I.stkSub b z)).elim hL hb) hc) (fun b o _ _ hc e n=>u.any e n hc) (fun b o hc e n=>u.free b o e n hc) (fun b o hc e=>u.there b o e hc) u.tups u.frzs u.tbls (fun m' hm=>by
  obtain ⟨o',es',ep',ho',r'⟩:=hm
  rw [ho] at ho';cases ho'
  exact ⟨_,es',ep',hL,r'⟩) hok hg
theorem Inv.turned {t':Nat} {it:Addr} (I:Inv X pins σ H s) (k:∀ b o,b≠it→s.heap.get? b=some o→h'.get? b=some o) (hn:H it=none) (hL:it≠X.env.locals)
  (h1:it∈X.ex∨X.s₀.heap.objs.size≤it) (h2:∀ x c,X.env.cells.lookup x=some c→c≠it) (h3:∀ p∈X.pn++pins,p.1≠it):Inv X pins σ H { s with heap:=h',toks:=t' }:=by
 have nit:∀ b u,H b=some u→b≠it:=fun b u e z=>by rw [z,hn] at e;cases e
 refine I.step (g':=s.gens) (d':=s.drawn) (ch:=[it]) (fun b hb=>?_) (fun b o _ _ hc e _=>k b o (fun z=>hc (by simp [z])) e) (fun b o _ _ hc e _=>⟨o.slots,k b o (fun z=>hc (by simp [z])) e⟩) (fun _ _ _ _ n=>n)
  (fun b o hc e=>⟨o,k b o (fun z=>hc (by simp [z])) e⟩) (fun _ _ e=>e) (fun _ _ _ e=>e) (fun b ps e=>⟨#[],by rw [e];simp⟩) (fun m hm=>?_) (fun b u e=>?_) I.bare
 ·have e:b=it:=by simpa using hb
  subst e
  exact ⟨h1,hL,h2,h3⟩
 ·obtain ⟨o,es,ep,ho,r⟩:=hm
  exact ⟨o,es,ep,k _ o (Ne.symm hL) ho,r⟩
 ·refine (I.hok b u e).stay (fun c v hc q=>k c v ?_ q) (fun _ q=>q) fun _ _ q=>q
  rcases hc with z | z
  ·rw [z];exact nit b u e
  ·exact nit c _ z
theorem Inv.tok (I:Inv X pins σ H s) (t:Nat):Inv X pins σ H { s with toks:=t }:=I.un (h':=s.heap) (t':=t) Un.refl I.hok
theorem Inv.kept {t':Nat} (I:Inv X pins σ H s) (k:∀ b u,s.heap.get? b=some u→h'.get? b=some u):Inv X pins σ H { s with heap:=h',toks:=t' }:=I.un (Un.kept k) (I.hok.kept k)
theorem Inv.laid {a:Addr} {o:HO} {t':Nat} (I:Inv X pins σ H s) (k:∀ b u,s.heap.get? b=some u→h'.get? b=some u) (hp:s.heap.objs.size≤a) (new:Ys X.prog X.w (upd H a o) h' a o) :
  Inv X pins σ (upd H a o) { s with heap:=h',toks:=t' }:=I.un (Un.laid k hp (I.hok.fresh hp)) (I.hok.laid k hp new)
theorem Inv.write {x e:Addr} {o:HO} {t':Nat} (I:Inv X pins σ H s) (mu:Mut (H x)) (he:e=x∨H e=some (.own x)) (k:∀ b u,b≠e→s.heap.get? b=some u→h'.get? b=some u) (heo:∃ u,h'.get? e=some u)
  (new:Ys X.prog X.w (upd H x o) h' x o):Inv X pins σ (upd H x o) { s with heap:=h',toks:=t' }:=I.un (Un.write mu he k heo) (I.hok.write mu he k heo new)
theorem Inv.pins_of {pins':List (Addr×Obj)} (I:Inv X pins σ H s) (h:∀ p∈pins',s.heap.get? p.1=some p.2∧H p.1=none∧p.1≠X.env.locals∧p.1∉X.fs∧∀ v,p.2.data ≠ .cell v):Inv X pins' σ H s :=
 ⟨I.ok,I.os,I.bare,I.base,I.loc,I.cell,I.free,I.freeC,fun p hp=>(List.mem_append.mp hp).elim (fun z=>I.pin p (List.mem_append_left _ z)) (h p),I.hok,I.len⟩
theorem X3 {N:List Str} (hN:N.Nodup) {i j:Nat} {x:Str} (a:N[i]?=some x) (b:N[j]?=some x):i=j:=by
 obtain ⟨h1,e1⟩:=List.getElem?_eq_some_iff.mp a
 obtain ⟨h2,e2⟩:=List.getElem?_eq_some_iff.mp b
 exact (List.getElem_inj hN).mp (e1.trans e2.symm)
theorem V4 {M:Model} {A:Around} {E:Value→Shared→Prop} {i:Nat} {x:Str} {v:V} {u:Value} {Q:Unit→Shared→Prop} (I:Inv X pins σ H s) (hN:X.N.Nodup) (hi:X.N[i]?=some x) (hx:Loc X.env.scope x) (r:Ym v u)
  (h:∀ s',Inv X pins (σ.set i (some v)) H s'→(∃ a,Heap.SameBut a s.heap s'.heap∧(a=X.env.locals∨X.env.cells.lookup x=some a))→Q () s') (hf:X.fn x=true∨X.env.scope.names.lookup x=some .local:=by first | exact .inl rfl | exact .inr rfl | assumption):wpAny M A (storeName X.env x u) Q E s:=by
 obtain ⟨m,hn,hl⟩:=id I.loc
 have hcls:(X.env.scope.kind == .class||(X.env.scope.kind == .module&&X.env.locals != X.env.globals))=false:=by rw [I.ok.kind];rfl
 have hiσ:i<σ.length:=by rw [I.len];exact (List.getElem?_eq_some_iff.mp hi).1
 have cne:=I.cne
 have tracked:∀ {a:Addr} {h':Heap},(∃ o,s.heap.get? a=some o∧H a=none)→Heap.SameBut a s.heap h'→HOk X.prog X.w H h':=fun {a h'} ha hs b ob e=>by
  obtain ⟨_,_,hfree⟩:=ha
  refine (I.hok b ob e).stay (fun c w' hc q=>(hs.2 c ?_).trans q) (fun _ q=>q) fun _ _ q=>q
  rintro rfl
  rcases hc with rfl | hc
  ·rw [hfree] at e;cases e
  ·rw [hfree] at hc;cases hc
 rcases hx with hk | hk
 ·refine wpAny_storeName_local hk hn (fun h' hn' hs=>?_) hcls
  obtain ⟨oL,_,_,hoL,_⟩:=id hn
  refine h _ ⟨I.ok,I.os,I.bare,⟨fun b o e n hb hx=>?_,fun b o e n hb hx=>?_,I.base.free,fun b o e hx=>?_,I.base.tups,I.base.frzs,I.base.tbls⟩,⟨_,hn',fun j y v' e1 e2 e3=>?_⟩,fun y c e=>?_,I.free,I.freeC,fun p hp=>?_,tracked ⟨oL,hoL,I.free⟩ hs,by simpa using I.len⟩ ⟨_,hs,.inl rfl⟩
  ·exact (hs.2 b (Nat.ne_of_lt (Nat.lt_of_lt_of_le (Heap.lt_size e) I.ok.above))).trans (I.base.keep b o e n hb hx)
  ·obtain ⟨sl,e1⟩:=I.base.slot b o e n hb hx
   exact ⟨sl,(hs.2 b (Nat.ne_of_lt (Nat.lt_of_lt_of_le (Heap.lt_size e) I.ok.above))).trans e1⟩
  ·obtain ⟨o',e1⟩:=I.base.there b o e hx
   exact ⟨o',(hs.2 b (Nat.ne_of_lt (Nat.lt_of_lt_of_le (Heap.lt_size e) I.ok.above))).trans e1⟩
  ·by_cases hj:j=i
   ·subst hj
    rw [hi] at e1;cases e1
    rw [List.getElem?_set_self hiσ] at e2
    cases e2
    exact ⟨u,r,.inl ⟨hk,by simp⟩⟩
   ·rw [List.getElem?_set_ne (Ne.symm hj)] at e2
    obtain ⟨u',r',q⟩:=hl j y v' e1 e2 e3
    refine ⟨u',r',?_⟩
    rcases q with ⟨k,e⟩ | ⟨k,c,e,z⟩
    ·refine .inl ⟨k,?_⟩
     have:y≠x:=fun e=>hj (X3 hN e1 (e▸hi))
     simp [this,e]
    ·exact .inr ⟨k,c,e,z.sameBut hs (cne y c e)⟩
  ·obtain ⟨w',z⟩:=I.cell y c e
   exact ⟨w',z.sameBut hs (cne y c e)⟩
  ·obtain ⟨e,n,ne,nf,d⟩:=I.pin p hp
   exact ⟨(hs.2 p.1 ne).trans e,n,ne,nf,d⟩
 ·have hfn:X.fn x=true:=by
   rcases hf with z | z
   ·exact z
   ·rw [z] at hk;cases hk
  obtain ⟨c,hc⟩:=I.ok.has x (.inl hk)
  obtain ⟨w',z⟩:=I.cell x c hc
  refine wpAny_storeName_cell I.ok.kind hk hc z (fun h' hc' hs=>?_)
  obtain ⟨oc,hoc,hocd⟩:=id z
  refine h { s with heap:=h' } ⟨I.ok,I.os,I.bare,⟨fun b o e n hb hx=>?_,fun b o e n hb hx=>?_,I.base.free,fun b o e hx=>?_,I.base.tups,I.base.frzs,I.base.tbls⟩,⟨m,hn.sameBut hs (Ne.symm (cne x c hc)),fun j y v' e1 e2 e3=>?_⟩,fun y c' e=>?_,I.free,I.freeC,fun p hp=>?_,tracked ⟨oc,hoc,I.freeC x c hc⟩ hs,by simpa using I.len⟩ ⟨c,hs,.inr hc⟩
  ·exact (hs.2 b (Nat.ne_of_lt (Nat.lt_of_lt_of_le (Heap.lt_size e) (I.ok.cab x c hfn hc)))).trans (I.base.keep b o e n hb hx)
  ·obtain ⟨sl,e1⟩:=I.base.slot b o e n hb hx
   exact ⟨sl,(hs.2 b (Nat.ne_of_lt (Nat.lt_of_lt_of_le (Heap.lt_size e) (I.ok.cab x c hfn hc)))).trans e1⟩
  ·obtain ⟨o',e1⟩:=I.base.there b o e hx
   exact ⟨o',(hs.2 b (Nat.ne_of_lt (Nat.lt_of_lt_of_le (Heap.lt_size e) (I.ok.cab x c hfn hc)))).trans e1⟩
  ·by_cases hj:j=i
   ·subst hj
    rw [hi] at e1;cases e1
    rw [List.getElem?_set_self hiσ] at e2
    cases e2
    exact ⟨u,r,.inr ⟨.inl hk,c,hc,hc'⟩⟩
   ·rw [List.getElem?_set_ne (Ne.symm hj)] at e2
    obtain ⟨u',r',q⟩:=hl j y v' e1 e2 e3
    refine ⟨u',r',?_⟩
    rcases q with q | ⟨k,c',e,z'⟩
    ·exact .inl q
    ·refine .inr ⟨k,c',e,z'.sameBut hs ?_⟩
     rintro rfl
     exact hj (X3 hN e1 (I.ok.inj _ _ _ e hc▸hi))
  ·by_cases hcc:c'=c
   ·subst hcc;exact ⟨_,hc'⟩
   ·obtain ⟨w2,z2⟩:=I.cell y c' e
    exact ⟨w2,z2.sameBut hs hcc⟩
  ·obtain ⟨e,n,ne,nf,d⟩:=I.pin p hp
   refine ⟨(hs.2 p.1 ?_).trans e,n,ne,nf,d⟩
   intro q
   rw [q,hoc] at e
   have q':oc=p.2:=Option.some.inj e
   exact d w' (by rw [← q'];exact hocd)
theorem XF {M:Model} {A:Around} {E:Value→Shared→Prop} {i:Nat} {x:Str} {v:V} {u:Value} {Q:Unit→Shared→Prop} (I:Inv X pins σ H s) (hN:X.N.Nodup) (hi:X.N[i]?=some x) (hx:Loc X.env.scope x) (r:Ym v u)
  (h:∀ s',Inv X pins (σ.set i (some v)) H s'→Q () s') (hf:X.fn x=true∨X.env.scope.names.lookup x=some .local:=by first | exact .inl rfl | exact .inr rfl | assumption):wpAny M A (storeName X.env x u) Q E s :=
 V4 I hN hi hx r (fun s' I' _=>h s' I') hf
theorem Inv.call' {s':Shared} {ch:List Addr} (I:Inv X pins σ H s) (ho:s'.os=s.os) (u:Un (frs X.stack) ch H H' s.heap s'.heap) (hok:HOk X.prog X.w H' s'.heap) (hg:AllBare s'.gens)
  (hch:∀ b∈ch,(b∈X.ex∨X.s₀.heap.objs.size≤b)∧b≠X.env.locals∧(∀ x c,X.env.cells.lookup x=some c→c≠b)∧∀ p∈X.pn++pins,p.1≠b):Inv X pins σ H' s':=by
 obtain ⟨h',g',d',t',o'⟩:=s'
 have e:o'=s.os:=ho
 subst e
 exact I.call (g':=g') (t':=t') (d':=d') u hok hg hch
end
abbrev XK:=Value→Option Addr→Hp→Prop
abbrev St:=List (Option V)
abbrev VK:=V→Hp→Prop
abbrev TE:=St→Hp→VK→Prop
abbrev TT:=St→Hp→(Bool→Hp→Prop)→Prop
abbrev TA:=St→Hp→(List V→Hp→Prop)→Prop
structure Ends where
 nx:St→Hp→Prop
 rt:VK
 bk:St→Hp→Prop:=fun _ _=>False
 ct:St→Hp→Prop:=fun _ _=>False
abbrev TS:=Ends→St→Hp→Prop
def EP (X:Cx) (pins:List (Addr×Obj)) (σ:St) (Q:VK) (u:Value) (s':Shared):Prop:=∃ v H',Inv X pins σ H' s'∧Ym v u∧Q v H'
def TP (X:Cx) (pins:List (Addr×Obj)) (σ:St) (Q:Bool→Hp→Prop) (b:Bool) (s':Shared):Prop:=∃ H',Inv X pins σ H' s'∧Q b H'
def AP (X:Cx) (pins:List (Addr×Obj)) (σ:St) (Q:List V→Hp→Prop) (us:List Value) (s':Shared):Prop:=∃ vs H',Inv X pins σ H' s'∧Yj vs us∧Q vs H'
def SP (X:Cx) (pins:List (Addr×Obj)) (D:Ends) (f:Flow) (s':Shared):Prop :=
 match f with
 | .next=>∃ σ' H',Inv X pins σ' H' s'∧D.nx σ' H'
 | .brk=>∃ σ' H',Inv X pins σ' H' s'∧D.bk σ' H'
 | .cont=>∃ σ' H',Inv X pins σ' H' s'∧D.ct σ' H'
 | .ret u=>∃ v σ' H',Inv X pins σ' H' s'∧Ym v u∧D.rt v H'
def PE (X:Cx) (e:Expr) (t:TE):Prop :=
 ∀ (pins:List (Addr×Obj)) (s:Shared) (σ:St) (H:Hp) (Q:VK),Inv X pins σ H s→t σ H Q→wpAny (model X.prog X.w) X.A (eval e X.env) (EP X pins σ Q) X.xe s
def PT (X:Cx) (e:Expr) (t:TT):Prop :=
 ∀ (pins:List (Addr×Obj)) (s:Shared) (σ:St) (H:Hp) (Q:Bool→Hp→Prop),Inv X pins σ H s→t σ H Q→wpAny (model X.prog X.w) X.A (isTrue e X.env (eval e X.env)) (TP X pins σ Q) X.xe s
def PW (X:Cx) (e:Expr) (t:TT):Prop :=
 ∀ (whole:Sem Value) (pins:List (Addr×Obj)) (s:Shared) (σ:St) (H:Hp) (Q:Bool→Hp→Prop),Inv X pins σ H s→t σ H Q→wpAny (model X.prog X.w) X.A (isTrue e X.env whole) (TP X pins σ Q) X.xe s
theorem PW.pt {X:Cx} {e:Expr} {t:TT} (h:PW X e t):PT X e t:=h _
def PA (X:Cx) (es:List Expr) (t:TA):Prop :=
 ∀ (pos:Pos) (pins:List (Addr×Obj)) (s:Shared) (σ:St) (H:Hp) (Q:List V→Hp→Prop),Inv X pins σ H s→t σ H Q→wpAny (model X.prog X.w) X.A (spliced (backTo pos (starEach es X.env))) (AP X pins σ Q) X.xe s
def PS (X:Cx) (st:Stmt) (t:TS):Prop :=
 ∀ (pins:List (Addr×Obj)) (s:Shared) (σ:St) (H:Hp) (D:Ends),Inv X pins σ H s→t D σ H→wpAny (model X.prog X.w) X.A (exec st X.env) (SP X pins D) X.xe s
def PSs (X:Cx) (st:List Stmt) (t:TS):Prop :=
 ∀ (pins:List (Addr×Obj)) (s:Shared) (σ:St) (H:Hp) (D:Ends),Inv X pins σ H s→t D σ H→wpAny (model X.prog X.w) X.A (execs st X.env) (SP X pins D) X.xe s
theorem thn {α:Type} {t:Sem α} {Q Q':α→Shared→Prop} {M:Model} {A:Around} {E:Value→Shared→Prop} {s:Shared} (h:wpAny M A t Q E s) (hQ:∀ a s,Q a s→Q' a s):wpAny M A t Q' E s:=wpAny_mono h hQ fun _ _ x=>x
end L2
namespace L2
open PySem PySem.Spec PyProof.Rows
section
variable {X:Cx}
def Wo (i:Nat):TE:=fun σ H Q=>∃ v,σ[i]?=some (some v)∧Q v H
def tC (v:V):TE:=fun _ H Q=>Q v H
theorem V5 {i:Nat} {x:Str} {pos:Pos} (hN:X.N[i]?=some x) (hv:Vis X.env.scope x) (hd:(x==("__debug__":Str))=false:=by decide) (hcd:(x==("__classdict__":Str))=false:=by decide):PE X (.Name x pos) (Wo i):=by
 intro pins s σ H Q I h
 obtain ⟨v,e,h⟩:=h
 obtain ⟨m,hn,hl⟩:=I.loc
 obtain ⟨u,r,l⟩:=hl i x v hN e hv
 have fin:EP X pins σ Q u s:=⟨v,H,I,r,h⟩
 rcases l with ⟨hk,hm⟩ | ⟨hk,c,hc,hcell⟩
 ·exact wpAny_Name (wpAny_loadName_local I.ok.kind hk hn hm fin) hd
 ·rcases hk with hk | hk
  ·exact wpAny_Name (wpAny_loadName_cell I.ok.kind hk hc hcell fin) hd
  ·exact wpAny_Name (wpAny_loadName_free I.ok.kind hk hc hcell fin hcd) hd
theorem Yh {i j pos}:PE X (.Constant (.int i) j pos) (tC (.int i)):=fun _ _ _ H _ I h=>wpAny_Constant_int ⟨.int i,H,I.tok _,⟨_,rfl⟩,h⟩
theorem Xn {b j pos}:PE X (.Constant (.bool b) j pos) (tC (.bl b)):=fun _ _ _ H _ I h=>Constant_bool ⟨.bl b,H,I,rfl,h⟩
theorem Xv {j pos}:PE X (.Constant .none j pos) (tC .non):=fun _ _ _ H _ I h=>Constant_none ⟨.non,H,I,rfl,h⟩
theorem Yn {x j pos}:PE X (.Constant (.str x) j pos) (tC (.str x)):=fun _ _ _ H _ I h=>Calls.Constant_str ⟨.str x,H,I.tok _,⟨_,rfl⟩,h⟩
def Gl (X:Cx) (x:Str):Prop:=X.env.kindOf x=some .globalImplicit
theorem Xw {E:Value→Shared→Prop} {pins:List (Addr×Obj)} {s:Shared} {σ:St} {H:Hp} {x:Str} {u:Value} {pos:Pos} {Q:Value→Shared→Prop} (I:Inv X pins σ H s) (hg:Gl X x) (hm:X.mg x=some u) (h:Q u s)
  (hd:(x==("__debug__":Str))=false:=by decide):wpAny (model X.prog X.w) X.A (eval (.Name x pos) X.env) Q E s :=
 Calls.Name_function_global I.ok.kind hg (Calls.loadGlobal_global (by rw [I.ok.glob];exact I.mod.glob.keeps I.bk) hm h) hd
theorem XL {E:Value→Shared→Prop} {pins:List (Addr×Obj)} {s:Shared} {σ:St} {H:Hp} {x:Str} {u:Value} {pos:Pos} {Q:Value→Shared→Prop} (I:Inv X pins σ H s) (hg:Gl X x) (hm:X.mg x=none) (hv:bootBuiltins x=some u) (h:Q u s)
  (hn:x≠"__name__":=by decide) (hd:(x==("__debug__":Str))=false:=by decide):wpAny (model X.prog X.w) X.A (eval (.Name x pos) X.env) Q E s:=by
 obtain ⟨mb,h1,h2⟩:=I.mod.blt
 exact Calls.Name_function_global I.ok.kind hg (Calls.loadGlobal_builtin (by rw [I.ok.glob];exact I.mod.glob.keeps I.bk) hm (by rw [I.ok.blt];exact h1.keeps I.bk) ((h2 x hn).trans hv) h) hd
theorem Vm {x:Str} {v:V} {u:Value} {pos:Pos} (hg:Gl X x) (hm:X.mg x=some u) (r:Ym v u) (hd:(x==("__debug__":Str))=false:=by decide):PE X (.Name x pos) (tC v) :=
 fun _ _ _ H _ I h=>Xw I hg hm ⟨v,H,I,r,h⟩ hd
theorem Qq {x:Str} {v:V} {u:Value} {pos:Pos} (hg:Gl X x) (hm:X.mg x=none) (hv:bootBuiltins x=some u) (r:Ym v u) (hn:x≠"__name__":=by decide) (hd:(x==("__debug__":Str))=false:=by decide):PE X (.Name x pos) (tC v) :=
 fun _ _ _ H _ I h=>XL I hg hm hv ⟨v,H,I,r,h⟩ hn hd
variable {a b:Expr} {ta tb:TE} {pos:Pos}
def tB (t:TE):TT:=fun σ H Q=>t σ H fun x H1=>∃ c,x = .bl c∧Q c H1
theorem Xf {e:Expr} {t:TE} (h:PE X e t) (he:∀ whole,isTrue e X.env whole=(do let v ← whole;standAt e.pos;holding [v] (truthy v))):PT X e (tB t):=by
 intro pins s σ H Q I hw
 refine isTrue_plain (thn (h pins s σ H _ I hw) fun v s1 ⟨x,H1,I1,r1,q1⟩=>?_) (he _)
 obtain ⟨d,rfl,q⟩:=q1
 cases r1
 exact wpAny_truthy_bool ⟨H1,I1,q⟩
variable {tA tB':TT} {YA:List Expr}
def tAnd (t u:TT):TT:=fun σ H Q=>t σ H fun c H1=>if c=true then u σ H1 Q else Q false H1
def tOr (t u:TT):TT:=fun σ H Q=>t σ H fun c H1=>if c=true then Q true H1 else u σ H1 Q
def tNot (t:TT):TT:=fun σ H Q=>t σ H fun c H1=>Q (!c) H1
theorem QT (ha:PT X a tA):PW X (.BoolOp .Or [a] pos) tA:=by
 intro wh pins s σ H Q I h
 refine isTrue_or (thn (ha pins s σ H Q I h) fun c s1 e=>?_)
 cases c with
 | false=>exact isTrue_or_nil e
 | true=>exact e
theorem U8 (ha:PT X a tA) (hb:PW X (.BoolOp .Or (b::YA) pos) tB'):PW X (.BoolOp .Or (a::b::YA) pos) (tOr tA tB'):=by
 intro wh pins s σ H Q I h
 refine isTrue_or (thn (ha pins s σ H _ I h) fun c s1 ⟨H1,I1,q1⟩=>?_)
 cases c with
 | true=>exact ⟨H1,I1,q1⟩
 | false=>exact hb wh pins s1 σ H1 Q I1 q1
theorem Wb (ha:PT X a tA):PT X (.UnaryOp .Not a pos) (tNot tA):=by
 intro pins s σ H Q I h
 exact isTrue_not (ha pins s σ H (fun c H1=>Q (!c) H1) I h)
def U9 (ta tb:TE):TE:=fun σ H Q=>ta σ H fun x H1=>∃ c,x = .bl c∧if c=true then tb σ H1 Q else Q (.bl false) H1
def tOrV (ta tb:TE):TE:=fun σ H Q=>ta σ H fun x H1=>∃ c,x = .bl c∧if c=true then Q (.bl true) H1 else tb σ H1 Q
def Qa (ta:TE):TE:=fun σ H Q=>ta σ H fun x H1=>∃ c,x = .bl c∧Q (.bl (!c)) H1
theorem QU {op} {t:TE} (h:PE X a t):PE X (.BoolOp op [a] pos) t:=fun pins s σ H Q I hw=>BoolOp_one (h pins s σ H Q I hw)
theorem QV (ha:PE X a ta) (hb:PE X (.BoolOp .And (b::YA) pos) tb):PE X (.BoolOp .And (a::b::YA) pos) (U9 ta tb):=by
 intro pins s σ H Q I h
 refine BoolOp_and (thn (ha pins s σ H _ I h) fun v s1 ⟨x,H1,I1,r1,q1⟩=>?_)
 obtain ⟨c,rfl,q1⟩:=q1
 cases r1
 refine wpAny_truthy_bool ?_
 cases c with
 | true=>exact hb pins s1 σ H1 Q I1 q1
 | false=>exact ⟨.bl false,H1,I1,rfl,q1⟩
theorem QW (ha:PE X a ta):PE X (.UnaryOp .Not a pos) (Qa ta):=by
 intro pins s σ H Q I h
 refine UnaryOp_ (thn (ha pins s σ H _ I h) fun v s1 ⟨x,H1,I1,r1,q1⟩=>?_)
 obtain ⟨c,rfl,q1⟩:=q1
 cases r1
 exact not_of (wpAny_truthy_bool ⟨.bl (!c),H1,I1,rfl,q1⟩)
def tIf (t:TT) (ta tb:TE):TE:=fun σ H Q=>t σ H fun c H1=>if c=true then ta σ H1 Q else tb σ H1 Q
end
end L2
namespace L2
open PySem PySem.Spec PyProof.Rows
def SqL (K:PySem.W.Frag) (H:Hp) (a:Addr) (xs:List V):Prop :=
 Rd H a (.lst xs) ∨
  ∃ (o:Obj) (its:Array Value) (n:Nat),K.lookup a=some o∧o.cls = .type "list"∧o.dict=none∧o.data = .seq its n∧its.size≤sizeLine∧Yj xs its.toList
def SqT (K:PySem.W.Frag) (H:Hp) (a:Addr) (xs:List V):Prop :=
 Rd H a (.tup xs) ∨
  ∃ (o:Obj) (its:Array Value) (n:Nat),K.lookup a=some o∧o.cls = .type "tuple"∧o.data = .seq its n∧its.size≤sizeLine∧Yj xs its.toList
def absV:Value→Option V
 | .none=>some .non
 | .bool b=>some (.bl b)
 | .int i _=>some (.int i)
 | .str x _=>some (.str x)
 | .bytes b _=>some (.byt b)
 | .float b _=>some (.flt b)
 | .ref a=>some (.ref a)
 | .type n=>some (.ty n)
 | _=>none
theorem Ym.abs {x:V} {u:Value} (r:Ym x u):absV u=some x:=by
 cases x with
 | non=>cases r;rfl
 | bl _=>cases r;rfl
 | int _=>obtain ⟨t,rfl⟩:=r;rfl
 | str _=>obtain ⟨t,rfl⟩:=r;rfl
 | byt _=>obtain ⟨t,rfl⟩:=r;rfl
 | flt _=>obtain ⟨t,rfl⟩:=r;rfl
 | ref _=>cases r;rfl
 | ty _=>cases r;rfl
theorem Ym.inj {x y:V} {u:Value} (r:Ym x u) (q:Ym y u):x=y:=Option.some.inj (r.abs.symm.trans q.abs)
theorem Yj.inj:∀ {xs ys:List V} {us:List Value},Yj xs us→Yj ys us→xs=ys
 | _,_,_,.nil,.nil=>rfl
 | _,_,_,.cons r t,.cons r' t'=>by rw [r.inj r',Yj.inj t t']
section
variable {X:Cx} {pins:List (Addr×Obj)} {σ:St} {H:Hp} {s:Shared} {a:Addr} {xs ys:List V}
theorem SqL.of {K:PySem.W.Frag} (h:H a=some (.lst xs)):SqL K H a xs := .inl (.inl h)
theorem SqT.of {K:PySem.W.Frag} (h:H a=some (.tup xs)):SqT K H a xs := .inl (.inl h)
theorem Inv.list (I:Inv X pins σ H s) (h:SqL X.K H a xs):∃ its:List Value,Yj xs its∧PlainL s.heap a its.toArray∧xs.length≤sizeLine:=by
 rcases h with h | ⟨o,its,n,hk,hc,hd,hs,hz,r⟩
 ·obtain ⟨z,its,n,r,e⟩:=h.ok I.hok
  exact ⟨its,r,⟨_,n,e,rfl,rfl,rfl⟩,z⟩
 ·refine ⟨its.toList,r,⟨o,n,I.kIn a o hk,hc,hd,by simpa using hs⟩,?_⟩
  have e:=r.length
  simp only [Array.length_toList] at e
  omega
theorem Inv.tuple (I:Inv X pins σ H s) (h:SqT X.K H a xs):∃ its:List Value,Yj xs its∧IsTup s.heap a its.toArray∧xs.length≤sizeLine:=by
 rcases h with h | ⟨o,its,n,hk,hc,hs,hz,r⟩
 ·obtain ⟨z,its,r,p⟩:=h.ok I.hok
  exact ⟨its,r,p,z⟩
 ·refine ⟨its.toList,r,⟨o,I.kIn a o hk,hc,n,by simpa using hs⟩,?_⟩
  have e:=r.length
  simp only [Array.length_toList] at e
  omega
theorem Inv.list_inj (I:Inv X pins σ H s) (h:SqL X.K H a xs) (h':SqL X.K H a ys):xs=ys:=by
 obtain ⟨its,r,⟨o,n,e,_,_,d⟩,_⟩:=I.list h
 obtain ⟨its',r',⟨o',n',e',_,_,d'⟩,_⟩:=I.list h'
 rw [e] at e';cases e'
 rw [d] at d'
 injection d' with d1 _
 have:its=its':=by simpa using congrArg Array.toList d1
 subst this
 exact r.inj r'
theorem Inv.tuple_inj (I:Inv X pins σ H s) (h:SqT X.K H a xs) (h':SqT X.K H a ys):xs=ys:=by
 obtain ⟨its,r,⟨o,e,_,n,d⟩,_⟩:=I.tuple h
 obtain ⟨its',r',⟨o',e',_,n',d'⟩,_⟩:=I.tuple h'
 rw [e] at e';cases e'
 rw [d] at d'
 injection d' with d1 _
 have:its=its':=by simpa using congrArg Array.toList d1
 subst this
 exact r.inj r'
end
abbrev Cx.wish (X:Cx) (E:Value→Shared→Prop):Cx:={ X with xe:=E }
abbrev Cx.nox (X:Cx):Cx:=X.wish fun _ _=>False
theorem Cx.Ok.wish {X:Cx} (ok:X.Ok) (E:Value→Shared→Prop):(X.wish E).Ok :=
 ⟨ok.mod,ok.kind,ok.glob,ok.blt,ok.above,ok.inj,ok.has,ok.cab,ok.hd,ok.frames,ok.stk,ok.exf,ok.bs,ok.bsz,ok.noex,ok.exfs,ok.funs,ok.frf⟩
theorem Cx.Ok.unwish {X:Cx} {E:Value→Shared→Prop} (ok:(X.wish E).Ok):X.Ok :=
 ⟨ok.mod,ok.kind,ok.glob,ok.blt,ok.above,ok.inj,ok.has,ok.cab,ok.hd,ok.frames,ok.stk,ok.exf,ok.bs,ok.bsz,ok.noex,ok.exfs,ok.funs,ok.frf⟩
section
variable {X:Cx} {pins:List (Addr×Obj)} {σ:St} {H:Hp} {s:Shared} {E:Value→Shared→Prop}
theorem Inv.wish (I:Inv X pins σ H s) (E:Value→Shared→Prop):Inv (X.wish E) pins σ H s:=⟨I.ok.wish E,I.os,I.bare,I.base,I.loc,I.cell,I.free,I.freeC,I.pin,I.hok,I.len⟩
theorem Inv.unwish (I:Inv (X.wish E) pins σ H s):Inv X pins σ H s:=⟨I.ok.unwish,I.os,I.bare,I.base,I.loc,I.cell,I.free,I.freeC,I.pin,I.hok,I.len⟩
theorem SP.unwish {D:Ends} {f:Flow} {s':Shared} (h:SP (X.wish E) pins D f s'):SP X pins D f s':=by
 cases f with
 | next=>obtain ⟨σ',H',I,q⟩:=h;exact ⟨σ',H',I.unwish,q⟩
 | brk=>obtain ⟨σ',H',I,q⟩:=h;exact ⟨σ',H',I.unwish,q⟩
 | cont=>obtain ⟨σ',H',I,q⟩:=h;exact ⟨σ',H',I.unwish,q⟩
 | ret u=>obtain ⟨v,σ',H',I,r,q⟩:=h;exact ⟨v,σ',H',I.unwish,r,q⟩
theorem PE.nox {e:Expr} {t:TE} (h:PE X.nox e t):PE X e t:=fun pins s σ H Q I hw =>
 wpAny_mono (h pins s σ H Q (I.wish _) hw) (fun _ _ ⟨v,H',I',r,q⟩=>⟨v,H',I'.unwish,r,q⟩) fun _ _ z=>False.elim z
theorem PT.nox {e:Expr} {t:TT} (h:PT X.nox e t):PT X e t:=fun pins s σ H Q I hw =>
 wpAny_mono (h pins s σ H Q (I.wish _) hw) (fun _ _ ⟨H',I',q⟩=>⟨H',I'.unwish,q⟩) fun _ _ z=>False.elim z
theorem PSs.nox {st:List Stmt} {t:TS} (h:PSs X.nox st t):PSs X st t:=fun pins s σ H D I hw =>
 wpAny_mono (h pins s σ H D (I.wish _) hw) (fun _ _ q=>q.unwish) fun _ _ z=>False.elim z
end
section
variable {X:Cx} {st:Stmt} {YA:List Stmt} {t u:TS} {e:Expr} {te:TE} {pos:Pos}
def Qb:TS:=fun D σ H=>D.nx σ H
def X4 (t u:TS):TS:=fun D σ H=>t { D with nx:=u D } σ H
theorem Yk:PSs X [] Qb:=fun _ _ σ H _ I h=>wpAny_execs_nil ⟨σ,H,I,h⟩
theorem Ye (h1:PS X st t) (h2:PSs X YA u):PSs X (st::YA) (X4 t u):=by
 intro pins s σ H D I h
 refine wpAny_execs_cons (thn (h1 pins s σ H { D with nx:=u D } I h) fun f s1 q=>?_)
 cases f with
 | next =>
  obtain ⟨σ',H',I',q⟩:=q
  exact h2 pins s1 σ' H' D I' q
 | ret v=>exact q
 | brk=>exact q
 | cont=>exact q
theorem Yf (h1:PS X st t):PSs X [st] t:=by
 intro pins s σ H D I h
 refine wpAny_execs_cons (thn (h1 pins s σ H D I h) fun f s1 q=>?_)
 cases f with
 | next=>exact wpAny_execs_nil q
 | ret v=>exact q
 | brk=>exact q
 | cont=>exact q
def QX:TS:=fun D σ H=>D.bk σ H
def tCont:TS:=fun D σ H=>D.ct σ H
theorem Inv.quiet {pins:List (Addr×Obj)} {σ:St} {H:Hp} {s:Shared} (I:Inv X pins σ H s):interactive X.env=false:=by simp [interactive,I.ok.kind]
def VG (te:TE):TS:=fun D σ H=>te σ H fun _ H1=>D.nx σ H1
theorem XX (he:PE X e te) (hs:swapsWith e none pos.line X.env=pure false:=by rfl):PS X (.Expr e pos) (VG te):=by
 intro pins s σ H D I h
 exact wpAny_Expr_any (thn (he pins s σ H _ I h) fun v s1 ⟨x,H1,I1,r1,q1⟩=>⟨σ,H1,I1,q1⟩) I.quiet hs
def tRet (te:TE):TS:=fun D σ H=>te σ H D.rt
theorem Yu (he:PE X e te):PS X (.Return (some e) pos) (tRet te):=by
 intro pins s σ H D I h
 exact wpAny_Return_some (thn (he pins s σ H _ I h) fun v s1 ⟨x,H1,I1,r1,q1⟩=>⟨x,σ,H1,I1,r1,q1⟩)
def tRetN:TS:=fun D _ H=>D.rt .non H
def tIfS (c:TT) (t u:TS):TS:=fun D σ H=>c σ H fun b H1=>if b=true then t D σ H1 else u D σ H1
theorem Yt {c:Expr} {a b:List Stmt} {tc:TT} (hc:PT X c tc) (ha:PSs X a t) (hb:PSs X b u):PS X (.If c a b pos) (tIfS tc t u):=by
 intro pins s σ H D I h
 refine wpAny_If (thn (hc pins s σ H _ I h) fun d s1 ⟨H1,I1,q1⟩=>?_)
 cases d with
 | true=>exact ha pins s1 σ H1 D I1 q1
 | false=>exact hb pins s1 σ H1 D I1 q1
def V6:TS:=fun _ _ _=>False
theorem YB:PS X st V6:=fun _ _ _ _ _ _ h=>h.elim
end
abbrev TG:=V→St→Hp→(St→Hp→Prop)→Prop
abbrev TGs:=List V→St→Hp→(St→Hp→Prop)→Prop
def PG (X:Cx) (target:Expr) (t:TG):Prop :=
 ∀ (pins:List (Addr×Obj)) (s:Shared) (σ:St) (H:Hp) (v:V) (u:Value) (Q:St→Hp→Prop),Inv X pins σ H s→Ym v u→t v σ H Q →
  wpAny (model X.prog X.w) X.A (assign target X.env u) (fun _ s'=>∃ σ' H',Inv X pins σ' H' s'∧Q σ' H') X.xe s
def PGs (X:Cx) (ts:List Expr) (t:TGs):Prop :=
 ∀ (pins:List (Addr×Obj)) (s:Shared) (σ:St) (H:Hp) (vs:List V) (us:List Value) (Q:St→Hp→Prop),Inv X pins σ H s→Yj vs us→t vs σ H Q →
  wpAny (model X.prog X.w) X.A (assignInOrder ((assignEach ts X.env).map (·.2)) us) (fun _ s'=>∃ σ' H',Inv X pins σ' H' s'∧Q σ' H') X.xe s
abbrev TSet:=V→V→V→Hp→(Hp→Prop)→Prop
abbrev TIp:=V→V→Hp→VK→Prop
section
variable {X:Cx} {pos:Pos}
def YX (i:Nat):TG:=fun v σ H Q=>Q (σ.set i (some v)) H
theorem Y4 {i:Nat} {x:Str} (hN:X.N.Nodup) (hi:X.N[i]?=some x) (hx:Loc X.env.scope x) (hf:X.fn x=true∨X.env.scope.names.lookup x=some .local):PG X (.Name x pos) (YX i):=by
 intro pins s σ H v u Q I r h
 exact wpAny_assign_Name (XF I hN hi hx r (fun s' I'=>⟨_,H,I',h⟩) hf)
def Wp:TGs:=fun vs σ H Q=>vs=[]∧Q σ H
def Xa (t:TG) (u:TGs):TGs:=fun vs σ H Q=>∃ v r,vs=v::r∧t v σ H fun σ' H'=>u r σ' H' Q
theorem Qr:PGs X [] Wp:=by
 intro pins s σ H vs us Q I r h
 obtain ⟨e,h⟩:=h
 subst e
 cases r
 exact assignInOrder_nil ⟨σ,H,I,h⟩
theorem WR {e:Expr} {es:List Expr} {t:TG} {u:TGs} (h1:PG X e t) (h2:PGs X es u)
  (hs:(assignEach (e::es) X.env).map (·.2)=assign e X.env::(assignEach es X.env).map (·.2)):PGs X (e::es) (Xa t u):=by
 intro pins s σ H vs us Q I r h
 obtain ⟨v,vr,e1,h⟩:=h
 subst e1
 cases r with
 | cons r rr =>
  rw [hs]
  refine assignInOrder_cons (thn (h1 pins s σ H _ _ _ I r h) fun _ s1 ⟨σ1,H1,I1,q1⟩=>?_)
  exact h2 pins s1 σ1 H1 _ _ Q I1 rr q1
def Wq (K:PySem.W.Frag) (n:Nat) (t:TGs):TG:=fun v σ H Q=>∃ a xs,v = .ref a∧SqT K H a xs∧xs.length=n∧t xs σ H Q
theorem QY {es:List Expr} {k:Nat} {t:TGs} {n:Nat} (hc:X.calm=true) (h:PGs X es t)
  (hn:(assignEach es X.env).length=n) (hst:(assignEach es X.env).findIdx? (·.1)=none):PG X (.Tuple es k pos) (Wq X.K n t):=by
 intro pins s σ H v u Q I r hw
 obtain ⟨a,xs,e1,hq,hl,hw⟩:=hw
 subst e1
 cases r
 obtain ⟨its,rv,ht,hz⟩:=I.tuple hq
 refine assign_Tuple_tuple (I.ok.hd hc) ht (by simp [hn,← hl,rv.length]) hst fun h' hx=>?_
 have I1:Inv X pins σ H { s with heap:=h' }:=I.kept (t':=s.toks) fun b o e=>hx b o (Nat.ne_of_lt (Heap.lt_size e)) e
 exact h pins _ σ H xs _ Q I1 (by simpa using rv) hw
def gSub (to ti:TE) (t:TSet):TG:=fun v σ H Q=>to σ H fun o H1=>ti σ H1 fun i H2=>t o i v H2 fun H3=>Q σ H3
def tAsg (te:TE) (g:TG):TS:=fun D σ H=>te σ H fun x H1=>g x σ H1 D.nx
theorem Yw {i:Nat} {x:Str} {e:Expr} {te:TE} {pos':Pos} (hN:X.N.Nodup) (hi:X.N[i]?=some x) (hx:Loc X.env.scope x) (he:PE X e te) (hs:swapsWith e (some (.Name x pos')) pos.line X.env=pure false) (hf:X.fn x=true∨X.env.scope.names.lookup x=some .local) :
  PS X (.Assign [.Name x pos'] e pos) (tAsg te (YX i)):=by
 intro pins s σ H D I h
 refine wpAny_Assign_Name (thn (he pins s σ H _ I h) fun v s1 ⟨y,H1,I1,r1,q1⟩=>?_) hs
 exact XF I1 hN hi hx r1 (fun s2 I2=>⟨_,H1,I2,q1⟩) hf
def tAug (i:Nat) (te:TE) (ti:TIp):TS:=fun D σ H=>∃ x,σ[i]?=some (some x)∧te σ H fun y H1=>ti x y H1 fun z H2=>D.nx (σ.set i (some z)) H2
def ipI (f:Int→Int→Int):TIp:=fun x y H Q=>∃ i j,x = .int i∧y = .int j∧Q (.int (f i j)) H
end
section
variable {X:Cx} {pos:Pos}
end
structure It where
 go:Nat→Hp→Prop
 yld:Nat→Hp→V→Hp→Prop
 stop:Nat→Hp→Prop
def Xr (X:Cx) (pins:List (Addr×Obj)) (H:Hp) (b:Addr):Prop :=
 H b=none∧b≠X.env.locals∧b∉X.fs∧(b∈X.ex∨X.s₀.heap.objs.size≤b)∧(∀ x c,X.env.cells.lookup x=some c→c≠b)∧∀ p∈X.pn++pins,p.1≠b
theorem Inv.fpOk {X:Cx} {pins:List (Addr×Obj)} {σ:St} {H H':Hp} {s:Shared} {b:Addr} (I:Inv X pins σ H s) (hb:s.heap.objs.size≤b) (hn:H' b=none):Xr X pins H' b:=by
 refine ⟨hn,Nat.ne_of_gt (Nat.lt_of_lt_of_le I.lt hb),I.nofs hb,.inr (Nat.le_trans I.sz hb),fun x c e z=>?_,fun p hp z=>?_⟩
 ·obtain ⟨v,q⟩:=I.cell x c e
  exact absurd (Nat.lt_of_lt_of_le q.lt (by rw [z];exact hb)) (Nat.lt_irrefl _)
 ·exact absurd (Nat.lt_of_lt_of_le (Heap.lt_size (I.pin p hp).1) (by rw [z];exact hb)) (Nat.lt_irrefl _)
structure Turn (P:Program) (w:World) (K:PySem.W.Frag) (tg:Expr) (J:It) (fp:List Addr) (it:Addr) (tn:Nat→Heap→Prop):Prop where
 mem:it∈fp
 obj:∀ i h,tn i h→∀ b∈fp,∃ o,h.get? b=some o∧∀ v,o.data ≠ .cell v
 keep:∀ i h h',tn i h→(∀ b∈fp,∀ o,h.get? b=some o→h'.get? b=some o)→tn i h'
 item:∀ (X:Cx),X.prog=P→X.w=w→X.K=K→X.calm=true→∀ (i:Nat) (pins:List (Addr×Obj)) (s:Shared) (σ:St) (H:Hp) (E:Value→Shared→Prop),Inv X pins σ H s→(∀ b∈fp,Xr X pins H b)→tn i s.heap→J.go i H →
  wpAny (model P w) X.A (pyNext (.ref it)) (fun r s1=>∃ u,r=some u ∧
   wpAny (model P w) X.A (letOwnedTupleGo tg (.ref it) u) (fun _ s2=>∃ x H',Inv X pins σ H' s2∧Ym x u∧J.yld i H x H'∧tn (i+1) s2.heap∧∀ b∈fp,H' b=none) E s1) E s
 done:∀ (X:Cx),X.prog=P→X.w=w→X.K=K→X.calm=true→∀ (i:Nat) (pins:List (Addr×Obj)) (s:Shared) (σ:St) (H:Hp) (E:Value→Shared→Prop),Inv X pins σ H s→(∀ b∈fp,Xr X pins H b)→tn i s.heap→J.stop i H →
  wpAny (model P w) X.A (pyNext (.ref it)) (fun r s1=>r=none∧Inv X pins σ H s1) E s
 self:∀ (A:Around) (i:Nat) (s:Shared) (Q:Value→Shared→Prop) (E:Value→Shared→Prop),tn i s.heap→Q (.ref it) s→wpAny (model P w) A (pyIter (.ref it)) Q E s
abbrev TI:=St→Hp→(It→Hp→Prop)→Prop
def PIE (X:Cx) (pins:List (Addr×Obj)) (σ:St) (tg:Expr) (R:It→Hp→Prop) (itv:Value) (s2:Shared):Prop :=
 ∃ (it:Addr) (fp:List Addr) (tn:Nat→Heap→Prop) (J:It) (H':Hp),itv = .ref it∧Inv X pins σ H' s2∧Turn X.prog X.w X.K tg J fp it tn∧tn 0 s2.heap∧(∀ b∈fp,Xr X pins H' b)∧R J H'
def PI (X:Cx) (tg iter:Expr) (wi:TI):Prop :=
 ∀ (pins:List (Addr×Obj)) (s:Shared) (σ:St) (H:Hp) (R:It→Hp→Prop),Inv X pins σ H s→wi σ H R →
  wpAny (model X.prog X.w) X.A (eval iter X.env) (fun v s1=>wpAny (model X.prog X.w) X.A (pyIter v) (PIE X pins σ tg R) X.xe s1) X.xe s
theorem VH {M:Model} {A:Around} {E:Value→Shared→Prop} {s:Shared} {tg:Expr} {it:Addr} {u:Value} {o:Obj} {n:String} {vs:Array Value} {Q:Unit→Shared→Prop} (ho:s.heap.get? it=some o) (hc:o.cls = .type n) (hd:o.data = .fields vs)
  (hn:["enumerate","zip","dict_itemiterator","dict_reverseitemiterator","odict_iterator","itertools.zip_longest","itertools.pairwise"].contains n=false) (hQ:Q () s):wpAny M A (letOwnedTupleGo tg (.ref it) u) Q E s:=by
 unfold letOwnedTupleGo
 cases tg<;>first
  | exact wpAny_pure hQ
  | (cases u<;>first
    | exact wpAny_pure hQ
    | (refine wpAny_bind (wpAny_load ho ?_)
       rw [hc,hd]
       show wpAny M A (if (["enumerate","zip","dict_itemiterator","dict_reverseitemiterator","odict_iterator","itertools.zip_longest","itertools.pairwise"].contains n&&vs[0]?==some (rawInt _))=true then _ else _) Q E s
       rw [if_neg (by intro h;rw [hn,Bool.false_and] at h;cases h)]
       exact wpAny_pure hQ))
def Itl (K:PySem.W.Frag) (a:Addr):It :=
 ⟨fun i H=>∃ xs x,SqL K H a xs∧xs[i]?=some x,fun i H x H'=>H'=H∧∀ xs,SqL K H a xs→xs[i]?=some x,fun i H=>∃ xs,SqL K H a xs∧xs.length≤i⟩
def Itt (K:PySem.W.Frag) (a:Addr):It :=
 ⟨fun i H=>∃ xs x,SqT K H a xs∧xs[i]?=some x,fun i H x H'=>H'=H∧∀ xs,SqT K H a xs→xs[i]?=some x,fun i H=>∃ xs,SqT K H a xs∧xs.length≤i⟩
def Itr (lo:Int) (n:Nat):It:=⟨fun i _=>i<n,fun i H x H'=>H'=H∧x = .int (lo+i),fun i _=>n≤i⟩
theorem V7 {P:Program} {w:World} {K:PySem.W.Frag} {tg:Expr} (a it:Addr):Turn P w K tg (Itl K a) [it] it (fun i h=>h.IsListIter it a i) where
 mem:=by simp
 obj:=fun i h st b hb=>by
  have e:b=it:=by simpa using hb
  subst e
  obtain ⟨o,e,c,d⟩:=st
  exact ⟨o,e,fun v z=>by rw [d] at z;cases z⟩
 keep:=fun i h h' st k=>st.at fun o e=>k it (by simp) o e
 item:=by
  intro X hP hw hK hc i pins s σ H E I hf st hg
  subst hP hw hK
  obtain ⟨xs,x,hq,hx⟩:=hg
  obtain ⟨its,rv,p,hz⟩:=I.list hq
  obtain ⟨u,hu,ru⟩:=rv.get hx
  obtain ⟨f0,f1,f2,f3,f4,f5⟩:=hf it (by simp)
  refine wpAny_pyNext_list_item st p.isList (x:=u) (by simpa using hu) fun h' st' sb=>?_
  have I1:Inv X pins σ H { s with heap:=h' }:=I.turned (t':=s.toks) (fun b o hb e=>(sb.2 b hb).trans e) f0 f1 f3 f4 f5
  obtain ⟨o,e,c,d⟩:=id st'
  exact ⟨u,rfl,VH (s:={ s with heap:=h' }) e c d (by decide) ⟨x,H,I1,ru,⟨rfl,fun ys hy=>by rw [I.list_inj hy hq];exact hx⟩,st',fun b hb=>(hf b hb).1⟩⟩
 done:=by
  intro X hP hw hK hc i pins s σ H E I hf st hg
  subst hP hw hK
  obtain ⟨xs,hq,hx⟩:=hg
  obtain ⟨its,rv,p,hz⟩:=I.list hq
  obtain ⟨f0,f1,f2,f3,f4,f5⟩:=hf it (by simp)
  have hl:=rv.length
  exact wpAny_pyNext_list_end (I.ok.hd hc) st p.isList (by simp;omega) fun h' eb=>⟨rfl,I.turned (t':=s.toks) (fun b o hb e=>eb b o hb e) f0 f1 f3 f4 f5⟩
 self:=fun _ _ _ _ _ st h=>wpAny_pyIter_listiter st h
theorem VI {P:Program} {w:World} {K:PySem.W.Frag} {tg:Expr} (a it:Addr):Turn P w K tg (Itt K a) [it] it (fun i h=>h.IsTupleIter it a i) where
 mem:=by simp
 obj:=fun i h st b hb=>by
  have e:b=it:=by simpa using hb
  subst e
  obtain ⟨o,e,c,d⟩:=st
  exact ⟨o,e,fun v z=>by rw [d] at z;cases z⟩
 keep:=fun i h h' st k=>st.at fun o e=>k it (by simp) o e
 item:=by
  intro X hP hw hK hc i pins s σ H E I hf st hg
  subst hP hw hK
  obtain ⟨xs,x,hq,hx⟩:=hg
  obtain ⟨its,rv,p,hz⟩:=I.tuple hq
  obtain ⟨u,hu,ru⟩:=rv.get hx
  obtain ⟨f0,f1,f2,f3,f4,f5⟩:=hf it (by simp)
  refine wpAny_pyNext_tuple_item st (show s.heap.IsTuple a its.toArray from p) (x:=u) (by simpa using hu) fun h' st' sb=>?_
  have I1:Inv X pins σ H { s with heap:=h' }:=I.turned (t':=s.toks) (fun b o hb e=>(sb.2 b hb).trans e) f0 f1 f3 f4 f5
  obtain ⟨o,e,c,d⟩:=id st'
  exact ⟨u,rfl,VH (s:={ s with heap:=h' }) e c d (by decide) ⟨x,H,I1,ru,⟨rfl,fun ys hy=>by rw [I.tuple_inj hy hq];exact hx⟩,st',fun b hb=>(hf b hb).1⟩⟩
 done:=by
  intro X hP hw hK hc i pins s σ H E I hf st hg
  subst hP hw hK
  obtain ⟨xs,hq,hx⟩:=hg
  obtain ⟨its,rv,p,hz⟩:=I.tuple hq
  obtain ⟨f0,f1,f2,f3,f4,f5⟩:=hf it (by simp)
  have hl:=rv.length
  exact wpAny_pyNext_tuple_end (I.ok.hd hc) st (show s.heap.IsTuple a its.toArray from p) (by simp;omega) fun h' eb=>⟨rfl,I.turned (t':=s.toks) (fun b o hb e=>eb b o hb e) f0 f1 f3 f4 f5⟩
 self:=fun _ _ _ _ _ st h=>wpAny_pyIter_tupleiter st h
theorem VJ {P:Program} {w:World} {K:PySem.W.Frag} {tg:Expr} (it:Addr) (lo:Int) (n:Nat):Turn P w K tg (Itr lo n) [it] it (fun i h=>IsRangeIter h it (lo+(i:Nat)*1) ((n:Int) - (i:Nat)) 1) where
 mem:=by simp
 obj:=fun i h st b hb=>by
  have e:b=it:=by simpa using hb
  subst e
  exact ⟨_,st,fun v z=>by
   have z':Data.fields _=Data.cell v:=z
   cases z'⟩
 keep:=fun i h h' st k=>k it (by simp) _ st
 item:=by
  intro X hP hw hK hc i pins s σ H E I hf st hg
  subst hP hw hK
  obtain ⟨f0,f1,f2,f3,f4,f5⟩:=hf it (by simp)
  have W:=Walks.range (prog:=X.prog) (w:=X.w) (I.ok.hd hc) it lo 1 n
  refine W.item i s _ _ hg st fun v h' tk hv st' kk=>?_
  obtain ⟨t,rfl⟩:=hv
  have I1:Inv X pins σ H { s with heap:=h',toks:=tk }:=I.turned (fun b o hb e=>kk b o (by simpa using hb) e) f0 f1 f3 f4 f5
  refine ⟨_,rfl,VH (s:={ s with heap:=h',toks:=tk }) (n:="range_iterator") st' rfl rfl (by decide) ⟨.int (lo+i),H,I1,⟨t,?_⟩,⟨rfl,rfl⟩,st',fun b hb=>(hf b hb).1⟩⟩
  rw [Int.mul_one]
 done:=by
  intro X hP hw hK hc i pins s σ H E I hf st hg
  subst hP hw hK
  obtain ⟨f0,f1,f2,f3,f4,f5⟩:=hf it (by simp)
  exact wpAny_pyNext_range_end (I.ok.hd hc) st (by have:n≤i:=hg;omega) fun h' eb=>⟨rfl,I.turned (t':=s.toks) (fun b o hb e=>eb b o hb e) f0 f1 f3 f4 f5⟩
 self:=fun _ _ _ _ _ st h=>wpAny_pyIter_rangeiter st h
end L2
namespace L2
open PySem PySem.Spec PyProof.Rows
section
variable {X:Cx} {tg:Expr}
def WL (K:PySem.W.Frag) (tl:TE):TI:=fun σ H R=>tl σ H fun x H1=>∃ a,x = .ref a∧(∃ xs,SqL K H1 a xs)∧R (Itl K a) H1
def iTup (K:PySem.W.Frag) (tl:TE):TI:=fun σ H R=>tl σ H fun x H1=>∃ a,x = .ref a∧(∃ xs,SqT K H1 a xs)∧R (Itt K a) H1
theorem XY {l:Expr} {tl:TE} (hl:PE X l tl):PI X tg l (WL X.K tl):=by
 intro pins s σ H R I h
 refine thn (hl pins s σ H _ I h) fun v s1 ⟨x,H1,I1,r1,q1⟩=>?_
 obtain ⟨a,e,⟨xs,hq⟩,q⟩:=q1
 subst e
 cases r1
 obtain ⟨its,rv,p,hz⟩:=I1.list hq
 refine wpAny_pyIter_list p.isList ?_
 refine ⟨s1.heap.objs.size,[s1.heap.objs.size],_,_,H1,rfl,I1.kept (t':=s1.toks) fun b o e=>Heap.get?_push_of_some _ e,V7 a _,⟨_,Heap.get?_push_size _ rfl,rfl,rfl⟩,fun b hb=>?_,q⟩
 have e:b=s1.heap.objs.size:=by simpa using hb
 subst e
 exact I1.fpOk (Nat.le_refl _) (I1.hok.fresh (Nat.le_refl _))
theorem V8 {l:Expr} {tl:TE} (hl:PE X l tl):PI X tg l (iTup X.K tl):=by
 intro pins s σ H R I h
 refine thn (hl pins s σ H _ I h) fun v s1 ⟨x,H1,I1,r1,q1⟩=>?_
 obtain ⟨a,e,⟨xs,hq⟩,q⟩:=q1
 subst e
 cases r1
 obtain ⟨its,rv,p,hz⟩:=I1.tuple hq
 refine wpAny_pyIter_tuple (show s1.heap.IsTuple a its.toArray from p) ?_
 refine ⟨s1.heap.objs.size,[s1.heap.objs.size],_,_,H1,rfl,I1.kept (t':=s1.toks) fun b o e=>Heap.get?_push_of_some _ e,VI a _,⟨_,Heap.get?_push_size _ rfl,rfl,rfl⟩,fun b hb=>?_,q⟩
 have e:b=s1.heap.objs.size:=by simpa using hb
 subst e
 exact I1.fpOk (Nat.le_refl _) (I1.hok.fresh (Nat.le_refl _))
theorem UI {pins:List (Addr×Obj)} {σ:St} {H:Hp} {s:Shared} {R:It→Hp→Prop} {E:Value→Shared→Prop} {lo hi:Int} {t u v:Tok} {tk:Nat} (I:Inv X pins σ H s) (h1 : -(2^62)≤lo) (h2:lo<2^62) (h3 : -(2^62)≤hi) (h4:hi<2^62)
  (q:R (Itr lo (hi - lo).toNat) H):wpAny (model X.prog X.w) X.A (pyIter (.ref s.heap.objs.size)) (PIE X pins σ tg R) E { s with heap:=s.heap.push { cls := .type "range",data := .fields #[.int lo t,.int hi u,.int 1 v] },toks:=tk }:=by
 refine wpAny_pyIter_range (IsRange.new ..) (small_one h1 h2 h3 h4) ?_
 have I1:Inv X pins σ H { s with heap:=s.heap.push { cls := .type "range",data := .fields #[.int lo t,.int hi u,.int 1 v] },toks:=tk }:=I.kept fun b o e=>Heap.get?_push_of_some _ e
 refine ⟨(s.heap.push { cls := .type "range",data := .fields #[.int lo t,.int hi u,.int 1 v] }).objs.size,[(s.heap.push { cls := .type "range",data := .fields #[.int lo t,.int hi u,.int 1 v] }).objs.size],_,_,H,rfl,
  I1.kept (t':=tk) fun b o e=>Heap.get?_push_of_some _ e,VJ _ lo (hi - lo).toNat,?_,fun b hb=>?_,q⟩
 ·have e1:lo+((0:Nat):Int)*1=lo:=by simp
  have e2:(((hi - lo).toNat:Nat):Int) - ((0:Nat):Int)=Builtin.Range.rangeSize lo hi 1:=by rw [rangeSize_one];split<;>omega
  show IsRangeIter _ _ (lo+((0:Nat):Int)*1) ((((hi - lo).toNat:Nat):Int) - ((0:Nat):Int)) 1
  rw [e1,e2]
  exact Heap.get?_push_size _ rfl
 ·have e:b=(s.heap.push { cls := .type "range",data := .fields #[.int lo t,.int hi u,.int 1 v] }).objs.size:=by simpa using hb
  subst e
  exact I1.fpOk (Nat.le_refl _) (I1.hok.fresh (Nat.le_refl _))
def Qc (ta:TA):TI:=fun σ H R=>ta σ H fun vs H1=>∃ j:Int,vs=[.int j] ∧ -(2^62)≤j∧j<2^62∧R (Itr 0 j.toNat) H1
theorem V9 {a:Expr} {ta:TA} {p pos:Pos} (hg:Gl X "range") (hm:X.mg "range"=none) (ha:PA X [a] ta) (hs:starEach [a] X.env=[(false,eval a X.env)]):PI X tg (.Call (.Name "range" p) [a] [] pos) (Qc ta):=by
 intro pins s σ H R I h
 refine Call_ (XL I hg hm boot_range (PyProof.Rows.callWith_type1 (thn (ha pos pins s σ H _ I h) fun us s1 ⟨vs,H1,I1,r1,q1⟩=>?_) hs rfl))
 obtain ⟨j,e,q1,q2,q⟩:=q1
 subst e
 cases r1 with
 | cons r rr =>
  cases rr
  obtain ⟨t,rfl⟩:=r
  exact call_range_1 (UI I1 (by omega) (by omega) q1 q2 (by simpa using q))
def Xg (wi:TI) (g:TG) (tb:TS):TS:=fun D σ H=>wi σ H fun J H1=>∃ W:Nat→Nat→St→Hp→Prop,(∃ m,W 0 m σ H1)∧∀ i m σ H,W i m σ H →
 (J.stop i H∧D.nx σ H)∨(J.go i H∧∃ N:St→Hp→Prop,(∀ σ' H',N σ' H'→∃ m',m'<m∧W (i+1) m' σ' H')∧∀ x H',J.yld i H x H'→g x σ H' fun σ2 H2=>tb { D with nx:=N,ct:=N,bk:=D.nx } σ2 H2)
def XM (fp:List Addr) (h:Heap):List (Addr×Obj):=fp.filterMap fun b=>(h.get? b).map fun o=>(b,o)
theorem Xd {fp:List Addr} {h:Heap} {b:Addr} {o:Obj} (hb:b∈fp) (e:h.get? b=some o):(b,o)∈XM fp h:=List.mem_filterMap.mpr ⟨b,hb,by rw [e];rfl⟩
theorem Ua {fp:List Addr} {h:Heap} {p:Addr×Obj} (hp:p∈XM fp h):p.1∈fp∧h.get? p.1=some p.2:=by
 obtain ⟨b,hb,e⟩:=List.mem_filterMap.mp hp
 cases q:h.get? b with
 | none=>rw [q] at e;cases e
 | some o =>
  rw [q] at e
  have e':(b,o)=p:=Option.some.inj e
  subst e'
  exact ⟨hb,q⟩
theorem Inv.pinned {pins:List (Addr×Obj)} {σ:St} {H:Hp} {s:Shared} {fp:List Addr} (I:Inv X pins σ H s) (hf:∀ b∈fp,Xr X pins H b) (ho:∀ b∈fp,∃ o,s.heap.get? b=some o∧∀ v,o.data ≠ .cell v):Inv X (pins++XM fp s.heap) σ H s :=
 I.pins_of fun p hp=>(List.mem_append.mp hp).elim (fun z=>I.pin p (List.mem_append_right _ z)) fun z=>by
  obtain ⟨hb,e⟩:=Ua z
  obtain ⟨f0,f1,f2,_⟩:=hf p.1 hb
  obtain ⟨o,e',d⟩:=ho p.1 hb
  rw [e] at e';cases e'
  exact ⟨e,f0,f1,f2,d⟩
theorem Inv.unpinned {pins pl:List (Addr×Obj)} {σ:St} {H:Hp} {s:Shared} (I:Inv X (pins++pl) σ H s):Inv X pins σ H s:=I.pins_of fun p hp=>I.pin p (List.mem_append_right _ (List.mem_append_left _ hp))
theorem XN {iter:Expr} {body:List Stmt} {wi:TI} {g:TG} {tb:TS} {pos:Pos} (hp:PassesOwn (model X.prog X.w) X.A X.env X.xe) (hc:X.calm=true) (hi:PI X tg iter wi) (hg:PG X tg g) (hb:PSs X body tb)
  (hs:∀ x,foldedSetIterable iter X.env x=pure x):PS X (.For tg iter body [] pos) (Xg wi g tb):=by
 intro pins s σ H D I h
 refine wpAny_For (thn (hi pins s σ H _ I h) fun v s1 h1=>thn h1 fun itv s2 h2=>?_) hs
 obtain ⟨it,fp,tn,J,H2,e,I2,T,st2,f2,W,⟨m0,w0⟩,turn⟩:=h2
 subst e
 -- what stays true of the iterator's objects through the loop
 have stat:∀ {H':Hp},(∀ b∈fp,H' b=none)→∀ b∈fp,Xr X pins H' b:=fun hn b hb=>⟨hn b hb,(f2 b hb).2⟩
 refine codeAny_forLoop_any (fun n s'=>∃ i σ' H',Inv X pins σ' H' s'∧tn i s'.heap∧(∀ b∈fp,H' b=none)∧W i n σ' H') ?_ m0 ⟨0,σ,H2,I2,st2,fun b hb=>(f2 b hb).1,w0⟩
 rintro n s3 ⟨i,σ3,H3,I3,st3,fr3,w3⟩
 rcases turn i n σ3 H3 w3 with ⟨stop,qn⟩ | ⟨go,N,hN,step⟩
 ·refine wpAny_passesOwn hp (thn (T.done X rfl rfl rfl hc i pins s3 σ3 H3 X.xe I3 (stat fr3) st3 stop) fun r s4 ⟨hr,I4⟩=>?_)
  subst hr
  exact wpAny_execs_nil ⟨σ3,H3,I4,qn⟩
 ·refine wpAny_passesOwn hp (thn (T.item X rfl rfl rfl hc i pins s3 σ3 H3 X.xe I3 (stat fr3) st3 go) fun r s4 ⟨u,hr,h4⟩=>?_)
  subst hr
  refine wpAny_passesOwn hp (thn h4 fun _ s5 ⟨x,H5,I5,r5,y5,st5,fr5⟩=>?_)
  have I5':=I5.pinned (stat fr5) (T.obj _ _ st5)
  refine wpAny_passesOwn hp (thn (hg _ s5 σ3 H5 x u _ I5' r5 (step x H5 y5)) fun _ s6 ⟨σ6,H6,I6,q6⟩=>?_)
  refine wpAny_passesOwn hp (thn (hb _ s6 σ6 H6 _ I6 q6) fun f s7 q7=>?_)
  have again:∀ {σ7:St} {H7:Hp},Inv X (pins++XM fp s5.heap) σ7 H7 s7→N σ7 H7→∃ m,m<n∧∃ i σ' H',Inv X pins σ' H' s7∧tn i s7.heap∧(∀ b∈fp,H' b=none)∧W i m σ' H':=fun {σ7 H7} I7 n7=>by
   obtain ⟨m',hm,w7⟩:=hN σ7 H7 n7
   refine ⟨m',hm,i+1,σ7,H7,I7.unpinned,T.keep _ _ _ st5 fun b hb o e=>(I7.pin (b,o) (List.mem_append_right _ (List.mem_append_right _ (Xd hb e)))).1,fun b hb=>?_,w7⟩
   obtain ⟨o,e,d⟩:=T.obj _ _ st5 b hb
   exact (I7.pin (b,o) (List.mem_append_right _ (List.mem_append_right _ (Xd hb e)))).2.1
  cases f with
  | next=>obtain ⟨σ7,H7,I7,n7⟩:=q7;exact again I7 n7
  | cont=>obtain ⟨σ7,H7,I7,n7⟩:=q7;exact again I7 n7
  | brk=>obtain ⟨σ7,H7,I7,q7⟩:=q7;exact ⟨σ7,H7,I7.unpinned,q7⟩
  | ret v=>obtain ⟨x7,σ7,H7,I7,r7,q7⟩:=q7;exact ⟨x7,σ7,H7,I7.unpinned,r7,q7⟩
end
theorem WS {K:PySem.W.Frag} {a:Addr} {xs:List V} {g:TG} {tb:TS} {D:Ends} {σ:St} {H:Hp} (Pv:Nat→St→Hp→Prop) (h0:Pv 0 σ H) (hl:∀ i σ H,i≤xs.length→Pv i σ H→SqL K H a xs)
  (hs:∀ i x σ H,xs[i]?=some x→Pv i σ H→g x σ H fun σ2 H2=>tb { D with nx:=Pv (i+1),ct:=Pv (i+1),bk:=D.nx } σ2 H2) (hd:∀ σ H,Pv xs.length σ H→D.nx σ H) :
  ∃ W:Nat→Nat→St→Hp→Prop,(∃ m,W 0 m σ H)∧∀ i m σ H,W i m σ H →
   ((Itl K a).stop i H∧D.nx σ H)∨((Itl K a).go i H∧∃ N:St→Hp→Prop,(∀ σ' H',N σ' H'→∃ m',m'<m∧W (i+1) m' σ' H')∧∀ x H',(Itl K a).yld i H x H'→g x σ H' fun σ2 H2=>tb { D with nx:=N,ct:=N,bk:=D.nx } σ2 H2):=by
 refine ⟨fun i m σ H=>m=xs.length - i∧i≤xs.length∧Pv i σ H,⟨xs.length,by simp,Nat.zero_le _,h0⟩,?_⟩
 rintro i m σ H ⟨rfl,hi,p⟩
 have q:=hl i σ H hi p
 by_cases hlt:i<xs.length
 ·refine .inr ⟨⟨xs,xs[i],q,by simp [hlt]⟩,Pv (i+1),fun σ' H' p'=>⟨xs.length - (i+1),by omega,rfl,hlt,p'⟩,fun x H' y=>?_⟩
  obtain ⟨e,y⟩:=y
  subst e
  exact hs i x σ _ (y xs q) p
 ·have e:i=xs.length:=by omega
  subst e
  exact .inl ⟨⟨xs,q,Nat.le_refl _⟩,hd σ H p⟩
theorem Vn {K:PySem.W.Frag} {a:Addr} {xs:List V} {g:TG} {tb:TS} {D:Ends} {σ:St} {H:Hp} (Pv:Nat→St→Hp→Prop) (h0:Pv 0 σ H) (hl:∀ i σ H,i≤xs.length→Pv i σ H→SqT K H a xs)
  (hs:∀ i x σ H,xs[i]?=some x→Pv i σ H→g x σ H fun σ2 H2=>tb { D with nx:=Pv (i+1),ct:=Pv (i+1),bk:=D.nx } σ2 H2) (hd:∀ σ H,Pv xs.length σ H→D.nx σ H) :
  ∃ W:Nat→Nat→St→Hp→Prop,(∃ m,W 0 m σ H)∧∀ i m σ H,W i m σ H →
   ((Itt K a).stop i H∧D.nx σ H)∨((Itt K a).go i H∧∃ N:St→Hp→Prop,(∀ σ' H',N σ' H'→∃ m',m'<m∧W (i+1) m' σ' H')∧∀ x H',(Itt K a).yld i H x H'→g x σ H' fun σ2 H2=>tb { D with nx:=N,ct:=N,bk:=D.nx } σ2 H2):=by
 refine ⟨fun i m σ H=>m=xs.length - i∧i≤xs.length∧Pv i σ H,⟨xs.length,by simp,Nat.zero_le _,h0⟩,?_⟩
 rintro i m σ H ⟨rfl,hi,p⟩
 have q:=hl i σ H hi p
 by_cases hlt:i<xs.length
 ·refine .inr ⟨⟨xs,xs[i],q,by simp [hlt]⟩,Pv (i+1),fun σ' H' p'=>⟨xs.length - (i+1),by omega,rfl,hlt,p'⟩,fun x H' y=>?_⟩
  obtain ⟨e,y⟩:=y
  subst e
  exact hs i x σ _ (y xs q) p
 ·have e:i=xs.length:=by omega
  subst e
  exact .inl ⟨⟨xs,q,Nat.le_refl _⟩,hd σ H p⟩
theorem Ub {lo:Int} {n:Nat} {g:TG} {tb:TS} {D:Ends} {σ:St} {H:Hp} (Pv:Nat→St→Hp→Prop) (h0:Pv 0 σ H)
  (hs:∀ i σ H,i<n→Pv i σ H→g (.int (lo+i)) σ H fun σ2 H2=>tb { D with nx:=Pv (i+1),ct:=Pv (i+1),bk:=D.nx } σ2 H2) (hd:∀ σ H,Pv n σ H→D.nx σ H) :
  ∃ W:Nat→Nat→St→Hp→Prop,(∃ m,W 0 m σ H)∧∀ i m σ H,W i m σ H →
   ((Itr lo n).stop i H∧D.nx σ H)∨((Itr lo n).go i H∧∃ N:St→Hp→Prop,(∀ σ' H',N σ' H'→∃ m',m'<m∧W (i+1) m' σ' H')∧∀ x H',(Itr lo n).yld i H x H'→g x σ H' fun σ2 H2=>tb { D with nx:=N,ct:=N,bk:=D.nx } σ2 H2):=by
 refine ⟨fun i m σ H=>m=n - i∧i≤n∧Pv i σ H,⟨n,by simp,Nat.zero_le _,h0⟩,?_⟩
 rintro i m σ H ⟨rfl,hi,p⟩
 by_cases hlt:i<n
 ·refine .inr ⟨hlt,Pv (i+1),fun σ' H' p'=>⟨n - (i+1),by omega,rfl,hlt,p'⟩,fun x H' y=>?_⟩
  obtain ⟨e,y⟩:=y
  subst e y
  exact hs i σ _ hlt p
 ·have e:i=n:=by omega
  subst e
  exact .inl ⟨Nat.le_refl _,hd σ H p⟩
end L2
namespace L2
open PySem PySem.Spec PyProof.Rows
abbrev R2:=V→V→Hp→VK→Prop
def OpR (X:Cx) (f:Value→Value→Sem Value) (r:R2):Prop :=
 ∀ (pins:List (Addr×Obj)) (s:Shared) (σ:St) (H:Hp) (x y:V) (v u:Value) (Q:VK),Inv X pins σ H s→Ym x v→Ym y u→r x y H Q →
  wpAny (model X.prog X.w) X.A (f v u) (EP X pins σ Q) X.xe s
def YY (X:Cx) (f:Value) (r:List V→Hp→VK→Prop):Prop :=
 ∀ (pins:List (Addr×Obj)) (s:Shared) (σ:St) (H:Hp) (xs:List V) (us:List Value) (Q:VK),Inv X pins σ H s→Yj xs us→r xs H Q →
  wpAny (model X.prog X.w) X.A (call f us) (EP X pins σ Q) X.xe s
def tOp (r:R2) (ta tb:TE):TE:=fun σ H Q=>ta σ H fun x H1=>tb σ H1 fun y H2=>r x y H2 Q
def tUn (r:V→Hp→VK→Prop) (ta:TE):TE:=fun σ H Q=>ta σ H fun x H1=>r x H1 Q
def rI (C:Int→Int→Prop) (g:Int→Int→V):R2:=fun x y H Q=>∃ i j,x = .int i∧y = .int j∧C i j∧Q (g i j) H
def rI0 (g:Int→Int→V):R2:=fun x y H Q=>∃ i j,x = .int i∧y = .int j∧Q (g i j) H
def rU (g:Int→V):V→Hp→VK→Prop:=fun x H Q=>∃ i,x = .int i∧Q (g i) H
section
variable {X:Cx} {a b c:Expr} {ta tb tc:TE} {pos:Pos}
theorem binT (ha:PE X a ta) (hb:PE X b tb) {pins:List (Addr×Obj)} {s:Shared} {σ:St} {H:Hp} {R:V→V→Hp→Prop} (I:Inv X pins σ H s)
  (h:ta σ H fun x H1=>tb σ H1 fun y H2=>R x y H2) {Q:Value→Shared→Prop} {f:Value→Value→Sem Value}
  (hf:∀ v u s2 x y H2,Inv X pins σ H2 s2→Ym x v→Ym y u→R x y H2→wpAny (model X.prog X.w) X.A (f v u) Q X.xe s2) :
  wpAny (model X.prog X.w) X.A (eval a X.env) (fun v s₁=>wpAny (model X.prog X.w) X.A (eval b X.env) (fun u s₂=>wpAny (model X.prog X.w) X.A (f v u) Q X.xe s₂) X.xe s₁) X.xe s:=by
 refine thn (ha pins s σ H _ I h) fun v s1 ⟨x,H1,I1,r1,q1⟩=>?_
 refine thn (hb pins s1 σ H1 _ I1 q1) fun u s2 ⟨y,H2,I2,r2,q2⟩=>?_
 exact hf v u s2 x y H2 I2 r1 r2 q2
theorem Yz {op:Operator} {r:R2} (ho:OpR X (binaryOp op) r) (ha:PE X a ta) (hb:PE X b tb):PE X (.BinOp a op b pos) (tOp r ta tb):=by
 intro pins s σ H Q I h
 exact wpAny_BinOp (binT ha hb I h fun v u s2 x y H2 I2 rx ry q=>ho pins s2 σ H2 x y v u Q I2 rx ry q)
theorem opI {f:Value→Value→Sem Value} {C:Int→Int→Prop} {g:Int→Int→Int}
  (rule:∀ (i j:Int) (t u:Tok) (s:Shared) (Q:Value→Shared→Prop) (E:Value→Shared→Prop),C i j→Q (.int (g i j) s.toks) { s with toks:=s.toks+1 }→wpAny (model X.prog X.w) X.A (f (.int i t) (.int j u)) Q E s) :
  OpR X f (rI C fun i j => .int (g i j)):=by
 intro pins s σ H x y v u Q I rx ry h
 obtain ⟨i,j,rfl,rfl,hc,q⟩:=h
 obtain ⟨t,rfl⟩:=rx
 obtain ⟨t',rfl⟩:=ry
 exact rule i j t t' s _ _ hc ⟨.int (g i j),H,I.tok _,⟨_,rfl⟩,q⟩
theorem opI0 {f:Value→Value→Sem Value} {g:Int→Int→Int}
  (rule:∀ (i j:Int) (t u:Tok) (s:Shared) (Q:Value→Shared→Prop) (E:Value→Shared→Prop),Q (.int (g i j) s.toks) { s with toks:=s.toks+1 }→wpAny (model X.prog X.w) X.A (f (.int i t) (.int j u)) Q E s) :
  OpR X f (rI0 fun i j => .int (g i j)):=by
 intro pins s σ H x y v u Q I rx ry h
 obtain ⟨i,j,rfl,rfl,q⟩:=h
 obtain ⟨t,rfl⟩:=rx
 obtain ⟨t',rfl⟩:=ry
 exact rule i j t t' s _ _ ⟨.int (g i j),H,I.tok _,⟨_,rfl⟩,q⟩
theorem opB0 {f:Value→Value→Sem Value} {g:Int→Int→Bool}
  (rule:∀ (i j:Int) (t u:Tok) (s:Shared) (Q:Value→Shared→Prop) (E:Value→Shared→Prop),Q (.bool (g i j)) s→wpAny (model X.prog X.w) X.A (f (.int i t) (.int j u)) Q E s) :
  OpR X f (rI0 fun i j => .bl (g i j)):=by
 intro pins s σ H x y v u Q I rx ry h
 obtain ⟨i,j,rfl,rfl,q⟩:=h
 obtain ⟨t,rfl⟩:=rx
 obtain ⟨t',rfl⟩:=ry
 exact rule i j t t' s _ _ ⟨.bl (g i j),H,I,rfl,q⟩
def CPow (i j:Int):Prop:=0≤j∧j≤1000000∧i.natAbs<2^64
def CMul (i j:Int):Prop:=(-(2^64)<i∧i<2^64)∨(-(2^64)<j∧j<2^64)
theorem CMul.ok {i j:Int} (h:CMul i j):IntMulOk i j:=by
 rcases h with ⟨h1,h2⟩ | ⟨h1,h2⟩
 ·exact .of_left (intBits_le_64 h1 h2)
 ·exact .of_right (intBits_le_64 h1 h2)
theorem QZ:OpR X (binaryOp .Add) (rI0 fun i j => .int (i+j)):=opI0 fun _ _ _ _ _ _ _ q=>add_int q
theorem Uc:OpR X (binaryOp .Sub) (rI0 fun i j => .int (i - j)):=opI0 fun _ _ _ _ _ _ _ q=>sub_int q
theorem Y1:OpR X (binaryOp .Mod) (rI (fun _ j=>0<j) fun i j => .int (i%j)):=opI fun i j _ _ _ _ _ hc q=>by
 have h1:(0:Int)<j:=hc
 exact mod_int' (by omega) (by rw [Int.fmod_eq_emod_of_nonneg i (by omega)];exact q)
theorem XO:OpR X (binaryOp .Pow) (rI CPow fun i j => .int (i^j.toNat)):=opI fun _ _ _ _ _ _ _ hc q=>pow_int_small hc.1 hc.2.1 hc.2.2 q
end
def VM:V→V→Bool
 | .non,.non=>true | .non,.int _=>true | .int _,.non=>true | .non,.bl _=>true | .bl _,.non=>true | .non,.str _=>true | .str _,.non=>true
 | .int _,.int _=>true | .bl _,.bl _=>true | .str _,.str _=>true | .byt _,.byt _=>true
 | .int _,.str _=>true | .str _,.int _=>true | .bl _,.str _=>true | .str _,.bl _=>true
 | _,_=>false
def rEq:R2:=fun x y H Q=>VM x y=true∧Q (.bl (decide (x=y))) H
def rNe:R2:=fun x y H Q=>VM x y=true∧Q (.bl (!decide (x=y))) H
theorem Vo {i j:Int}:decide (V.int i=V.int j)=(i==j):=by
 rw [Bool.eq_iff_iff]
 simp
theorem Ud {i j:Bool}:decide (V.bl i=V.bl j)=(i==j):=by
 rw [Bool.eq_iff_iff]
 simp
theorem Vp {i j:Str}:decide (V.str i=V.str j)=(i==j):=by
 rw [Bool.eq_iff_iff]
 simp
theorem Vq {i j:Array UInt8}:decide (V.byt i=V.byt j)=(i.toList==j.toList):=by
 rw [Bool.eq_iff_iff]
 cases i
 cases j
 simp
section
variable {X:Cx} {a b c:Expr} {ta tb tc:TE} {pos:Pos}
theorem Yp {pins:List (Addr×Obj)} {σ:St} {H:Hp} {s:Shared} {Q:VK} {k k':Bool} (I:Inv X pins σ H s) (q:Q (.bl k) H) (e:k=k'):EP X pins σ Q (.bool k') s:=by
 subst e
 exact ⟨.bl k,H,I,rfl,q⟩
theorem YE:OpR X (compareOp .Eq) rEq:=by
 intro pins s σ H x y v u Q I rx ry h
 obtain ⟨hs,q⟩:=h
 cases x with
 | non =>
  cases rx
  cases y with
  | non=>cases ry;exact PySem.EqNone.eq_none_none (Yp I q (by simp))
  | bl j=>cases ry;exact PySem.EqNone.eq_none_bool (Yp I q (by simp))
  | int j=>obtain ⟨t',rfl⟩:=ry;exact PySem.EqNone.eq_none_int (Yp I q (by simp))
  | str j=>obtain ⟨t',rfl⟩:=ry;exact PySem.EqNone.eq_none_str (Yp I q (by simp))
  | _=>exact absurd (show false=true from hs) Bool.false_ne_true
 | bl i =>
  cases rx
  cases y with
  | non=>cases ry;exact PySem.EqNone.eq_bool_none (Yp I q (by simp))
  | bl j=>cases ry;exact eq_bool (Yp I q Ud)
  | str j=>obtain ⟨t',rfl⟩:=ry;exact PySem.EqMixed.eq_bool_str (Yp I q (by simp))
  | _=>exact absurd (show false=true from hs) Bool.false_ne_true
 | int i =>
  obtain ⟨t,rfl⟩:=rx
  cases y with
  | non=>cases ry;exact PySem.EqNone.eq_int_none (Yp I q (by simp))
  | int j=>obtain ⟨t',rfl⟩:=ry;exact eq_int (Yp I q Vo)
  | str j=>obtain ⟨t',rfl⟩:=ry;exact PySem.EqMixed.eq_int_str (Yp I q (by simp))
  | _=>exact absurd (show false=true from hs) Bool.false_ne_true
 | str i =>
  obtain ⟨t,rfl⟩:=rx
  cases y with
  | non=>cases ry;exact PySem.EqNone.eq_str_none (Yp I q (by simp))
  | bl j=>cases ry;exact PySem.EqMixed.eq_str_bool (Yp I q (by simp))
  | int j=>obtain ⟨t',rfl⟩:=ry;exact PySem.EqMixed.eq_str_int (Yp I q (by simp))
  | str j=>obtain ⟨t',rfl⟩:=ry;exact eq_str (Yp I q Vp)
  | _=>exact absurd (show false=true from hs) Bool.false_ne_true
 | byt i =>
  obtain ⟨t,rfl⟩:=rx
  cases y with
  | byt j=>obtain ⟨t',rfl⟩:=ry;exact PySem.W.eq_bytes (Yp I q Vq)
  | _=>exact absurd (show false=true from hs) Bool.false_ne_true
 | _=>cases y<;>exact absurd (show false=true from hs) Bool.false_ne_true
theorem Qd:OpR X (compareOp .NotEq) rNe:=by
 intro pins s σ H x y v u Q I rx ry h
 obtain ⟨hs,q⟩:=h
 cases x with
 | non =>
  cases rx
  cases y with
  | non=>cases ry;exact PySem.EqNone.ne_none_none (Yp I q (by simp))
  | bl j=>cases ry;exact PySem.EqNone.ne_none_bool (Yp I q (by simp))
  | int j=>obtain ⟨t',rfl⟩:=ry;exact PySem.EqNone.ne_none_int (Yp I q (by simp))
  | str j=>obtain ⟨t',rfl⟩:=ry;exact PySem.EqNone.ne_none_str (Yp I q (by simp))
  | _=>exact absurd (show false=true from hs) Bool.false_ne_true
 | bl i =>
  cases rx
  cases y with
  | non=>cases ry;exact PySem.EqNone.ne_bool_none (Yp I q (by simp))
  | bl j=>cases ry;exact ne_bool (Yp I q (congrArg not Ud))
  | str j=>obtain ⟨t',rfl⟩:=ry;exact PySem.EqMixed.ne_bool_str (Yp I q (by simp))
  | _=>exact absurd (show false=true from hs) Bool.false_ne_true
 | int i =>
  obtain ⟨t,rfl⟩:=rx
  cases y with
  | non=>cases ry;exact PySem.EqNone.ne_int_none (Yp I q (by simp))
  | int j=>obtain ⟨t',rfl⟩:=ry;exact ne_int (Yp I q (congrArg not Vo))
  | str j=>obtain ⟨t',rfl⟩:=ry;exact PySem.EqMixed.ne_int_str (Yp I q (by simp))
  | _=>exact absurd (show false=true from hs) Bool.false_ne_true
 | str i =>
  obtain ⟨t,rfl⟩:=rx
  cases y with
  | non=>cases ry;exact PySem.EqNone.ne_str_none (Yp I q (by simp))
  | bl j=>cases ry;exact PySem.EqMixed.ne_str_bool (Yp I q (by simp))
  | int j=>obtain ⟨t',rfl⟩:=ry;exact PySem.EqMixed.ne_str_int (Yp I q (by simp))
  | str j=>obtain ⟨t',rfl⟩:=ry;exact ne_str (Yp I q (congrArg not Vp))
  | _=>exact absurd (show false=true from hs) Bool.false_ne_true
 | byt i =>
  obtain ⟨t,rfl⟩:=rx
  cases y with
  | byt j=>obtain ⟨t',rfl⟩:=ry;exact PySem.W.ne_bytes (Yp I q (congrArg not Vq))
  | _=>exact absurd (show false=true from hs) Bool.false_ne_true
 | _=>cases y<;>exact absurd (show false=true from hs) Bool.false_ne_true
theorem WM:OpR X (compareOp .Lt) (rI0 fun i j => .bl (decide (i<j))):=opB0 fun _ _ _ _ _ _ _ q=>lt_int q
theorem Qe:OpR X (compareOp .GtE) (rI0 fun i j => .bl (decide (j≤i))):=opB0 fun _ _ _ _ _ _ _ q=>ge_int q
theorem Ue:OpR X (compareOp .Is) (fun x y H Q=>y = .non∧Q (.bl (decide (x = .non))) H):=by
 intro pins s σ H x y v u Q I rx ry h
 obtain ⟨rfl,q⟩:=h
 cases ry
 refine is_none_gen (Yp I q ?_)
 cases x<;>first
  | (cases rx;rfl)
  | (obtain ⟨t,rfl⟩:=rx;rfl)
theorem Yq (b:Expr) {op:CmpOp} (h:op ≠ .In:=by decide) (h2:op ≠ .NotIn:=by decide):behindInMarks op b=false:=by
 have e1:(op==CmpOp.In)=false:=by cases op<;>first | rfl | exact absurd rfl h
 have e2:(op==CmpOp.NotIn)=false:=by cases op<;>first | rfl | exact absurd rfl h2
 cases b<;>simp [behindInMarks,e1,e2]
theorem Vr {op:CmpOp} {r:R2} (ho:OpR X (compareOp op) r) (ha:PE X a ta) (hb:PE X b tb) (hm:behindInMarks op b=false):PE X (.Compare a [op] [b] pos) (tOp r ta tb):=by
 intro pins s σ H Q I h
 exact wpAny_Compare1 (binT ha hb I h fun v u s2 x y H2 I2 rx ry q=>ho pins s2 σ H2 x y v u Q I2 rx ry q) hm
def Qf (t:TE):TT:=fun σ H Q=>t σ H fun x H'=>∃ k,x = .bl k∧Q k H'
theorem Yo {op:CmpOp} {r:R2} (ho:OpR X (compareOp op) r) (ha:PE X a ta) (hb:PE X b tb) (hm:behindInMarks op b=false):PT X (.Compare a [op] [b] pos) (Qf (tOp r ta tb)):=by
 intro pins s σ H Q I h
 refine wpAny_isTrue_Compare1 (thn (ha pins s σ H _ I h) fun v s1 ⟨x,H1,I1,r1,q1⟩=>thn (hb pins s1 σ H1 _ I1 q1) fun u s2 ⟨y,H2,I2,r2,q2⟩ =>
  thn (ho pins s2 σ H2 x y v u _ I2 r1 r2 q2) fun c s3 ⟨z,H3,I3,r3,k,e,q3⟩=>?_) hm
 subst e
 cases r3
 exact wpAny_truthy_bool ⟨H3,I3,q3⟩
def Q0 (r r':R2) (ta tb tc:TE):TE:=fun σ H Q=>ta σ H fun x H1=>tb σ H1 fun y H2=>r x y H2 fun z H3=>∃ k,z = .bl k ∧
 (if k=true then tc σ H3 fun w' H4=>r' y w' H4 Q else Q (.bl false) H3)
theorem WT:(sizeLine:Nat)<2^63:=by rw [sizeLine_eq];decide
theorem Wc {x:V} {us:List Value} (r:Yj [x] us):∃ u,us=[u]∧Ym x u:=by
 cases r with
 | cons r1 r2=>cases r2;exact ⟨_,rfl,r1⟩
theorem Qg {x y:V} {us:List Value} (r:Yj [x,y] us):∃ u w',us=[u,w']∧Ym x u∧Ym y w':=by
 cases r with
 | cons r1 r2 =>
  cases r2 with
  | cons r3 r4=>cases r4;exact ⟨_,_,rfl,r1,r3⟩
end
end L2
namespace L2
open PySem PySem.Spec PyProof.Rows
structure ObjM (h:Heap) (x dx C:Addr) (mA:Str→Option Value):Prop where
 obj:h.get? x=some (PySem.W.instObj C dx)
 ns:h.Ns1 dx mA
 ne:dx≠x
theorem Uf {h:Heap} {dx:Addr} {mA:Str→Option Value} (n:h.Ns1 dx mA):∃ od,h.get? dx=some od∧∀ name,PySem.W.lookIn name od=some (mA name):=by
 obtain ⟨o,es,ep,ho,hd,hk,_,hm⟩:=n
 refine ⟨o,ho,fun name=>?_⟩
 have e:=hm name
 unfold nsFind findBy at e
 rw [← Array.find?_toList] at e
 unfold PySem.W.lookIn
 rw [hd]
 dsimp only
 split
 ·rename_i y q
  rw [q] at e
  exact congrArg some e
 ·rename_i q
  rw [q] at e
  have a:es.toList.any (·.refKey)=false:=by
   rw [List.any_eq_false]
   intro y hy
   obtain ⟨z,t,hkey⟩:=hk y (Array.mem_toList_iff.mp hy)
   simp [DictEntry.refKey,hkey]
  have a':¬ es.toList.any (·.refKey)=true:=by rw [a];exact Bool.false_ne_true
  rw [if_neg a']
  exact congrArg some e
theorem ObjM.look {h:Heap} {x dx C:Addr} {mA:Str→Option Value} (I:ObjM h x dx C mA):∃ od,PySem.W.InstAt h x (PySem.W.instObj C dx) C (some od)∧∀ name,PySem.W.lookIn name od=some (mA name) :=
 let ⟨od,ho,hl⟩:=Uf I.ns
 ⟨od,⟨I.obj,rfl,rfl,ho⟩,hl⟩
section
variable {prog:Program} {w:World} {A:Around} {E:Value→Shared→Prop} {s:Shared} {K:PySem.W.Frag} {x dx C f:Addr} {mA:Str→Option Value} {name:Str} {v:Value}
end
def Xc (f:Str) (v:V):List (Str×V)→List (Str×V)
 | []=>[(f,v)]
 | (g,x)::r=>if g=f then (g,v)::r else (g,x)::Xc f v r
theorem X2 (f g:Str) (v:V):∀ fs:List (Str×V),(Xc f v fs).lookup g=if g=f then some v else fs.lookup g
 | []=>by
  show List.lookup g [(f,v)]=_
  by_cases h:g=f
  ·have hb:(g==f)=true:=beq_iff_eq.mpr h
   simp only [List.lookup,hb,if_pos h]
  ·have hb:(g==f)=false:=beq_eq_false_iff_ne.mpr h
   simp only [List.lookup,hb,if_neg h]
 | (k,x)::r=>by
  have ih:=X2 f g v r
  rw [show Xc f v ((k,x)::r)=(if k=f then (k,v)::r else (k,x)::Xc f v r) from rfl]
  by_cases hk:k=f
  ·rw [if_pos hk]
   by_cases h:g=k
   ·have hb:(g==k)=true:=beq_iff_eq.mpr h
    simp only [List.lookup,hb,if_pos (h.trans hk)]
   ·have hb:(g==k)=false:=beq_eq_false_iff_ne.mpr h
    simp only [List.lookup,hb,if_neg (fun e:g=f=>h (e.trans hk.symm))]
  ·rw [if_neg hk]
   by_cases h:g=k
   ·have hb:(g==k)=true:=beq_iff_eq.mpr h
    simp only [List.lookup,hb,if_neg (fun e:g=f=>hk (h.symm.trans e))]
   ·have hb:(g==k)=false:=beq_eq_false_iff_ne.mpr h
    simp only [List.lookup,hb]
    exact ih
theorem XQ (f:Str) (v:V):∀ fs:List (Str×V),f∈(Xc f v fs).map (·.1)∧∀ g,g∈fs.map (·.1)→g∈(Xc f v fs).map (·.1)
 | []=>⟨by simp [Xc],fun g h=>by simp at h⟩
 | (k,x)::r=>by
  obtain ⟨i1,i2⟩:=XQ f v r
  rw [show Xc f v ((k,x)::r)=(if k=f then (k,v)::r else (k,x)::Xc f v r) from rfl]
  by_cases hk:k=f
  ·rw [if_pos hk]
   subst hk
   exact ⟨by simp,fun g h=>by simpa using h⟩
  ·rw [if_neg hk]
   refine ⟨?_,fun g h=>?_⟩
   ·rw [List.map_cons]
    exact List.mem_cons_of_mem _ i1
   ·rw [List.map_cons] at h ⊢
    rcases List.mem_cons.mp h with e | e
    ·exact List.mem_cons.mpr (.inl e)
    ·exact List.mem_cons_of_mem _ (i2 g e)
theorem XD.some_of {v:V} {o:Option Value} (r:XD (some v) o):∃ u,o=some u∧Ym v u:=by
 cases o with
 | none=>exact (show False from r).elim
 | some u=>exact ⟨u,rfl,r⟩
theorem Ug {v:V} {u:Value} (r:Ym v u):PySem.W.handedIn u=true:=by
 cases v with
 | non=>cases (show u=Value.none from r);rfl
 | bl b=>cases (show u=Value.bool b from r);rfl
 | int i=>obtain ⟨t,e⟩:=(show ∃ t,u=Value.int i t from r);cases e;rfl
 | str x=>obtain ⟨t,e⟩:=(show ∃ t,u=Value.str x t from r);cases e;rfl
 | byt b=>obtain ⟨t,e⟩:=(show ∃ t,u=Value.bytes b t from r);cases e;rfl
 | flt b=>obtain ⟨t,e⟩:=(show ∃ t,u=Value.float b t from r);cases e;rfl
 | ref a=>cases (show u=Value.ref a from r);rfl
 | ty n=>cases (show u=Value.type n from r);rfl
section
variable {P:Program} {w:World} {H H':Hp} {h h':Heap} {a C dx:Addr} {fs fs':List (Str×V)}
theorem Vs (hok:HOk P w H h) (e:H a=some (.ins C dx fs)):∃ mA,ObjM h a dx C mA∧(∀ f,XD (fs.lookup f) (mA f))∧PySem.Within mA (fs.map (·.1))∧fs.length≤1000∧H dx=some (.own a):=by
 obtain ⟨d,z,ne,ob,mA,n,r,q⟩:=(show Ys P w H h a (.ins C dx fs) from hok a _ e)
 exact ⟨mA,⟨ob,n,ne⟩,r,q,z,d⟩
end
structure Cls (K:PySem.W.Frag) (C:Addr):Prop where
 pg:PySem.W.plainGet K C Str.empty=true
 hd:PySem.W.hasDictIn K C=true
 po:PySem.W.plainOver K C=true
 sa:PySem.W.findIn K (.ref C) "__setattr__"=some (some (.builtin "object.__setattr__"))
theorem Cls.get {K:PySem.W.Frag} {C:Addr} (c:Cls K C) (f:Str):PySem.W.plainGet K C f=true:=c.pg
def Uh (K:PySem.W.Frag) (C:Addr) (f:Str):Prop:=PySem.W.findIn K (.ref C) f=some none
structure Meth (K:PySem.W.Frag) (C:Addr) (m:Str) (f:Addr):Prop where
 at_:PySem.W.findIn K (.ref C) m=some (some (.ref f))
 fn:PySem.W.isFn K (.ref f)=true
 kp:PySem.W.keepIn K (.ref f)=true
section
variable {X:Cx} {pins:List (Addr×Obj)} {σ:St} {H:Hp} {s:Shared} {a C dx:Addr} {fs:List (Str×V)} {f:Str} {v:V} {A:Around} {E:Value→Shared→Prop}
theorem Qs {prog:Program} {w:World} {env:Env} {e:Expr} {f:Str} {pos:Pos} {s:Shared} {Q:Value→Shared→Prop} (hb:attributeBase e f env (eval e env)=eval e env)
  (h:wpAny (model prog w) A (eval e env) (fun o s₁=>wpAny (model prog w) A (getAttr o f true) Q E s₁) E s):wpAny (model prog w) A (eval (.Attribute e f pos) env) Q E s :=
 Attribute_any_ h (by rw [arm_eval_Attribute,hb])
end
def tFld (K:PySem.W.Frag) (ta:TE) (f:Str):TE:=fun σ H Q=>ta σ H fun x H1=>∃ a C dx fs v,x = .ref a∧H1 a=some (.ins C dx fs)∧Cls K C∧Uh K C f∧fs.lookup f=some v∧Q v H1
def sFld (K:PySem.W.Frag) (ta tv:TE) (f:Str):TS:=fun D σ H=>tv σ H fun y H1=>ta σ H1 fun x H2=>∃ a C dx fs,x = .ref a∧H2 a=some (.ins C dx fs)∧Cls K C∧Uh K C f∧fs.length<1000 ∧
 D.nx σ (upd H2 a (.ins C dx (Xc f y fs)))
section
variable {X:Cx} {o e value:Expr} {f:Str} {pos pos' tpos:Pos} {ta tv:TE}
end
section
variable {X:Cx} {pins:List (Addr×Obj)} {σ:St} {H:Hp} {s:Shared} {A:Around} {E:Value→Shared→Prop} {Q:Value→Shared→Prop} {c:Value} {b:Bool}
inductive TyOf (K:PySem.W.Frag) (H:Hp):V→Value→Prop where
 | non:TyOf K H .non (.type "NoneType")
 | bl (x:Bool):TyOf K H (.bl x) (.type "bool")
 | int (i:Int):TyOf K H (.int i) (.type "int")
 | str (x:Str):TyOf K H (.str x) (.type "str")
 | flt (x:UInt64):TyOf K H (.flt x) (.type "float")
 | lst {a:Addr} {xs:List V} (e:H a=some (.lst xs)):TyOf K H (.ref a) (.type "list")
 | frz {a:Addr} {o:Obj} {xs:List V} (e:H a=some (.frz o (.lst xs))):TyOf K H (.ref a) (.type "list")
 | tup {a:Addr} {xs:List V} (e:H a=some (.tup xs)):TyOf K H (.ref a) (.type "tuple")
 | dK {a:Addr} {kvs:List (Key×V)} (e:H a=some (.dK kvs)):TyOf K H (.ref a) (.type "dict")
 | dT {a:Addr} {kvs:List (List Key×V)} (e:H a=some (.dT kvs)):TyOf K H (.ref a) (.type "dict")
 | ins {a C dx:Addr} {fs:List (Str×V)} (e:H a=some (.ins C dx fs)) (cl:Cls K C) (ha:PySem.W.findIn K (.ref C) "__class__"=some (some (.builtin "object.__class__")))
   (hn:PySem.W.specialIn K (.builtin "object.__class__") "__get__"=some (some (.builtin "getset_descriptor.__get__"))) (htk:PySem.W.takesIn K (.builtin "object.__class__")=some true)
   (hm:PySem.W.mroIn K C (.type "object")=some true):TyOf K H (.ref a) (.ref C)
theorem Ui {x:V} {u t:Value} (I:Inv X pins σ H s) (rx:Ym x u) (ty:TyOf X.K H x t) (e:PySem.W.kitOne X.K t c=some b) (h:∀ tk,Q (.bool b) { s with toks:=tk }) :
  wpAny (model X.prog X.w) A (call (.builtin "isinstance") [u,c]) Q E s:=by
 cases ty with
 | non=>cases (show u=Value.none from rx);exact PySem.W.kia_one PySem.W.kitx_none I.kIn True.intro e (fun z=>nomatch z) h
 | bl y=>cases (show u=Value.bool y from rx);exact PySem.W.kia_one PySem.W.kitx_bool I.kIn True.intro e (fun z=>nomatch z) h
 | int i=>obtain ⟨t,q⟩:=(show ∃ t,u=Value.int i t from rx);cases q;exact PySem.W.kia_one PySem.W.kitx_int I.kIn True.intro e (fun z=>nomatch z) h
 | str y=>obtain ⟨t,q⟩:=(show ∃ t,u=Value.str y t from rx);cases q;exact PySem.W.kia_one PySem.W.kitx_str I.kIn True.intro e (fun z=>nomatch z) h
 | flt y=>obtain ⟨t,q⟩:=(show ∃ t,u=Value.float y t from rx);cases q;exact PySem.W.kia_one PySem.W.kitx_float I.kIn True.intro e (fun z=>nomatch z) h
 | @lst a xs ea =>
  cases (show u=Value.ref a from rx)
  obtain ⟨_,_,n,_,h1⟩:=(show Ys X.prog X.w H s.heap a (.lst xs) from I.hok a _ ea)
  exact PySem.W.kia_one PySem.W.kitx_list I.kIn ⟨_,h1,rfl⟩ e (fun z=>nomatch z) h
 | @frz a ob xs ea =>
  cases (show u=Value.ref a from rx)
  obtain ⟨_,_,_,n,_,h1⟩:=(show Ys X.prog X.w H s.heap a (.frz ob (.lst xs)) from I.hok a _ ea)
  exact PySem.W.kia_one PySem.W.kitx_list I.kIn ⟨_,h1,rfl⟩ e (fun z=>nomatch z) h
 | @tup a xs ea =>
  cases (show u=Value.ref a from rx)
  obtain ⟨_,_,_,p⟩:=(show Ys X.prog X.w H s.heap a (.tup xs) from I.hok a _ ea)
  obtain ⟨o,h1,h2,_⟩:=p
  exact PySem.W.kia_one PySem.W.kitx_tuple I.kIn ⟨o,h1,h2⟩ e (fun z=>nomatch z) h
 | @dK a kvs ea =>
  cases (show u=Value.ref a from rx)
  obtain ⟨_,_,vs,_,p⟩:=(show Ys X.prog X.w H s.heap a (.dK kvs) from I.hok a _ ea)
  obtain ⟨o,es,ep,h1,h2,_⟩:=p
  exact PySem.W.kia_one PySem.W.kitx_dict I.kIn ⟨o,h1,h2.1⟩ e (fun z=>nomatch z) h
 | @dT a kvs ea =>
  cases (show u=Value.ref a from rx)
  obtain ⟨_,_,xs,_,o,es,ep,h1,h2,_⟩:=(show Ys X.prog X.w H s.heap a (.dT kvs) from I.hok a _ ea)
  exact PySem.W.kia_one PySem.W.kitx_dict I.kIn ⟨o,h1,h2.1⟩ e (fun z=>nomatch z) h
 | @ins a C dx fs ea cl ha hn htk hm =>
  cases (show u=Value.ref a from rx)
  obtain ⟨mA,O,_⟩:=Vs I.hok ea
  obtain ⟨od,J,_⟩:=O.look
  exact PySem.W.kia_one (PySem.W.kitx_own (cl.get _) cl.hd ha hn htk hm) I.kIn J e (fun z=>nomatch z) h
end
end L2
namespace L2
open PySem PySem.Spec PyProof.Rows
structure Room (k:Nat) (A:Around):Prop where
 hd:A.handled=none
 dp:A.depth+3*k+5<recursionLimit
 un:A.units+16*k+200<cLine
 gd:A.guards=some []
theorem Room.mono {j k:Nat} {A:Around} (r:Room k A) (h:j≤k):Room j A:=⟨r.hd,by have:=r.dp;omega,by have:=r.un;omega,r.gd⟩
theorem Room.deeper {k:Nat} {A:Around} (r:Room (k+1) A) (env:Env):Room k (A.deeper env) :=
 ⟨r.hd,by have:=r.dp;show A.depth+1+3*k+5<_;omega,by have:=r.un;show A.units+3+16*k+200<_;omega,r.gd⟩
theorem Room.in1 {k:Nat} {A:Around} (r:Room (k+1) A):Room k A.in1 :=
 ⟨r.hd,by have:=r.dp;show A.depth+3*k+5<_;omega,by have:=r.un;show A.units+1+16*k+200<_;omega,r.gd⟩
theorem VN {A:Around} {C:Addr} {us:List Value} {kw:List (Str×Value)}:(A.under (.builtin "type.__call__" ⟨.ref C::us,kw⟩)).depth=A.depth+1:=by
 first | rfl | simp [Around.under,Code.weight,Code.isCreation,Code.isGuard,Code.isCaller,Code.frames,Code.isFrame,guardIds]
theorem VO {A:Around} {C:Addr} {us:List Value} {kw:List (Str×Value)}:(A.under (.builtin "type.__call__" ⟨.ref C::us,kw⟩)).units=A.units+1:=by
 first | rfl | simp [Around.under,Code.cUnits,Code.frames,Code.isFrame]
theorem Room.make {k:Nat} {A:Around} (r:Room (k+1) A) (C:Addr) (us:List Value) (kw:List (Str×Value)):Room k (A.under (.builtin "type.__call__" ⟨.ref C::us,kw⟩)) :=
 ⟨r.hd,by have:=r.dp;rw [VN];omega,by have:=r.un;rw [VO];omega,by first | exact r.gd | simpa [Around.under,Code.isGuard,Code.isFrame,guardIds] using r.gd⟩
theorem Room.depth {k:Nat} {A:Around} (r:Room k A):A.depth<recursionLimit:=by have:=r.dp;omega
theorem Room.units {k:Nat} {A:Around} (r:Room k A):A.units+64<cLine:=by have:=r.un;omega
def tNil:TA:=fun _ H Q=>Q [] H
def WN (ta:TE) (tr:TA):TA:=fun σ H Q=>ta σ H fun x H1=>tr σ H1 fun xs H2=>Q (x::xs) H2
section
variable {X:Cx} {e:Expr} {es:List Expr} {te:TE} {t:TA} {pos:Pos}
theorem Yb:PA X [] tNil:=fun _ _ _ _ H Q I h=>Calls.spliced_nil ⟨[],H,I,.nil,h⟩
theorem Ya (ha:PE X e te) (hr:PA X es t) (hs:starEach (e::es) X.env=(false,eval e X.env)::starEach es X.env:=by rfl):PA X (e::es) (WN te t):=by
 intro pos pins s σ H Q I h
 rw [hs]
 show wpAny _ _ (spliced ((false,eval e X.env)::backTo pos (starEach es X.env))) _ _ s
 refine Calls.spliced_cons (thn (ha pins s σ H _ I h) fun u s1 ⟨x,H1,I1,r1,q1⟩=>?_)
 exact thn (hr pos pins s1 σ H1 _ I1 q1) fun us s2 ⟨xs,H2,I2,r2,q2⟩=>⟨x::xs,H2,I2,.cons r1 r2,q2⟩
def tTup (t:TA):TE:=fun σ H Q=>t σ H fun xs H1=>xs.length≤sizeLine∧∀ p,H1 p=none→Q (.ref p) (upd H1 p (.tup xs))
def tLst (t:TA):TE:=fun σ H Q=>t σ H fun xs H1=>xs.length≤sizeLine∧∀ p,H1 p=none→Q (.ref p) (upd H1 p (.lst xs))
theorem Yx {x1} (h:PA X es t):PE X (.Tuple es x1 pos) (tTup t):=by
 intro pins s σ H Q I hq
 refine wpAny_Tuple_spliced (thn (h pos pins s σ H _ I hq) fun us s1 ⟨xs,H1,I1,r,z,q⟩=>⟨by rw [← r.length];exact z,?_⟩)
 have hf:H1 s1.heap.objs.size=none:=I1.hok.fresh (Nat.le_refl _)
 refine ⟨.ref s1.heap.objs.size,upd H1 s1.heap.objs.size (.tup xs),I1.laid (t':=s1.toks) (fun b u e=>Heap.get?_push_of_some _ e) (Nat.le_refl _) ?_,rfl,q _ hf⟩
 exact ⟨z,us,r,⟨_,Heap.get?_push_size _ rfl,rfl,_,rfl⟩⟩
theorem YU (h:PA X es t):PE X (.List es pos) (tLst t):=by
 intro pins s σ H Q I hq
 refine wpAny_List_spliced (thn (h pos pins s σ H _ I hq) fun us s1 ⟨xs,H1,I1,r,z,q⟩=>⟨by rw [← r.length];exact z,?_⟩)
 have hf:H1 s1.heap.objs.size=none:=I1.hok.fresh (Nat.le_refl _)
 refine ⟨.ref s1.heap.objs.size,upd H1 s1.heap.objs.size (.lst xs),I1.laid (t':=s1.toks) (fun b u e=>Heap.get?_push_of_some _ e) (Nat.le_refl _) ?_,rfl,q _ hf⟩
 exact ⟨z,us,0,r,Heap.get?_push_size _ rfl⟩
end
abbrev Sp:=List V→Hp→VK→XK→Prop
abbrev CXT:=List Env→Hp→Shared→XK→Value→Shared→Prop
structure Env0 (P:Program) (w:World) (K:PySem.W.Frag) (mg:Str→Option Value) (base:Heap) (A:Around) (outer:List Env) (s:Shared) (H:Hp):Prop where
 frames:A.frames=some outer
 mod:Mod K mg base
 bs:∀ b o,base.get? b=some o→s.heap.get? b=some o∧H b=none
 bsz:base.objs.size≤s.heap.objs.size
 funs:s.heap.FunFrames base outer
 frf:∀ b∈frs outer,H b=none
 hok:HOk P w H s.heap
 bare:AllBare s.gens
def CE (outer:List Env) (P:Program) (w:World) (H:Hp) (s:Shared) (Q:VK) (u:Value) (s':Shared):Prop :=
 ∃ v H',s'.os=s.os∧AllBare s'.gens∧Un (frs outer) [] H H' s.heap s'.heap∧HOk P w H' s'.heap∧Ym v u∧Q v H'
def CR (CX:CXT) (outer:List Env) (P:Program) (w:World) (H:Hp) (s:Shared) (Q:VK) (E:XK) (r:Result) (s':Shared):Prop :=
 match r with
 | .ok (.ret u)=>CE outer P w H s Q u s'
 | .ok _=>False
 | .error e=>CX outer H s E e s'
structure FnOk (P:Program) (w:World) (K:PySem.W.Frag) (mg:Str→Option Value) (base:Heap) (CX:CXT) (k:Nat) (f:Addr) (fd:FuncData) (ps:List Str) (sp:Sp):Prop where
 len:∀ vs H Q E,sp vs H Q E→vs.length=ps.length
 run:∀ (A:Around) (outer:List Env) (s:Shared) (H:Hp) (args:Args) (us:List Value) (vs:List V) (Q:VK) (E:XK),Room k A→Env0 P w K mg base A outer s H→BindsTo s fd args (ps.zip us)→Yj vs us→sp vs H Q E →
  codeAny (model P w) A (.call (.ref f) args) (CR CX outer P w H s Q E) s
theorem FnOk.mono {P:Program} {w:World} {K:PySem.W.Frag} {mg:Str→Option Value} {base:Heap} {CX:CXT} {j k:Nat} {f:Addr} {fd:FuncData} {ps:List Str} {sp:Sp} (F:FnOk P w K mg base CX j f fd ps sp) (h:j≤k) :
  FnOk P w K mg base CX k f fd ps sp:=⟨F.len,fun A outer s H args us vs Q E hr=>F.run A outer s H args us vs Q E (hr.mono h)⟩
theorem Env0.make {P:Program} {w:World} {K:PySem.W.Frag} {mg:Str→Option Value} {base:Heap} {A:Around} {outer:List Env} {s:Shared} {H:Hp} (e:Env0 P w K mg base A outer s H) (C:Addr) (us:List Value) (kw:List (Str×Value)) :
  Env0 P w K mg base (A.under (.builtin "type.__call__" ⟨.ref C::us,kw⟩)) outer s H:=⟨by first | exact e.frames | (simpa [Around.under,Code.envs,Code.isFrame,pushEnvs] using e.frames),e.mod,e.bs,e.bsz,e.funs,e.frf,e.hok,e.bare⟩
theorem Env0.in1 {P:Program} {w:World} {K:PySem.W.Frag} {mg:Str→Option Value} {base:Heap} {A:Around} {outer:List Env} {s:Shared} {H:Hp} (e:Env0 P w K mg base A outer s H) :
  Env0 P w K mg base A.in1 outer s H:=⟨e.frames,e.mod,e.bs,e.bsz,e.funs,e.frf,e.hok,e.bare⟩
section
variable {X:Cx} {pins:List (Addr×Obj)} {σ:St} {H:Hp} {s s':Shared}
theorem Inv.env0 (I:Inv X pins σ H s):Env0 X.prog X.w X.K X.mg X.base X.A X.stack s H :=
 ⟨I.ok.frames,I.ok.mod,I.bs,Nat.le_trans I.ok.bsz I.sz,I.stack,I.stkFree,I.hok,I.bare⟩
theorem Inv.after {Q:VK} {u:Value} (I:Inv X pins σ H s) (h:CE X.stack X.prog X.w H s Q u s'):EP X pins σ Q u s':=by
 obtain ⟨v,H',os,bare,un,hok,r,q⟩:=h
 obtain ⟨hh,g,d,t,os'⟩:=s'
 obtain rfl:os'=s.os:=os
 exact ⟨v,H',I.call (h':=hh) (g':=g) (d':=d) (t':=t) (ch:=[]) un hok bare (fun b z=>absurd z (by simp)),r,q⟩
end
def WO (sp:Sp) (dvs:List V) (E:XK) (t:TA):TE:=fun σ H Q=>t σ H fun vs H1=>sp (vs++dvs) H1 Q E
def tMeth (C:Addr) (m:Str) (sp:Sp) (dvs:List V) (E:XK) (ta:TE) (t:TA):TE:=fun σ H Q=>ta σ H fun x H1=>∃ a dx fs,x = .ref a∧H1 a=some (.ins C dx fs)∧fs.lookup m=none ∧
 t σ H1 fun vs H2=>sp (x::(vs++dvs)) H2 Q E
def tMake (C:Addr) (sp:Sp) (dvs:List V) (E:XK) (t:TA):TE:=fun σ H Q=>t σ H fun vs H1=>∀ x dx,H1 x=none→H1 dx=none→dx≠x →
 sp (.ref x::(vs++dvs)) (upd (upd H1 dx (.own x)) x (.ins C dx [])) (fun v H2=>v = .non∧Q (.ref x) H2) E
def YQ (K:PySem.W.Frag) (fd:FuncData) (ps:List Str) (ds:List Value):Prop :=
 ∀ (s:Shared) (us:List Value),K.In s.heap→(us++ds).length=ps.length→BindsTo s fd ⟨us,[]⟩ (ps.zip (us++ds))
theorem YQ.all {K:PySem.W.Frag} {fd:FuncData} {ps:List Str} (h:∀ us:List Value,us.length=ps.length→bindArgs fd ⟨us,[]⟩=pure (ps.zip us)):YQ K fd ps []:=fun s us _ hl=>by
 rw [List.append_nil] at hl ⊢
 exact .of_eq (h us hl)
def Xx (CX:CXT) (X:Cx) (E:XK):Prop:=∀ (pins:List (Addr×Obj)) (σ:St) (H:Hp) (s:Shared) (e:Value) (s':Shared),Inv X pins σ H s→CX X.stack H s E e s'→X.xe e s'
section
variable {X:Cx} {CX:CXT} {k:Nat} {f C:Addr} {fd:FuncData} {ps:List Str} {sp:Sp} {dvs:List V} {ds:List Value} {E:XK} {x m:Str} {p pos apos:Pos} {e o:Expr} {es:List Expr} {ta:TE} {t:TA}
theorem Uj {pins:List (Addr×Obj)} {σ:St} {H:Hp} {s:Shared} {Q:VK} {us:List Value} {vs:List V} (F:FnOk X.prog X.w X.K X.mg X.base CX k f fd ps sp) (hr:Room k X.A) (hb:YQ X.K fd ps ds) (hd:Yj dvs ds) (hx:Xx CX X E)
  (I:Inv X pins σ H s) (r:Yj vs us) (h:sp (vs++dvs) H Q E):wpAny (model X.prog X.w) X.A (call (.ref f) us) (EP X pins σ Q) X.xe s:=by
 have r2:Yj (vs++dvs) (us++ds):=r.append hd
 have hl:(us++ds).length=ps.length:=by rw [← r2.length];exact F.len _ _ _ _ h
 refine wpAny_call (codeAny_mono (F.run X.A X.stack s H ⟨us,[]⟩ (us++ds) (vs++dvs) Q E hr I.env0 (hb s us I.kIn hl) r2 h) fun r s' hq=>?_)
 cases r with
 | error e=>exact hx pins σ H s e s' I hq
 | ok fl =>
  cases fl with
  | ret u=>exact I.after hq
  | next=>exact False.elim hq
  | brk=>exact False.elim hq
  | cont=>exact False.elim hq
theorem Vt (F:FnOk X.prog X.w X.K X.mg X.base CX k f fd ps sp) (hr:Room k X.A) (hg:Gl X x) (hm:X.mg x=some (.ref f)) (hk:PySem.W.keepIn X.K (.ref f)=true) (hb:YQ X.K fd ps ds) (hd:Yj dvs ds) (hx:Xx CX X E)
  (ha:PA X (e::es) t) (hdb:(x==("__debug__":Str))=false:=by decide) (he:starEach (e::es) X.env=(false,eval e X.env)::starEach es X.env:=by rfl) (hpl:(backTo pos (starEach es X.env)).any (·.1)=false:=by rfl) :
  PE X (.Call (.Name x p) (e::es) [] pos) (WO sp dvs E t):=by
 intro pins s σ H Q I h
 refine wpAny_Call_Name_kw (Xw I hg hm ?_ hdb)
 refine PySem.W.callWith_K (h₀:=X.base) I.ok.mod.kin hk (thn (ha pos pins s σ H _ I h) fun us s1 ⟨vs,H1,I1,r,q⟩=>⟨I1.kIn,?_⟩) he hpl
 exact Uj F hr hb hd hx I1 r q
end
section
variable {X:Cx} {CX:CXT} {k:Nat} {f C:Addr} {fd:FuncData} {ps ks:List Str} {sp:Sp} {E:XK} {x m:Str} {p pos apos kpos:Pos} {e o:Expr} {es:List Expr} {kws:List Keyword} {te ta:TE} {t tk:TA} {nm:Option Str}
variable {g:List Value→List Value→List Value} {gV:List V→List V→List V}
end
structure FnScope (N P:List Str) (sc:Scope):Prop where
 kind:sc.kind = .function
 co:sc.isCoroutine=false
 gen:sc.isGenerator=false
 nd:N.Nodup
 pre:N.take P.length=P
 par:∀ x∈P,sc.names.lookup x=some .local∨sc.names.lookup x=some .cell
 nofree:∀ y∈sc.names,y.2 ≠ .free
theorem Wy {kindOf:Str→Option NameKind} {x:Str}:∀ {binds:List (Str×Value)} {m:Str→Option Value},(∀ v,(x,v)∉binds)→bindL kindOf binds m x=m x
 | [],_,_=>rfl
 | (n,v)::r,m,h=>by
  unfold bindL
  rw [Wy fun w hw=>h w (List.mem_cons_of_mem _ hw)]
  split
  ·have:x≠n:=by rintro rfl;exact h v List.mem_cons_self
   simp [this]
  ·rfl
theorem Wz {kindOf:Str→Option NameKind} {x:Str}:∀ {binds:List (Str×Value)} {m:Str→Option Value},(∀ v,(x,v)∉binds)→bindC kindOf binds m x=m x
 | [],_,_=>rfl
 | (n,v)::r,m,h=>by
  unfold bindC
  rw [Wz fun w hw=>h w (List.mem_cons_of_mem _ hw)]
  split
  ·rfl
  ·have:x≠n:=by rintro rfl;exact h v List.mem_cons_self
   simp [this]
theorem WA {kindOf:Str→Option NameKind} {x:Str} {v:Value}:∀ {P:List Str} {vs:List Value} {i:Nat} {m:Str→Option Value},P.Nodup→P[i]?=some x→vs[i]?=some v→kindOf x=some .local →
  bindL kindOf (P.zip vs) m x=some v
 | [],_,_,_,_,h,_,_=>by simp at h
 | _::_,[],_,_,_,_,h,_=>by simp at h
 | p::P,w::vs,0,m,nd,h1,h2,hk=>by
  simp at h1 h2;subst h1;subst h2
  show bindL kindOf ((p,w)::P.zip vs) m p=_
  unfold bindL
  rw [Wy fun v hv=>(List.nodup_cons.mp nd).1 (List.of_mem_zip hv).1,if_pos hk]
  simp
 | p::P,w::vs,i+1,m,nd,h1,h2,hk=>by
  show bindL kindOf ((p,w)::P.zip vs) m x=_
  unfold bindL
  exact WA (i:=i) (List.nodup_cons.mp nd).2 (by simpa using h1) (by simpa using h2) hk
theorem WB {kindOf:Str→Option NameKind} {x:Str} {v:Value}:∀ {P:List Str} {vs:List Value} {i:Nat} {m:Str→Option Value},P.Nodup→P[i]?=some x→vs[i]?=some v→kindOf x≠some .local →
  bindC kindOf (P.zip vs) m x=some v
 | [],_,_,_,_,h,_,_=>by simp at h
 | _::_,[],_,_,_,_,h,_=>by simp at h
 | p::P,w::vs,0,m,nd,h1,h2,hk=>by
  simp at h1 h2;subst h1;subst h2
  show bindC kindOf ((p,w)::P.zip vs) m p=_
  unfold bindC
  rw [Wz fun v hv=>(List.nodup_cons.mp nd).1 (List.of_mem_zip hv).1,if_neg hk]
  simp
 | p::P,w::vs,i+1,m,nd,h1,h2,hk=>by
  show bindC kindOf ((p,w)::P.zip vs) m x=_
  unfold bindC
  exact WB (i:=i) (List.nodup_cons.mp nd).2 (by simpa using h1) (by simpa using h2) hk
def YZ (N:List Str) (vs:List V):St:=vs.map some++List.replicate (N.length - vs.length) none
def Xs (CX:CXT) (P:Program) (w:World) (K:PySem.W.Frag) (mg:Str→Option Value) (base:Heap) (N:List Str) (qual:Str) (scope:Scope) (f:Addr) (cd:Value) (A:Around) (outer:List Env) (s:Shared) (H:Hp) (E:XK):Cx where
 prog:=P
 w:=w
 K:=K
 mg:=mg
 base:=base
 A:=A.deeper (envOfC qual scope s.heap.objs.size f cd)
 N:=N
 s₀:=s
 H₀:=H
 env:=envOfC qual scope s.heap.objs.size f cd
 outer:=outer
 stack:=envOfC qual scope s.heap.objs.size f cd::outer
 ex:=[]
 calm:=true
 fn:=fun _=>true
 pn:=[]
 xe:=fun e s'=>wpAny (model P w) (A.deeper (envOfC qual scope s.heap.objs.size f cd)) (leaving (envOfC qual scope s.heap.objs.size f cd) e) (fun _ s''=>CX outer H s E e s'') (fun e' s''=>CX outer H s E e' s'') s'
theorem WU {sc:Scope} {n:Nat} {x:Str} (h:sc.names.lookup x=some .cell):∃ c,(cellsFrom n sc.names []).lookup x=some c:=by
 have q:=PySem.W.cellsFrom_some sc.names n [] (.inl h)
 exact Option.isSome_iff_exists.mp q
theorem Uk {CX:CXT} {P:Program} {w:World} {K:PySem.W.Frag} {mg:Str→Option Value} {base:Heap} {N ps:List Str} {qual:Str} {scope:Scope} {f:Addr} {cd:Value} {A:Around} {outer:List Env} {s s1:Shared} {H:Hp} {E:XK} {us:List Value} {vs:List V}
  (S:FnScope N ps scope) (hd:A.handled=none) (e0:Env0 P w K mg base A outer s H) (hl:vs.length=ps.length) (r:Yj vs us)
  (x:InCallC s s.heap.objs.size (bindL (envOfC qual scope s.heap.objs.size f cd).kindOf (ps.zip us) fun _=>none) (cellsFrom (s.heap.objs.size+1) scope.names []) (bindC (envOfC qual scope s.heap.objs.size f cd).kindOf (ps.zip us) fun _=>none) s1) :
  Inv (Xs CX P w K mg base N qual scope f cd A outer s H E) [] (YZ N vs) H s1:=by
 have hpl:ps.length≤N.length:=by have:=congrArg List.length S.pre;rw [List.length_take] at this;omega
 obtain ⟨h1,tk,rfl,hk⟩:=x.done
 have noA:∀ b:Addr,b∉(Xs CX P w K mg base N qual scope f cd A outer s H E).ex:=fun b z=>absurd (show b∈([]:List Addr) from z) (by simp)
 refine ⟨⟨e0.mod,S.kind,rfl,rfl,Nat.le_refl _,fun y z c h1 h2=>?_,fun y hy=>?_,fun y c _ h=>?_,fun _=>hd,Around.frames_deeper e0.frames,.inr ⟨rfl,rfl⟩,fun b z=>absurd z (noA b),e0.bs,e0.bsz,fun b _ _=>noA b,fun b z=>absurd z (noA b),e0.funs,e0.frf⟩,
  rfl,e0.bare,Un.kept hk,⟨_,x.toInCall.ns,fun i y v h1 h2 h3=>?_⟩,fun y c h=>⟨_,x.cell y c h⟩,e0.hok.fresh (Nat.le_refl _),fun y c h=>?_,fun p hp=>absurd (show p∈([]:List (Addr×Obj)) from hp) (by simp),e0.hok.kept hk,?_⟩
 ·exact name_of_addr x.apart (PySem.mem_of_lookup h1) (PySem.mem_of_lookup h2)
 ·have hy:scope.names.lookup y=some .cell∨scope.names.lookup y=some .free:=hy
  rcases hy with hy | hy
  ·exact WU hy
  ·exact absurd rfl (S.nofree _ (PySem.mem_of_lookup hy))
 ·exact Nat.le_of_lt (x.above y c (PySem.mem_of_lookup h))
 ·have hi:i<vs.length:=by
   unfold YZ at h2
   by_cases hi:i<vs.length
   ·exact hi
   ·rw [List.getElem?_append_right (by simpa using hi)] at h2
    rw [List.getElem?_replicate] at h2
    split at h2<;>cases h2
  have ha:vs[i]?=some v:=by
   unfold YZ at h2
   rw [List.getElem?_append_left (by simpa using hi),List.getElem?_map] at h2
   cases e:vs[i]? with
   | none=>rw [e] at h2;cases h2
   | some a=>rw [e] at h2;cases h2;rfl
  obtain ⟨u,hu,rv⟩:=r.get ha
  have hp:ps[i]?=some y:=by
   rw [← S.pre,List.getElem?_take_of_lt (by omega)];exact h1
  have ndP:ps.Nodup:=by rw [← S.pre];exact S.nd.sublist (List.take_sublist _ _)
  refine ⟨u,rv,?_⟩
  rcases S.par y (List.mem_of_getElem? hp) with k | k
  ·exact .inl ⟨k,WA ndP hp hu k⟩
  ·obtain ⟨c,e⟩:=WU (n:=s.heap.objs.size+1) k
   refine .inr ⟨.inl k,c,e,?_⟩
   have q:=x.cell y c e
   rw [WB ndP hp hu (by show scope.names.lookup y≠_;rw [k];decide)] at q
   exact q
 ·exact e0.hok.fresh (Nat.le_of_lt (x.above y c (PySem.mem_of_lookup h)))
 ·unfold YZ
  show _=N.length
  rw [List.length_append,List.length_map,List.length_replicate]
  omega
theorem Qh {CX:CXT} {P:Program} {w:World} {K:PySem.W.Frag} {mg:Str→Option Value} {base:Heap} {k:Nat} {f:Addr} {name qual:Str} {params:Arguments} {body:List Stmt} {scope:Scope} {dV kV doc pm cdv ct oc:Value} {an od:Option Addr}
  {osl:Array (Option Value)} {N ps:List Str} {sp:Sp} (lk:K.lookup f=some ⟨oc,od,.func (PySem.W.fnOf name qual params body scope dV kV doc pm an cdv ct),osl⟩) (hcd:PySem.W.codeIn K cdv qual=true) (S:FnScope N ps scope)
  (len:∀ vs H Q E,sp vs H Q E→vs.length=ps.length)
  (hbody:∀ (A:Around) (outer:List Env) (s:Shared) (H:Hp) (vs:List V) (Q:VK) (E:XK),Room k (A.deeper (envOfC qual scope s.heap.objs.size f cdv))→sp vs H Q E →
   ∃ t,PSs (Xs CX P w K mg base N qual scope f cdv A outer s H E) body t∧t { nx:=fun _ H'=>Q .non H',rt:=Q } (YZ N vs) H) :
  FnOk P w K mg base CX (k+1) f (PySem.W.fnOf name qual params body scope dV kV doc pm an cdv ct) ps sp:=by
 refine ⟨len,fun A outer s H args us vs Q E hr e0 hb r hsp=>?_⟩
 have hl:=len _ _ _ _ hsp
 have KX:K.In s.heap:=e0.mod.kin.keeps fun b o e=>(e0.bs b o e).1
 have lim:s.heap.NoLimit:=e0.mod.nolimit.keeps fun b o e=>(e0.bs b o e).1
 have hkind:∀ y∈ps.zip us,scope.names.lookup y.1=some .local∨(scope.names.lookup y.1=some .cell∧((cellsFrom (s.heap.objs.size+1) scope.names []).lookup y.1).isSome=true):=fun ⟨n,v⟩ hy=>by
  rcases S.par n (List.of_mem_zip hy).1 with q | q
  ·exact .inl q
  ·exact .inr ⟨q,PySem.W.cellsFrom_some _ _ _ (.inl q)⟩
 refine codeAny_call_function hr.depth (KX _ _ lk) rfl S.co S.gen rfl (PySem.W.codeRec_of KX hcd) (hb _ _ _ _ ?_)
 refine wpAny_newFunctionEnv_cells S.kind hkind fun env he s1 x=>?_
 subst he
 refine ⟨lim.keeps x.toInCall.keep,codeAny_func ?_⟩
 obtain ⟨t,ht,hq⟩:=hbody A outer s H vs Q E (hr.deeper _) hsp
 have I:Inv (Xs CX P w K mg base N qual scope f cdv A outer s H E) [] (YZ N vs) H s1:=Uk S hr.hd e0 hl r x
 refine wpAny_mono (ht [] s1 (YZ N vs) H _ I hq) (fun fl s' hs=>?_) fun e s' hs=>hs
 have fin:∀ {σ':St} {H':Hp} {v:V} {u:Value},Inv (Xs CX P w K mg base N qual scope f cdv A outer s H E) [] σ' H' s'→Ym v u→Q v H'→CE outer P w H s Q u s' :=
  fun {σ' H' v u} J rv q=>⟨v,H',J.os,J.bare,J.base,J.hok,rv,q⟩
 cases fl with
 | ret u =>
  obtain ⟨v,σ',H',J,rv,q⟩:=hs
  exact fin J rv q
 | next =>
  obtain ⟨σ',H',J,q⟩:=hs
  exact fin (v:=V.non) (u:=Value.none) J rfl q
 | brk =>
  obtain ⟨_,_,_,q⟩:=hs
  exact False.elim q
 | cont =>
  obtain ⟨_,_,_,q⟩:=hs
  exact False.elim q
end L2
namespace L2
open PySem PySem.Spec PyProof.Rows
section
variable {X:Cx} {x:Str} {p pos:Pos} {e:Expr} {es:List Expr} {t:TA} {id T:String} {r:List V→Hp→VK→Prop}
def tCB (r:List V→Hp→VK→Prop) (t:TA):TE:=fun σ H Q=>t σ H fun vs H1=>r vs H1 Q
theorem UJ (hc:YY X (.builtin id) r) (hg:Gl X x) (hm:X.mg x=none) (hv:bootBuiltins x=some (.builtin id)) (ha:PA X (e::es) t) (hn:x≠"__name__":=by decide) (hdb:(x==("__debug__":Str))=false:=by decide)
  (he:starEach (e::es) X.env=(false,eval e X.env)::starEach es X.env:=by rfl) (hpl:(backTo pos (starEach es X.env)).any (·.1)=false:=by rfl):PE X (.Call (.Name x p) (e::es) [] pos) (tCB r t):=by
 intro pins s σ H Q I h
 refine wpAny_Call_Name_kw (XL I hg hm hv ?_ hn hdb)
 exact PyProof.Rows.callWith_builtin1 (thn (ha pos pins s σ H _ I h) fun us s1 ⟨vs,H1,I1,r1,q1⟩=>hc pins s1 σ H1 vs us Q I1 r1 q1) he hpl
theorem Ul (hc:YY X (.type T) r) (hg:Gl X x) (hm:X.mg x=none) (hv:bootBuiltins x=some (.type T)) (ha:PA X (e::es) t) (hn:x≠"__name__":=by decide) (hdb:(x==("__debug__":Str))=false:=by decide)
  (he:starEach (e::es) X.env=(false,eval e X.env)::starEach es X.env:=by rfl) (hpl:(backTo pos (starEach es X.env)).any (·.1)=false:=by rfl):PE X (.Call (.Name x p) (e::es) [] pos) (tCB r t):=by
 intro pins s σ H Q I h
 refine wpAny_Call_Name_kw (XL I hg hm hv ?_ hn hdb)
 exact PyProof.Rows.callWith_type1 (thn (ha pos pins s σ H _ I h) fun us s1 ⟨vs,H1,I1,r1,q1⟩=>hc pins s1 σ H1 vs us Q I1 r1 q1) he hpl
end
end L2
namespace HT
open PySem PyProof.Rows
section
open PySem.SeqAt
open PySem.AutoSeq1 (wpAny_loadPart')
open PySem.MeetsSeq PySem.MeetsSeq2 PySem.MeetsSeq3
end
section
variable {prog:Program} {w:World} {A:Around} {E:Value→Shared→Prop} {s:Shared}
def sIx (n d:Nat):Option Int→Nat
 | none=>d
 | some v=>if v<0 then (v+(n:Int)).toNat else min v.toNat n
theorem sIx_none (n d:Nat):sIx n d none=d:=rfl
theorem sIx_nat (n d k:Nat):sIx n d (some (k:Int))=min k n:=by
 show (if (k:Int)<0 then ((k:Int)+(n:Int)).toNat else min (k:Int).toNat n)=min k n
 rw [if_neg (by omega),Int.toNat_natCast]
end
end HT
namespace L2
open PySem PySem.Spec PyProof.Rows
abbrev TO:=St→Hp→(Option Int→Hp→Prop)→Prop
def PO (X:Cx) (e:Option Expr) (t:TO):Prop :=
 ∀ (pins:List (Addr×Obj)) (s:Shared) (σ:St) (H:Hp) (Q:Option Int→Hp→Prop),Inv X pins σ H s→t σ H Q →
  wpAny (model X.prog X.w) X.A (evalPart e X.env) (fun u s'=>∃ o H',Inv X pins σ H' s'∧IsPart u o∧Q o H') X.xe s
def Vu:TO:=fun _ H Q=>Q none H
def Qi (t:TE):TO:=fun σ H Q=>t σ H fun x H1=>∃ i,x = .int i∧Q (some i) H1
section
variable {X:Cx} {e:Expr} {te:TE} {lo hi:Option Expr} {tl th:TO} {pos p2:Pos}
theorem Vv:PO X none Vu:=by
 intro pins s σ H Q I h
 rw [evalPart_none]
 exact wpAny_pure ⟨none,H,I,.none,h⟩
theorem XZ (h:PE X e te):PO X (some e) (Qi te):=by
 intro pins s σ H Q I hw
 rw [evalPart_some]
 refine thn (h pins s σ H _ I hw) fun u s1 ⟨x,H1,I1,r1,q1⟩=>?_
 obtain ⟨i,rfl,q⟩:=q1
 obtain ⟨t,rfl⟩:=r1
 exact ⟨some i,H1,I1,.int i t,q⟩
def SlR (X:Cx) (r:V→Option Int→Option Int→Hp→VK→Prop):Prop :=
 ∀ (pins:List (Addr×Obj)) (s:Shared) (σ:St) (H:Hp) (x:V) (v vl vu:Value) (lo hi:Option Int) (sl:Addr) (Q:VK),Inv X pins σ H s→Ym x v→s.heap.IsSliceOf sl vl vu .none→IsPart vl lo→IsPart vu hi→r x lo hi H Q →
  ∃ T id,typeLookup (.type T) "__getitem__"=pure (some (.builtin id))∧s.TypeIs v T∧wpAny (model X.prog X.w) X.A (getItem v (.ref sl)) (EP X pins σ Q) X.xe s
def tSl (r:V→Option Int→Option Int→Hp→VK→Prop) (te:TE) (tl th:TO):TE:=fun σ H Q=>te σ H fun x H1=>tl σ H1 fun l H2=>th σ H2 fun u H3=>r x l u H3 Q
theorem X5 {r:V→Option Int→Option Int→Hp→VK→Prop} (hr:SlR X r) (he:PE X e te) (hl:PO X lo tl) (hu:PO X hi th):PE X (.Subscript e (.Slice lo hi none p2) pos) (tSl r te tl th):=by
 intro pins s σ H Q I h
 refine Subscript_ (thn (he pins s σ H _ I h) fun v s1 ⟨x,H1,I1,r1,q1⟩=>?_)
 refine wpAny_Slice (thn (hl pins s1 σ H1 _ I1 q1) fun vl s2 ⟨l,H2,I2,pl,q2⟩=>thn (hu pins s2 σ H2 _ I2 q2) fun vu s3 ⟨u,H3,I3,pu,q3⟩=>?_)
 rw [evalPart_none]
 refine wpAny_pure ?_
 have I4:Inv X pins σ H3 { s3 with heap:=s3.heap.push { cls := .type "slice",data := .fields #[vl,vu,.none] } }:=I3.kept (t':=s3.toks) fun b ob q=>Heap.get?_push_of_some _ q
 obtain ⟨T,id,hT,ht,hg⟩:=hr pins { s3 with heap:=s3.heap.push { cls := .type "slice",data := .fields #[vl,vu,.none] } } σ H3 x v vl vu l u s3.heap.objs.size Q I4 r1 (Heap.IsSliceOf.new ..) pl pu q3
 show wpAny (model X.prog X.w) X.A (subscriptTail e (.Slice lo hi none p2) v (.ref s3.heap.objs.size)) (EP X pins σ Q) X.xe { s3 with heap:=s3.heap.push { cls := .type "slice",data := .fields #[vl,vu,.none] } }
 exact tail_any (ops:=[.ref s3.heap.objs.size,v]) ht hT hg (by with_unfolding_all rfl)
def Xh (xs:List V) (lo hi:Option Int):List V:=(xs.drop (HT.sIx xs.length 0 lo)).take (HT.sIx xs.length xs.length hi - HT.sIx xs.length 0 lo)
theorem Vc (xs:List V) (lo hi:Option Int):(Xh xs lo hi).length≤xs.length:=by
 unfold Xh
 rw [List.length_take,List.length_drop]
 omega
end
end L2
namespace L2
open PySem PySem.Spec PyProof.Rows
def ixN (n:Nat) (i:Int):Option Nat:=if 0≤i then (if i<n then some i.toNat else none) else if -(n:Int)≤i then some (i+n).toNat else none
def atI {α:Type} (xs:List α) (i:Int):Option α:=(ixN xs.length i).bind fun j=>xs[j]?
theorem Qt {n:Nat} {i:Int} {j:Nat} (h:ixN n i=some j):seqIndex? i n=some j∧j<n ∧ -(n:Int)≤i∧i<n:=by
 unfold ixN at h
 by_cases h0:0≤i
 ·rw [if_pos h0] at h
  by_cases h1:i<n
  ·rw [if_pos h1] at h
   have e:i.toNat=j:=Option.some.inj h
   exact ⟨by rw [seqIndex_of h0 h1,e],by omega,by omega,h1⟩
  ·rw [if_neg h1] at h;cases h
 ·rw [if_neg h0] at h
  by_cases h1 : -(n:Int)≤i
  ·rw [if_pos h1] at h
   have e:(i+n).toNat=j:=Option.some.inj h
   exact ⟨by rw [seqIndex_neg (by omega) h1,e],by omega,h1,by omega⟩
  ·rw [if_neg h1] at h;cases h
theorem Vw {α:Type} {xs:List α} {i:Int} {v:α} (h:atI xs i=some v):∃ j,seqIndex? i xs.length=some j∧xs[j]?=some v∧j<xs.length ∧ -(xs.length:Int)≤i∧i<xs.length:=by
 unfold atI at h
 cases e:ixN xs.length i with
 | none=>rw [e] at h;cases h
 | some j =>
  rw [e] at h
  obtain ⟨h1,h2,h3,h4⟩:=Qt e
  exact ⟨j,h1,h,h2,h3,h4⟩
theorem Xy {α:Type} {xs:List α} {j:Nat} {v:α} (h:xs[j]?=some v):atI xs (j:Int)=some v:=by
 have hj:j<xs.length:=(List.getElem?_eq_some_iff.mp h).1
 have e:ixN xs.length (j:Int)=some j:=by
  unfold ixN
  rw [if_pos (by omega),if_pos (by omega)];simp
 unfold atI;rw [e];exact h
def Qu (b:Expr):Prop:=∀ o i,subscripted b false o i=operate [o,i] (getItem o i)
def IxR (X:Cx) (r:R2):Prop :=
 ∀ (value slice:Expr) (pins:List (Addr×Obj)) (s:Shared) (σ:St) (H:Hp) (x y:V) (v u:Value) (Q:VK),Inv X pins σ H s→Ym x v→Ym y u→r x y H Q →
  subscripted slice false v u=operate [v,u] (getItem v u)→wpAny (model X.prog X.w) X.A (subscriptTail value slice v u) (EP X pins σ Q) X.xe s
def MtR (X:Cx) (id:String) (r:V→List V→Hp→VK→Prop):Prop :=
 ∀ (pins:List (Addr×Obj)) (s:Shared) (σ:St) (H:Hp) (x:V) (xs:List V) (v:Value) (us:List Value) (Q:VK),Inv X pins σ H s→Ym x v→Yj xs us→r x xs H Q →
  wpAny (model X.prog X.w) X.A (call (.builtin id) (v::us)) (EP X pins σ Q) X.xe s
section
variable {X:Cx} {a b:Expr} {ta tb:TE} {pos:Pos}
theorem YH {r:R2} (hr:IxR X r) (ha:PE X a ta) (hb:PE X b tb) (hs:Qu b):PE X (.Subscript a b pos) (tOp r ta tb):=by
 intro pins s σ H Q I h
 exact Subscript_ (binT ha hb I h fun v u s2 x y H2 I2 rx ry q=>hr a b pins s2 σ H2 x y v u Q I2 rx ry q (hs _ _))
def rIxL (K:PySem.W.Frag):R2:=fun x y H Q=>∃ p xs i v,x = .ref p∧y = .int i∧SqL K H p xs∧atI xs i=some v∧Q v H
def rIxT (K:PySem.W.Frag):R2:=fun x y H Q=>∃ p xs i v,x = .ref p∧y = .int i∧SqT K H p xs∧atI xs i=some v∧Q v H
theorem Y5:IxR X (rIxL X.K):=by
 intro value slice pins s σ H x y v u Q I rx ry h hs
 obtain ⟨p,xs,i,z,rfl,rfl,hq,he,q⟩:=h
 cases rx
 obtain ⟨t,rfl⟩:=ry
 obtain ⟨its,r,pl,hz⟩:=I.list hq
 obtain ⟨j,h1,h2,h3,h4,h5⟩:=Vw he
 obtain ⟨w,ew,rw'⟩:=r.get h2
 have hl:=r.length
 have hn:=WT
 have fin:EP X pins σ Q w s:=⟨z,H,I,rw',q⟩
 by_cases h0:0≤i
 ·have hj:i.toNat=j:=by
   rw [seqIndex_of h0 h5] at h1
   exact Option.some.inj h1
  exact item_listR pl.isList h0 (by omega) (by rw [hj];simpa using ew) fin hs
 ·have hj:(i+(its.toArray.size:Int)).toNat=j:=by
   rw [seqIndex_neg (by omega) h4] at h1
   rw [List.size_toArray,← hl]
   exact Option.some.inj h1
  exact subscriptTail_builtinR (x:=w) pl.isList.typeIs slot_list_getitem.lookup
   (wpAny_getItem_list_neg (Q:=fun r s'=>r=w∧EP X pins σ Q r s') pl.isList (by omega) (by rw [List.size_toArray]<;>omega) (by omega) (by rw [hj];simpa using ew) ⟨rfl,fin⟩) hs
theorem YV:IxR X (rIxT X.K):=by
 intro value slice pins s σ H x y v u Q I rx ry h hs
 obtain ⟨p,xs,i,z,rfl,rfl,hq,he,q⟩:=h
 cases rx
 obtain ⟨t,rfl⟩:=ry
 obtain ⟨its,r,pl,hz⟩:=I.tuple hq
 obtain ⟨j,h1,h2,h3,h4,h5⟩:=Vw he
 obtain ⟨w,ew,rw'⟩:=r.get h2
 have hl:=r.length
 have hn:=WT
 have fin:EP X pins σ Q w s:=⟨z,H,I,rw',q⟩
 exact subscriptTail_builtinR (x:=w) pl.typeIs slot_tuple_getitem.lookup
  (getItem_tuple (j:=j) (Q:=fun r s'=>r=w∧EP X pins σ Q r s') pl (by omega) (by omega) (by rw [List.size_toArray,← hl];exact h1) (by simpa using ew) ⟨rfl,fin⟩) hs
theorem Inv.lst {pins:List (Addr×Obj)} {σ:St} {H:Hp} {s:Shared} {p:Addr} {xs:List V} (I:Inv X pins σ H s) (h:H p=some (.lst xs)) :
  ∃ (its:List Value) (n:Nat),Yj xs its∧s.heap.get? p=some { cls := .type "list",data := .seq its.toArray n }∧xs.length≤sizeLine:=by
 obtain ⟨z,its,n,r,e⟩:=I.hok p _ h
 exact ⟨its,n,r,e,z⟩
def rSetL:V→V→V→Hp→(Hp→Prop)→Prop:=fun o i v H Q=>∃ p xs k j,o = .ref p∧i = .int k∧H p=some (.lst xs)∧ixN xs.length k=some j∧Q (upd H p (.lst (xs.set j v)))
theorem WV (lo hi:Option Int) (n:Nat):(sliceBounds lo hi none n).1=((HT.sIx n 0 lo:Nat):Int)∧(sliceBounds lo hi none n).2.1=((HT.sIx n n hi:Nat):Int)∧(sliceBounds lo hi none n).2.2=1:=by
 refine ⟨?_,?_,rfl⟩
 ·cases lo with
  | none=>simp [sliceBounds,HT.sIx]
  | some i =>
   simp only [sliceBounds,HT.sIx,Option.getD_none,show (1:Int)>0 by decide,if_true]
   by_cases h:i<0
   ·simp only [h,if_true]<;>omega
   ·simp only [h,if_false]<;>omega
 ·cases hi with
  | none=>simp [sliceBounds,HT.sIx]
  | some i =>
   simp only [sliceBounds,HT.sIx,Option.getD_none,show (1:Int)>0 by decide,if_true]
   by_cases h:i<0
   ·simp only [h,if_true]<;>omega
   ·simp only [h,if_false]<;>omega
theorem WH (its:List Value) (lo hi:Option Int):slicePick its.toArray lo hi none=((its.drop (HT.sIx its.length 0 lo)).take (HT.sIx its.length its.length hi - HT.sIx its.length 0 lo)).toArray:=by
 obtain ⟨h1,h2,h3⟩:=WV lo hi its.toArray.size
 unfold slicePick
 rw [h1,h2,h3]
 simp only [sliceRange_one,pick_run,List.size_toArray]<;>rfl
def rSlL (K:PySem.W.Frag):V→Option Int→Option Int→Hp→VK→Prop:=fun x lo hi H Q=>∃ a xs,x = .ref a∧SqL K H a xs∧∀ p,H p=none→Q (.ref p) (upd H p (.lst (Xh xs lo hi)))
theorem Wr:SlR X (rSlL X.K):=by
 intro pins s σ H x v vl vu lo hi sl Q I rx hs pl pu h
 obtain ⟨a,xs,rfl,hx,q⟩:=h
 cases rx
 obtain ⟨its,r,ht,hz⟩:=I.list hx
 have hlen:=r.length
 refine ⟨"list",_,slot_list_getitem.lookup,ht.isList.typeIs,?_⟩
 refine wpAny_getItem_list_slice ht.isList hs pl pu .none (by simp) ?_ (by rw [List.size_toArray]<;>omega)
 rw [WH,← hlen]
 refine ⟨.ref s.heap.objs.size,_,I.laid (t':=s.toks) (o := .lst (Xh xs lo hi)) (fun b ob q=>Heap.get?_push_of_some _ q) (Nat.le_refl _) ?_,rfl,q _ (I.hok.fresh (Nat.le_refl _))⟩
 exact ⟨Nat.le_trans (Vc xs lo hi) hz,_,0,(r.drop (HT.sIx xs.length 0 lo)).take (HT.sIx xs.length xs.length hi - HT.sIx xs.length 0 lo),Heap.get?_push_size _ rfl⟩
def Qj:V→Bool
 | .non=>true
 | .bl _=>true
 | .int _=>true
 | .str _=>true
 | _=>false
def eqV:V→V→Bool
 | .non,.non=>true
 | .bl a,.bl b=>a==b
 | .bl a,.int b=>(if a then 1 else 0)==b
 | .int a,.bl b=>a==(if b then 1 else 0)
 | .int a,.int b=>a==b
 | .str a,.str b=>a==b
 | _,_=>false
def inV (x:V) (xs:List V):Bool:=xs.any fun y=>eqV y x
def rIn (K:PySem.W.Frag) (neg:Bool):R2:=fun x y H Q=>∃ p xs,y = .ref p∧(SqL K H p xs∨SqT K H p xs)∧Qj x=true∧xs.all Qj=true∧Q (.bl (if neg then !inV x xs else inV x xs)) H
theorem YL:YY X (.builtin "len") (fun xs H Q=>∃ p ys,xs=[.ref p]∧(SqL X.K H p ys∨SqT X.K H p ys)∧Q (.int ys.length) H):=by
 intro pins s σ H xs us Q I r h
 obtain ⟨p,ys,rfl,hq,q⟩:=h
 obtain ⟨u,rfl,rx⟩:=Wc r
 cases rx
 have hn:=WT
 rcases hq with hq | hq
 ·obtain ⟨its,r',pl,hz⟩:=I.list hq
  have hlen:=r'.length
  exact Calls.call_len_list pl.isList (by simp only [List.size_toArray]<;>omega) ⟨.int ys.length,H,I.tok _,⟨s.toks+1,by rw [List.size_toArray,hlen]⟩,q⟩
 ·obtain ⟨its,r',pl,hz⟩:=I.tuple hq
  have hlen:=r'.length
  exact len_tuple pl (by simp only [List.size_toArray]<;>omega) ⟨.int ys.length,H,I.tok _,⟨s.toks+1,by rw [List.size_toArray,hlen]⟩,q⟩
theorem WW:YY X (.type "list") (fun xs H Q=>∃ p ys,xs=[.ref p]∧(SqL X.K H p ys∨SqT X.K H p ys)∧∀ l,H l=none→Q (.ref l) (upd H l (.lst ys))):=by
 intro pins s σ H xs us Q I r h
 obtain ⟨p,ys,rfl,hq,q⟩:=h
 obtain ⟨u,rfl,rx⟩:=Wc r
 cases rx
 have fin:∀ (its:List Value),Yj ys its→ys.length≤sizeLine→∀ (h':Heap) (c':Nat),(∀ b o',s.heap.get? b=some o'→h'.get? b=some o') →
   h'.get? s.heap.objs.size=some { cls := .type "list",dict:=none,data := .seq its.toArray c',slots:=#[] }→EP X pins σ Q (.ref s.heap.objs.size) { s with heap:=h' }:=fun its r' hz h' c' kp e =>
  ⟨.ref s.heap.objs.size,_,I.laid (t':=s.toks) kp (Nat.le_refl _) (show Ys X.prog X.w _ h' _ (.lst ys) from ⟨hz,its,c',r',e⟩),rfl,q _ (I.hok.fresh (Nat.le_refl _))⟩
 rcases hq with hq | hq
 ·obtain ⟨its,r',pl,hz⟩:=I.list hq
  have hlen:=r'.length
  obtain ⟨o,ho,hc,n,hd⟩:=pl.isList
  exact call_list_seq p (.inl rfl) ho hc hd (fun h' c' kp e=>fin its r' hz h' c' kp e) (by simp only [List.size_toArray]<;>omega)
 ·obtain ⟨its,r',pl,hz⟩:=I.tuple hq
  have hlen:=r'.length
  obtain ⟨o,ho,hc,n,hd⟩:=pl
  exact call_list_seq p (.inr rfl) ho hc hd (fun h' c' kp e=>fin its r' hz h' c' kp e) (by simp only [List.size_toArray]<;>omega)
theorem XI:YY X (.type "tuple") (fun xs H Q=>∃ p ys,xs=[.ref p]∧((SqL X.K H p ys∧∀ l,H l=none→Q (.ref l) (upd H l (.tup ys)))∨(SqT X.K H p ys∧Q (.ref p) H))):=by
 intro pins s σ H xs us Q I r h
 obtain ⟨p,ys,rfl,h⟩:=h
 obtain ⟨u,rfl,rx⟩:=Wc r
 cases rx
 rcases h with ⟨hq,q⟩ | ⟨hq,q⟩
 ·obtain ⟨its,r',pl,hz⟩:=I.list hq
  have hlen:=r'.length
  refine call_tuple_list pl.isList (fun h' kp=>?_) (by simp only [List.size_toArray]<;>omega)
  have I1:Inv X pins σ H { s with heap:=h' }:=I.kept (t':=s.toks) kp
  have I2:Inv X pins σ (upd H h'.objs.size (.tup ys)) { s with heap:=h'.push { cls := .type "tuple",data := .seq its.toArray } } :=
   I1.laid (t':=s.toks) (fun b o e=>Heap.get?_push_of_some _ e) (Nat.le_refl _) (show Ys X.prog X.w _ _ _ (.tup ys) from ⟨hz,its,r',IsTup.new _ _⟩)
  exact ⟨.ref h'.objs.size,_,I2,rfl,q _ (I1.hok.fresh (Nat.le_refl _))⟩
 ·obtain ⟨its,r',pl,hz⟩:=I.tuple hq
  exact call_tuple_same pl ⟨.ref p,H,I,rfl,q⟩
def tyV (K:PySem.W.Frag) (T:String) (x:V) (H:Hp):Prop:=match x with
 | .str _=>T="str"
 | .int _=>T="int"
 | .ref p=>(T="list"∧∃ xs,SqL K H p xs)∨(T="tuple"∧∃ o,K.lookup p=some o∧o.cls = .type "tuple"∧o.dict=none) ∨
   (T="dict"∧((∃ kvs,H p=some (.dK kvs))∨∃ kvs,H p=some (.dT kvs)))∨(T="set"∧∃ S n,H p=some (.set S n))
 | _=>False
theorem Q1 {pins:List (Addr×Obj)} {σ:St} {H:Hp} {s:Shared} {T:String} {x:V} {v:Value} (I:Inv X pins σ H s) (r:Ym x v) (ty:tyV X.K T x H) :
  s.TypeIs v T∧∀ a,v = .ref a→∃ ob,s.heap.get? a=some ob∧ob.dict=none:=by
 cases x with
 | str z =>
  obtain ⟨t,rfl⟩:=r
  cases (show T="str" from ty)
  exact ⟨typeIs_str s z t,fun _ e=>nomatch e⟩
 | int i =>
  obtain ⟨t,rfl⟩:=r
  cases (show T="int" from ty)
  exact ⟨typeIs_int s i t,fun _ e=>nomatch e⟩
 | ref p =>
  cases r
  rcases ty with ⟨rfl,xs,hq⟩ | ⟨rfl,o,hk,hc,hd⟩ | ⟨rfl,hk⟩ | ⟨rfl,S,n,hk⟩
  ·obtain ⟨its,_,pl,_⟩:=I.list hq
   refine ⟨pl.isList.typeIs,fun a e=>?_⟩
   cases e
   obtain ⟨o,n,e,c,hd,_⟩:=pl
   exact ⟨o,e,hd⟩
  ·refine ⟨⟨o,I.kIn p o hk,hc⟩,fun a e=>?_⟩
   cases e
   exact ⟨o,I.kIn _ o hk,hd⟩
  ·have z:∃ o,s.heap.get? p=some o∧o.ExactDict:=by
    rcases hk with ⟨kvs,hk⟩ | ⟨kvs,hk⟩
    ·obtain ⟨_,_,_,_,o,_,_,e,ex,_⟩:=I.hok p _ hk
     exact ⟨o,e,ex⟩
    ·obtain ⟨_,_,_,_,o,_,_,e,ex,_⟩:=I.hok p _ hk
     exact ⟨o,e,ex⟩
   obtain ⟨o,e,ex⟩:=z
   refine ⟨⟨o,e,ex.1⟩,fun a e2=>?_⟩
   cases e2
   exact ⟨o,e,ex.2.1⟩
  ·obtain ⟨o,_,_,_,e,ex,_⟩:=I.hok p _ hk
   refine ⟨⟨o,e,ex.1⟩,fun a e2=>?_⟩
   cases e2
   exact ⟨o,e,ex.2.1⟩
 | _=>exact False.elim ty
def tBM0 (K:PySem.W.Frag) (T:String) (r:V→List V→Hp→VK→Prop) (to:TE):TE:=fun σ H Q=>to σ H fun x H1=>tyV K T x H1∧r x [] H1 Q
def tBM (K:PySem.W.Frag) (T:String) (r:V→List V→Hp→VK→Prop) (to:TE) (t:TA):TE:=fun σ H Q=>to σ H fun x H1=>tyV K T x H1∧t σ H1 fun xs H2=>r x xs H2 Q
variable {o e:Expr} {es:List Expr} {to:TE} {t:TA} {name:Str} {apos cpos:Pos} {T id:String} {r:V→List V→Hp→VK→Prop}
theorem VP (pa:PlainAttrs T) (slot:Slot T name id) (hty:typeOf (.builtin id)=pure (.type "method_descriptor")) (hm:MtR X id r) (ho:PE X o to) (ha:PA X (e::es) t)
  (hbase:attributeBase o name X.env (eval o X.env)=eval o X.env)
  (hfew:((backTo cpos (starEach (e::es) X.env)).all (fun x => !x.1)&&(backToKw cpos (keywordEach [] X.env)).all (fun x=>x.1.isSome)
   && decide ((e::es).length+([]:List Keyword).length+(if ([]:List Keyword).isEmpty then 0 else 1)<30))=true)
  (hline:(apos.endLine==cpos.line)=true) (hs:starEach (e::es) X.env=(false,eval e X.env)::starEach es X.env) (hplain:(backTo cpos (starEach es X.env)).any (·.1)=false) :
  PE X (.Call (.Attribute o name apos) (e::es) [] cpos) (tBM X.K T r to t):=by
 intro pins s σ H Q I h
 refine wpAny_Call_method_late hbase hfew hline rfl (thn (ho pins s σ H _ I h) fun v s1 ⟨x,H1,I1,r1,ty,q1⟩=>?_)
 obtain ⟨h1,h2⟩:=Q1 I1 r1 ty
 refine ⟨T,id,pa,slot,hty,h1,h2,?_⟩
 have hA:=ha cpos pins s1 σ H1 _ I1 q1
 rw [hs] at hA ⊢
 refine Calls.callWith_builtin (by show (false||(backTo cpos (starEach es X.env)).any (·.1))=false;rw [hplain]<;>rfl) (Calls.evalArgs_plain ?_)
 exact thn hA fun us s2 ⟨vs,H2,I2,r2,q2⟩=>hm pins s2 σ H2 x vs v us Q I2 r1 r2 q2
/- xs.append(e),list.index on a module's tuple .. are MtR facts of 06m -/
end
end L2
namespace L2
open PySem PySem.Spec PyProof.Rows
def MtM (X:Cx) (id:String) (r:V→List V→Hp→VK→Prop):Prop :=
 ∀ (pins:List (Addr×Obj)) (s:Shared) (σ:St) (H:Hp) (x:V) (xs:List V) (v:Value) (us:List Value) (Q:VK),Inv X pins σ H s→Ym x v→Yj xs us→r x xs H Q →
  wpAny (model X.prog X.w) X.A (call (.builtin id) (v::us)) (EP X pins σ Q) X.xe s
theorem Yj.one:∀ {x:V} {us:List Value},Yj [x] us→∃ u,us=[u]∧Ym x u
 | _,_,.cons r .nil=>⟨_,rfl,r⟩
theorem Yj.two:∀ {x y:V} {us:List Value},Yj [x,y] us→∃ u v,us=[u,v]∧Ym x u∧Ym y v
 | _,_,_,.cons r (.cons q .nil)=>⟨_,_,rfl,r,q⟩
theorem Yj.reverse {xs:List V} {us:List Value} (h:Yj xs us):Yj xs.reverse us.reverse:=by
 induction h with
 | nil=>exact .nil
 | cons r t ih=>rw [List.reverse_cons,List.reverse_cons];exact Yj.append ih (.cons r .nil)
section
variable {X:Cx} {pins:List (Addr×Obj)} {σ:St} {H:Hp} {s:Shared} {l b:Addr} {xs ys zs:List V}
theorem Inv.lset {its its':List Value} {n:Nat} {f:Array Value→Array Value} {t':Nat} (I:Inv X pins σ H s) (hH:H l=some (.lst xs))
  (e:s.heap.get? l=some { cls := .type "list",data := .seq its.toArray n }) (hf:f its.toArray=its'.toArray) (hv:Yj ys its') (hz:ys.length≤sizeLine) :
  Inv X pins σ (upd H l (.lst ys)) { s with heap:=s.heap.update l (Obj.mapSeq f),toks:=t' }:=by
 have q:=PySem.IsL.update e f
 rw [hf] at q
 refine I.write (x:=l) (e:=l) (by rw [hH];exact trivial) (.inl rfl) (fun b' u hb hu=>(Heap.get?_update_other s.heap (Obj.mapSeq f) (Ne.symm hb)).trans hu) ⟨_,q⟩ ?_
 exact ⟨hz,its',_,hv,q⟩
theorem Inv.lnew {its:List Value} {t':Nat} (I:Inv X pins σ H s) (hv:Yj ys its) (hz:ys.length≤sizeLine) :
  Inv X pins σ (upd H s.heap.objs.size (.lst ys)) { s with heap:=s.heap.push { cls := .type "list",data := .seq its.toArray },toks:=t' } :=
 I.laid (fun _ _ q=>Heap.get?_push_of_some _ q) (Nat.le_refl _) ⟨hz,its,0,hv,Heap.get?_push_size _ rfl⟩
theorem Inv.fresh (I:Inv X pins σ H s):H s.heap.objs.size=none:=I.hok.fresh (Nat.le_refl _)
theorem Inv.lstM (I:Inv X pins σ H s) (hH:H l=some (.lst xs)):xs.length≤sizeLine∧∃ (its:List Value) (n:Nat),Yj xs its∧xs.length=its.length∧s.heap.get? l=some { cls := .type "list",data := .seq its.toArray n }:=by
 obtain ⟨z,its,n,r,e⟩:=I.hok l _ hH
 exact ⟨z,its,n,r,r.length,e⟩
end
section
variable {X:Cx}
def Vx:V→List V→Hp→VK→Prop:=fun x vs H Q=>∃ l xs y,x = .ref l∧vs=[y]∧H l=some (.lst xs)∧xs.length<sizeLine∧Q .non (upd H l (.lst (xs++[y])))
theorem Xo:MtM X "list.append" Vx:=by
 intro pins s σ H x vs v us Q I rx rv h
 obtain ⟨l,xs,y,rfl,rfl,hH,hz,q⟩:=h
 cases rx
 obtain ⟨u,rfl,ru⟩:=rv.one
 obtain ⟨z,its,n,r,hl,e⟩:=I.lstM hH
 refine call_meets F.slot_list_append ⟨_,e,rfl⟩ F.entry_list_append (F.args_list_append_2 _ _) (PySem.list_append l its.toArray n u (by rw [List.size_toArray];omega)) ⟨e,?_⟩
 refine ⟨.non,_,I.lset (its':=its++[u]) hH e (by simp) (r.append (.cons ru .nil)) ?_,rfl,q⟩
 rw [List.length_append,List.length_singleton]
 omega
def UK:V→List V→Hp→VK→Prop:=fun x vs H Q=>∃ l xs,x = .ref l∧vs=[]∧H l=some (.lst xs)∧Q .non (upd H l (.lst xs.reverse))
def rCat:R2:=fun x y H Q=>∃ l b xs zs,x = .ref l∧y = .ref b∧H l=some (.lst xs)∧H b=some (.lst zs)∧xs.length+zs.length≤sizeLine∧∀ p,H p=none→Q (.ref p) (upd H p (.lst (xs++zs)))
theorem Um:OpR X (binaryOp .Add) rCat:=by
 intro pins s σ H x y v u Q I rx ry h
 obtain ⟨l,b,xs,zs,rfl,rfl,hH,hB,hz,q⟩:=h
 cases rx
 cases ry
 obtain ⟨z,its,n,r,hl,e⟩:=I.lstM hH
 obtain ⟨z2,its2,n2,r2,hl2,e2⟩:=I.lstM hB
 refine PySem.P.add_list e e2 ?_ (by rw [List.size_toArray,List.size_toArray];omega)
 have ea:its.toArray++its2.toArray=(its++its2).toArray:=by simp
 rw [ea]
 exact ⟨.ref _,_,I.lnew (t':=s.toks) (r.append r2) (by rw [List.length_append];omega),rfl,q _ I.fresh⟩
end
section
variable {prog:Program} {w:World} {A:Around} {E:Value→Shared→Prop} {s:Shared}
end
section
variable {X:Cx}
end
end L2
namespace Att
open PySem PySem.W PySem.Calls PyProof.Rows
theorem Wd {P:Params} {h:Heap}:∀ (ns:List Int) (vs:List Value),WellAll P h vs (ns.map WData.int)→IntsAre vs ns:=by
 intro ns
 induction ns with
 | nil =>
  intro vs w
  rw [List.map_nil] at w
  cases w
  exact .nil
 | cons n ns ih =>
  intro vs w
  rw [List.map_cons] at w
  cases w with
  | cons a b =>
   cases a
   exact .cons _ _ (ih _ b)
theorem Uo {l:OpenLaw} {n:Nat} (hn:l.most=some n) {P:Params} {h:Heap} {args:List WData} {vals:List Value}
  (hpre:l.row.toRowW.claim.pre args=true) (hwl:WellAll P h vals args) :
  ∃ a vs ns,vals=[Value.ref a]∧args=[WData.list (ns.map WData.int)]∧h.get? a=some { cls := .type "list",data := .seq vs.toArray }∧IntsAre vs ns∧ns.length≤n:=by
 have hsh:WShape.hasAll [] args [.list .int]=true:=(pre_splitW hpre).1
 have hc:l.pre.holds [] { args:=args }=true:=(pre_splitW hpre).2
 obtain ⟨d,r,rfl,h1,h2⟩:=hasAllW_cons hsh
 obtain rfl:=hasAllW_nil h2
 obtain ⟨xs,rfl,h3⟩:=hasW_list h1
 obtain ⟨ns,rfl⟩:=items_int h3
 have hlen:ns.length≤n:=by
  unfold OpenLaw.pre at hc
  have h4:(WTm.not (.lt (.lit (.int (n:Int))) (.len (.arg 0)))).holds [] { args:=[.list (ns.map .int)] }=true:=by
   have h4:=(holds_andW hc).1
   rw [hn] at h4
   exact h4
  have h5:=condW_of h4 (w_not (w_lt w_lit (w_len_list (w_arg rfl))))
  rw [List.length_map] at h5
  refine Nat.le_of_not_lt fun q=>?_
  have q':(n:Int)<((ns.length:Nat):Int):=by omega
  first
   | (rw [decide_eq_true q'] at h5;exact absurd h5 (by decide))
   | (simp at h5;omega)
 cases hwl with
 | cons w1 w2 =>
  cases w2
  cases w1 with
  | list ho hall=>exact ⟨_,_,ns,rfl,rfl,ho,Wd ns _ hall,hlen⟩
theorem Up (l:OpenLaw) (args:List WData):l.row.toRowW.claim.post args (.bool true) args=true :=
 postW_of (r:=l.row.toRowW) (X:=(true==true))
  (show WShape.has [] (.bool true) .bool=true by first | rfl | decide | simp [WShape.has,WShape.arms,WShape.armsAll])
  (show (WTm.eq .res (.lit (.bool true))).value [] { args:=args,res:=some (.bool true),after:=args }=some (.bool (true==true)) from w_eq_bool (w_res rfl) w_lit) rfl
theorem attach_call {l:OpenLaw} {n:Nat} {q:Program} {loose:List Str} {XP:(Str→Option Value)→Heap→Prop} {YP:World→Heap→Prop} {d:DefRec}
  (hn:l.most=some n) (hdf:d.params.defaults=[])
  (call:∀ (w:World) (s₀ s₁:Shared) (mg mb:Str→Option Value) (fa:Addr) (o:Obj) (pm cd doc:Value) (a:Addr) (vs:List Value) (ns:List Int),
   Ground q loose [] XP w s₀ mg mb s₁.heap→YP w s₁.heap →
   s₁.heap.get? fa=some o→o.data = .func (docDef d.name d.params d.body d.scope pm cd doc)→s₁.heap.CodeRec cd d.name→mg d.name=some (.ref fa) →
   s₁.heap.get? a=some { cls := .type "list",data := .seq vs.toArray }→IntsAre vs ns→ns.length≤n→s₁.gens=#[] →
   codeAny (model l.prog w) callerA (.call (.ref fa) ⟨[.ref a],[]⟩) (fun r s'=>r = .ok (.ret (.bool true))∧OldK s₁.heap s'.heap∧s'.os=s₁.os∧AllBare s'.gens) s₁) :
  WalkO q loose XP YP l.row.toRowW d [] (fun f vs=>PySem.call f vs):=by
 intro w s₀ s₁ mg mb G Y fa o pm cd doc dV kV ho hd hcd hD hmg hg args vals as hpre hlay hrd hwl hlo
 obtain rfl:dV = .none:=Dflts.none hD hdf
 obtain rfl:kV = .none:=Dflts.noKw hD
 obtain ⟨a,vs,ns,rfl,rfl,hobj,hints,hlen⟩:=Uo hn hpre hwl
 refine enter_call (codeAny_mono (call w s₀ s₁ mg mb fa o pm cd doc a vs ns G Y ho (fd_plain hd) hcd hmg hobj hints hlen hg) fun r s' hq=>?_)
 obtain ⟨rfl,h2,h3,h4⟩:=hq
 exact ⟨.inl ⟨.bool true,.bool true,[],rfl,fun _=>rfl,.bool true,Up l _,fun _=>⟨List.Pairwise.nil,fun _ hm=>(nomatch hm)⟩⟩,h2,h3,h4⟩
section
variable {prog:Program} {w:World} {A:Around} {E:Value→Shared→Prop} {s:Shared} {K:Frag}
def ledger (h:Heap) (L d:Addr):List (Addr×Obj):=(List.range h.objs.size).filterMap fun a=>if a=L∨a=d then none else (h.get? a).map fun o=>(a,o)
end
end Att
namespace L2
open PySem PySem.Spec PyProof.Rows
theorem WC:∀ {vs:List Value} {ns:List Int},IntsAre vs ns→Yj (ns.map V.int) vs
 | _,_,.nil => .nil
 | _,_,.cons n t h => .cons ⟨t,rfl⟩ (WC h)
def Only (H:Hp):Prop:=∀ b,H b=none∨∃ o xs,H b=some (.frz o (.lst xs))
theorem UL {P:Program} {w:World} {K:PySem.W.Frag} {mg mb:Str→Option Value} {CX:CXT} {k:Nat} {fa a:Addr} {fd:FuncData} {x:Str} {sp:Sp} {s₁:Shared} {vs:List Value} {ns:List Int}
  (KX:K.In s₁.heap) (hns:s₁.heap.Ns mainGlobals mg) (hb:s₁.heap.Ns builtinsNs mb) (hbb:∀ x:Str,x≠"__name__"→mb x=bootBuiltins x) (hlim:s₁.heap.NoLimit) (hg:s₁.gens=#[])
  (ha:s₁.heap.get? a=some { cls := .type "list",data := .seq vs.toArray }) (hi:IntsAre vs ns) (hl:ns.length≤sizeLine) (hr:Room k callerA)
  (F:∀ base:Heap,K.In base→base.Ns mainGlobals mg→FnOk P w K mg base CX k fa fd [x] sp) (hbind:∀ (s:Shared) (u:Value),BindsTo s fd ⟨[u],[]⟩ [(x,u)])
  (hsp:∀ H:Hp,Only H→SqL K H a (ns.map V.int)→sp [.ref a] H (fun v _=>v = .bl true) fun _ _ _=>False)
  (hCX:∀ H e s',CX [] H s₁ (fun _ _ _=>False) e s'→False) :
  codeAny (model P w) callerA (.call (.ref fa) ⟨[.ref a],[]⟩) (fun r s'=>r = .ok (.ret (.bool true))∧OldK s₁.heap s'.heap∧s'.os=s₁.os∧AllBare s'.gens) s₁:=by
 have rv:=WC hi
 have lenV:=hi.length
 -- from an abstract heap in which nothing but the script may be tracked
 have core:∀ H:Hp,Only H→SqL K H a (ns.map V.int)→HOk P w H s₁.heap→(∀ b,H b≠none→b=a)→(H a≠none→K.lookup a=none) →
   codeAny (model P w) callerA (.call (.ref fa) ⟨[.ref a],[]⟩) (fun r s'=>r = .ok (.ret (.bool true))∧OldK s₁.heap s'.heap∧s'.os=s₁.os∧AllBare s'.gens) s₁:=by
  intro H hO hS hok hA hK
  have base_of:∀ {b:Addr} {o:Obj},s₁.heap.get? b=some o→H b=none→(XE s₁.heap H).get? b=some o:=fun e n=>UH e n
  have noA:∀ {b:Addr} {o:Obj} {es:Array DictEntry} {ep:Nat},s₁.heap.get? b=some o→o.data = .dict es ep→H b=none:=fun {b o es ep} e d=>by
   cases q:H b with
   | none=>rfl
   | some u =>
    have e':b=a:=hA b (by rw [q];simp)
    subst e'
    rw [ha] at e;cases e
    have d':Data.seq vs.toArray _=Data.dict es ep:=d
    cases d'
  have nsK:∀ {b:Addr} {m:Str→Option Value},s₁.heap.Ns b m→(XE s₁.heap H).Ns b m:=fun {b m} ⟨o,es,ep,e,d,r⟩=>⟨o,es,ep,base_of e (noA e d),d,r⟩
  have hKb:K.In (XE s₁.heap H):=fun b o e=>base_of (KX b o e) (by
   cases q:H b with
   | none=>rfl
   | some u =>
    have e':b=a:=hA b (by rw [q];simp)
    subst e'
    rw [hK (by rw [q];simp)] at e;cases e)
  have hM:Mod K mg (XE s₁.heap H):=⟨hKb,nsK hns,⟨mb,nsK hb,hbb⟩,let ⟨mc,h1,h2⟩:=hlim;⟨mc,nsK h1,h2⟩⟩
  have e0:Env0 P w K mg (XE s₁.heap H) callerA [] s₁ H:=⟨rfl,hM,fun b o e=>Qo e,Nat.le_of_eq (V3 _ _),trivial,fun b hb=>absurd (show b∈([]:List Addr) from hb) (by simp),hok,.of_eq hg⟩
  refine codeAny_mono ((F _ hKb (nsK hns)).run callerA [] s₁ H ⟨[.ref a],[]⟩ [.ref a] [.ref a] _ _ hr e0 (hbind s₁ (.ref a)) (.cons rfl .nil) (hsp H hO hS)) fun r s' h=>?_
  cases r with
  | error e=>exact (hCX H e s' h).elim
  | ok fl =>
   cases fl with
   | next=>exact False.elim h
   | brk=>exact False.elim h
   | cont=>exact False.elim h
   | ret u =>
    obtain ⟨v,H',os,bare,un,hok',r',q⟩:=h
    have q':v = .bl true:=q
    subst q'
    obtain rfl:u=Value.bool true:=r'
    refine ⟨rfl,OldK.of_keep fun b o e=>?_,os,bare⟩
    cases q:H b with
    | none=>exact un.keep b o e q (by intro z;exact absurd (show b∈([]:List Addr) from z) (by simp)) (by simp)
    | some u =>
     rcases hO b with z | ⟨ob,xs,z⟩
     ·rw [q] at z;cases z
     ·have z2:=un.frzs b ob _ z
      obtain ⟨e1,_⟩:=hok b _ z
      obtain ⟨e2,_⟩:=hok' b _ z2
      rw [e] at e1;cases e1
      exact e2
 cases hk:K.lookup a with
 | some o =>
  -- the script is one of the module's own objects
  have e:=KX a o hk
  rw [ha] at e
  cases e
  refine core (fun _=>none) (fun _ => .inl rfl) (.inr ⟨_,vs.toArray,_,hk,rfl,rfl,rfl,by rw [List.size_toArray,lenV];exact hl,by simpa using rv⟩) (fun b u z=>by have z':(none:Option HO)=some u:=z;cases z') (fun b z=>absurd rfl z) fun z=>absurd rfl z
 | none =>
  refine core (fun b=>if b=a then some (.frz { cls := .type "list",data := .seq vs.toArray } (.lst (ns.map V.int))) else none) (fun b=>?_) (.inl (.inr ⟨{ cls := .type "list",data := .seq vs.toArray },if_pos rfl⟩)) (fun b u z=>?_) (fun b z=>?_) fun _=>hk
  ·by_cases hb:b=a
   ·exact .inr ⟨_,_,if_pos hb⟩
   ·exact .inl (if_neg hb)
  ·by_cases hb:b=a
   ·have z':=(if_pos hb).symm.trans z
    cases z'
    subst hb
    exact ⟨ha,by rw [List.length_map];exact hl,vs,_,rv,ha⟩
   ·have z':=(if_neg hb).symm.trans z
    cases z'
  ·by_cases hb:b=a
   ·exact hb
   ·exact absurd (if_neg hb) z
end L2
namespace L2
open PySem PySem.Spec PyProof.Rows
theorem Qv {l:PySem.W.OpenLaw} {n k:Nat} {q:Program} {loose:List Str} {XP:(Str→Option Value)→Heap→Prop} {YP:World→Heap→Prop} {d:DefRec} {K:Params→PySem.W.Frag} {CX:World→CXT} {sp:World→Sp} {x:Str}
  (hn:l.most=some n) (hn2:n≤sizeLine) (hdf:d.params.defaults=[]) (hr:Room k callerA)
  (hY:∀ (w:World) (h:Heap),YP w h→(K w.params).In h)
  (F:∀ (w:World) (mg:Str→Option Value) (fa:Addr) (h:Heap),(K w.params).In h→h.Ns mainGlobals mg→mg d.name=some (.ref fa) →
   ∃ fd:FuncData,(∀ (s:Shared) (u:Value),BindsTo s fd ⟨[u],[]⟩ [(x,u)]) ∧
    ∀ base:Heap,(K w.params).In base→base.Ns mainGlobals mg→FnOk l.prog w (K w.params) mg base (CX w) k fa fd [x] (sp w))
  (hsp:∀ (w:World) (H:Hp) (a:Addr) (ns:List Int),ns.length≤n→Only H→SqL (K w.params) H a (ns.map V.int)→sp w [.ref a] H (fun v _=>v = .bl true) fun _ _ _=>False)
  (hCX:∀ (w:World) (H:Hp) (s:Shared) (e:Value) (s':Shared),CX w [] H s (fun _ _ _=>False) e s'→False) :
  PySem.W.WalkO q loose XP YP l.row.toRowW d [] (fun f vs=>PySem.call f vs):=by
 refine Att.attach_call hn hdf fun w s₀ s₁ mg mb fa o pm cd doc a vs ns G Y ho hd hcd hmg hobj hints hlen hg=>?_
 have KX:=hY w _ Y
 obtain ⟨fd,hb,hF⟩:=F w mg fa _ KX G.T.g hmg
 exact UL KX G.T.g G.T.b G.T.builtins G.T.nolimit hg hobj hints (Nat.le_trans hlen hn2) hr hF hb (fun H hO hS=>hsp w H a ns hlen hO hS) fun H e s'=>hCX w H s₁ e s'
end L2
namespace L2
open PySem PySem.Spec PyProof.Rows
def Qw (s:Stmt) (j:Nat):Stmt:=match s with
 | .ClassDef _ _ _ body _ _ _ _ _ _ _=>body.getD j (.Pass ⟨0,0,0,0⟩)
 | _ => .Pass ⟨0,0,0,0⟩
def YN (s:Stmt):Arguments:=match s with
 | .FunctionDef _ a _ _ _ _ _ _ _ _=>a
 | _=>{ posonlyargs:=[],args:=[],vararg:=none,kwonlyargs:=[],kw_defaults:=[],kwarg:=none,defaults:=[] }
def YF (s:Stmt):List Stmt:=match s with
 | .FunctionDef _ _ b _ _ _ _ _ _ _=>b
 | _=>[]
def Yi (s:Stmt):Scope:=match s with
 | .FunctionDef _ _ _ _ _ _ sc _ _ _=>sc
 | _=>{ kind := .function,names:=[],isGenerator:=false,isCoroutine:=false }
abbrev CX0:CXT:=fun _ _ _ _ _ _=>False
abbrev E0:XK:=fun _ _ _=>False
theorem VQ {X:Cx}:Xx CX0 X E0:=fun _ _ _ _ _ _ _ h=>h.elim
structure Fun (K:PySem.W.Frag) (x qual:Str) (st:Stmt) (f:Addr) (fd:FuncData):Prop where
 ex:∃ (oc:Value) (od:Option Addr) (kV doc pm:Value) (an:Option Addr) (cdv ct:Value) (osl:Array (Option Value)),
  fd=PySem.W.fnOf x qual (YN st) (YF st) (Yi st) .none kV doc pm an cdv ct∧K.lookup f=some ⟨oc,od,.func fd,osl⟩∧PySem.W.codeIn K cdv qual=true
 kp:PySem.W.keepIn K (.ref f)=true
section
variable {P:Program} {w:World} {K:PySem.W.Frag} {mg:Str→Option Value} {base:Heap}
theorem Fun.ok {x qual:Str} {st:Stmt} {f:Addr} {fd:FuncData} {N ps:List Str} {k:Nat} {sp:Sp} (F:Fun K x qual st f fd) (S:FnScope N ps (Yi st)) (len:∀ vs H Q E,sp vs H Q E→vs.length=ps.length)
  (hbody:∀ (cdv:Value) (A:Around) (outer:List Env) (s:Shared) (H:Hp) (vs:List V) (Q:VK) (E:XK),Room k (A.deeper (envOfC qual (Yi st) s.heap.objs.size f cdv))→sp vs H Q E →
   ∃ t,PSs (Xs CX0 P w K mg base N qual (Yi st) f cdv A outer s H E).nox (YF st) t∧t { nx:=fun _ H'=>Q .non H',rt:=Q } (YZ N vs) H):FnOk P w K mg base CX0 (k+1) f fd ps sp:=by
 obtain ⟨oc,od,kV,doc,pm,an,cdv,ct,osl,rfl,lk,hcd⟩:=F.ex
 refine Qh lk hcd S len fun A outer s H vs Q E hr hsp=>?_
 obtain ⟨t,h,q⟩:=hbody cdv A outer s H vs Q E hr hsp
 exact ⟨t,h.nox,q⟩
theorem Fun.binds {x qual:Str} {st:Stmt} {f:Addr} {fd:FuncData} {ps:List Str} (F:Fun K x qual st f fd)
  (h:∀ (kV doc pm:Value) (an:Option Addr) (cdv ct:Value) (us:List Value),us.length=ps.length→bindArgs (PySem.W.fnOf x qual (YN st) (YF st) (Yi st) .none kV doc pm an cdv ct) ⟨us,[]⟩=pure (ps.zip us)):YQ K fd ps []:=by
 obtain ⟨oc,od,kV,doc,pm,an,cdv,ct,osl,rfl,lk,hcd⟩:=F.ex
 exact .all (h kV doc pm an cdv ct)
theorem WX {x qual:Str} {st:Stmt} {f:Addr} {oc:Value} {od an:Option Addr} {osl:Array (Option Value)} {kV doc pm cdv ct:Value} (l:K.lookup f=some ⟨oc,od,.func (PySem.W.fnOf x qual (YN st) (YF st) (Yi st) .none kV doc pm an cdv ct),osl⟩)
  (c:PySem.W.codeIn K cdv qual=true) (k:PySem.W.keepIn K (.ref f)=true):Fun K x qual st f (PySem.W.fnOf x qual (YN st) (YF st) (Yi st) .none kV doc pm an cdv ct):=⟨⟨oc,od,kV,doc,pm,an,cdv,ct,osl,rfl,l,c⟩,k⟩
end
section
variable {X:Cx}
theorem pv (i:Nat) {x:Str} {pos:Pos} (hN:X.N[i]?=some x:=by rfl) (hv:Vis X.env.scope x:=by first | exact .inl rfl | exact .inr (.inl rfl) | exact .inr (.inr rfl)) (hd:(x==("__debug__":Str))=false:=by decide)
  (hcd:(x==("__classdict__":Str))=false:=by decide):PE X (.Name x pos) (Wo i):=V5 hN hv hd hcd
end
theorem iteF {A B:Prop} (h:B):if false=true then A else B:=by
 rw [if_neg Bool.false_ne_true]
 exact h
theorem iteT {A B:Prop} (h:A):if true=true then A else B:=by
 rw [if_pos rfl]
 exact h
theorem Xt {c A B:Prop} [Decidable c] (h1:c→A) (h2:¬ c→B):if c then A else B:=by
 by_cases h:c
 ·rw [if_pos h]
  exact h1 h
 ·rw [if_neg h]
  exact h2 h
def Yd (H H':Hp):Prop:=∀ b o,H b=some o→H' b=some o
theorem Yd.refl (H:Hp):Yd H H:=fun _ _ h=>h
theorem Yd.trans {H H1 H2:Hp} (a:Yd H H1) (b:Yd H1 H2):Yd H H2:=fun c o h=>b c o (a c o h)
theorem Yd.free {H H':Hp} (e:Yd H H') {l:Addr} (h:H' l=Option.none):H l=Option.none:=by
 cases q:H l with
 | none=>rfl
 | some o =>
  rw [e l o q] at h
  cases h
theorem Yd.seq {K:PySem.W.Frag} {H H':Hp} {a:Addr} {xs:List V} (e:Yd H H') (h:SqL K H a xs):SqL K H' a xs:=by
 rcases h with (h | ⟨o,h⟩) | h
 ·exact .inl (.inl (e _ _ h))
 ·exact .inl (.inr ⟨o,e _ _ h⟩)
 ·exact .inr h
end L2
namespace L2
open PySem PySem.Spec PyProof.Rows
section
variable {κ:Type} [DecidableEq κ]
theorem KV.any {kvs:List (κ×V)} {vs:List (κ×Value)} (r:KV kvs vs) (k:κ):(kvs.any fun kv=>decide (kv.1=k))=vs.any fun kv=>decide (kv.1=k):=by
 unfold KV at r
 induction r with
 | nil=>rfl
 | cons h t ih=>rw [List.any_cons,List.any_cons,ih,h.1]
theorem KV.keys {kvs:List (κ×V)} {vs:List (κ×Value)} (r:KV kvs vs):kvs.map (·.1)=vs.map (·.1):=by
 unfold KV at r
 induction r with
 | nil=>rfl
 | cons h t ih=>rw [List.map_cons,List.map_cons,ih,h.1]
theorem KV.length {kvs:List (κ×V)} {vs:List (κ×Value)} (r:KV kvs vs):kvs.length=vs.length:=Paired.length r
end
theorem Qk {P:Program} {w:World} {k:Key} {u:Value} (r:Ym (kV k) u):(YS P w).is k u=true:=by
 cases k with
 | inl i=>obtain ⟨t,e⟩:=(show ∃ t,u=Value.int i t from r);subst e;exact Va P w i t
 | inr x=>obtain ⟨t,e⟩:=(show ∃ t,u=Value.str x t from r);subst e;exact Vb P w x t
abbrev KT (H:Hp):List (List Key×V)→List (List Key×Addr×Value)→Prop:=Paired fun p q=>p.1=q.1∧H q.2.1=some (.tup (p.1.map kV))∧Ym p.2 q.2.2
theorem KT.keeps {H H':Hp} {kvs:List (List Key×V)} {xs:List (List Key×Addr×Value)} (r:KT H kvs xs) (ht:∀ b ys,H b=some (.tup ys)→H' b=some (.tup ys)):KT H' kvs xs :=
 Paired.mapP r fun _ _ z=>⟨z.1,ht _ _ z.2.1,z.2.2⟩
section
variable {P:Program} {w:World} {H:Hp} {h:Heap} {a:Addr}
end
section
variable {X:Cx} {pins:List (Addr×Obj)} {σ:St} {H:Hp} {s:Shared} {a:Addr} {y v:V} {u r:Value} {o:Option V} {A:Around} {E:Value→Shared→Prop}
end
section
variable {X:Cx} {pins:List (Addr×Obj)} {σ:St} {H:Hp} {s:Shared} {a:Addr} {kvs:List (Key×V)} {k:Key} {u:Value} {A:Around} {E:Value→Shared→Prop}
end
section
variable {X:Cx} {o i e value:Expr} {pos pos' tpos:Pos} {td ty tv:TE}
end
section
variable {X:Cx} {pos:Pos}
end
section
variable {X:Cx} {pins:List (Addr×Obj)} {σ:St} {H:Hp} {s:Shared} {a:Addr} {y d:V} {u r:Value} {o:Option V} {A:Around} {E:Value→Shared→Prop}
end
section
variable {X:Cx} {o e f:Expr} {apos cpos:Pos} {td ty tx:TE}
end
section
variable {X:Cx} {pins:List (Addr×Obj)} {σ:St} {H:Hp} {s:Shared} {a:Addr} {kvs:List (Key×V)} {A:Around} {E:Value→Shared→Prop}
end
section
variable {X:Cx} {pins:List (Addr×Obj)} {σ:St} {H:Hp} {s:Shared} {a:Addr} {y:V} {u:Value} {A:Around} {E:Value→Shared→Prop}
end
end L2
namespace L2
open PySem PySem.Spec PyProof.Rows
theorem Xi (env:Env):∀ (names:List (Str×NameKind)) (cs:List (Str×Addr)),(∀ x,(x,NameKind.free)∈names→∃ c,env.cells.lookup x=some c) →
  ∃ cl,(forIn names cs fun (p:Str×NameKind) (cs:List (Str×Addr))=>(if (p.2==NameKind.free)=true then (do let c ← cellOf env p.1;pure (ForInStep.yield ((p.1,c)::cs))) else pure (ForInStep.yield cs):Sem (ForInStep (List (Str×Addr)))))=pure cl ∧
   (∀ x c,cl.lookup x=some c→env.cells.lookup x=some c∨cs.lookup x=some c)∧(∀ x,(x,NameKind.free)∈names→∃ c,cl.lookup x=some c)∧(∀ x c,cs.lookup x=some c→∃ d,cl.lookup x=some d)
 | [],cs,_=>⟨cs,by simp,fun _ _ h => .inr h,(fun _ h=>nomatch h),fun x c h=>⟨c,h⟩⟩
 | (n,k)::r,cs,h=>by
  by_cases hk:k=NameKind.free
  ·subst hk
   obtain ⟨c,hc⟩:=h n (List.mem_cons_self ..)
   obtain ⟨cl,e,a,b,d⟩:=Xi env r ((n,c)::cs) (fun x hx=>h x (List.mem_cons_of_mem _ hx))
   have hcell:cellOf env n=pure c:=by unfold cellOf;rw [hc]
   refine ⟨cl,?_,fun x c' hx=>?_,fun x hx=>?_,fun x c' hx=>?_⟩
   ·rw [List.forIn_cons]
    simp only [beq_self_eq_true,if_true,hcell,pure_bind]
    exact e
   ·rcases a x c' hx with q | q
    ·exact .inl q
    ·rw [List.lookup_cons] at q
     by_cases hxn:(x==n)=true
     ·rw [hxn] at q
      have hx':x=n:=by simpa using hxn
      subst hx'
      have:c=c':=by simpa using q
      subst this
      exact .inl hc
     ·rw [Bool.eq_false_iff.mpr hxn] at q
      exact .inr q
   ·rcases List.mem_cons.mp hx with q | q
    ·have hx':x=n:=congrArg Prod.fst q
     subst hx'
     exact d x c (by rw [List.lookup_cons];simp)
    ·exact b x q
   ·have:∃ d',((n,c)::cs).lookup x=some d':=by
     rw [List.lookup_cons]
     by_cases hxn:(x==n)=true
     ·rw [hxn];exact ⟨c,rfl⟩
     ·rw [Bool.eq_false_iff.mpr hxn];exact ⟨c',hx⟩
    obtain ⟨d',hd'⟩:=this
    exact d x d' hd'
  ·obtain ⟨cl,e,a,b,d⟩:=Xi env r cs (fun x hx=>h x (List.mem_cons_of_mem _ hx))
   have hkf:(k==NameKind.free)=false:=by simpa using hk
   refine ⟨cl,?_,a,fun x hx=>?_,d⟩
   ·rw [List.forIn_cons]
    simp only [hkf,Bool.false_eq_true,if_false,pure_bind]
    exact e
   ·rcases List.mem_cons.mp hx with q | q
    ·exact absurd (congrArg Prod.snd q).symm hk
    ·exact b x q
theorem VR (env:Env) (scope:Scope) (h:∀ x,(x,NameKind.free)∈scope.names→∃ c,env.cells.lookup x=some c) :
  ∃ cl,closureFor scope env=pure cl∧(∀ x c,cl.lookup x=some c→env.cells.lookup x=some c)∧(∀ x,(x,NameKind.free)∈scope.names→∃ c,cl.lookup x=some c):=by
 obtain ⟨cl,e,a,b,_⟩:=Xi env scope.names [] h
 refine ⟨cl,?_,fun x c hx=>(a x c hx).elim id (fun z=>by simp at z),b⟩
 unfold closureFor
 simp only [bind_pure]
 exact e
def cxC (X:Cx) (scope:Scope) (N':List Str) (cl:List (Str×Addr)) (C:Addr) (s₀:Shared) (H₀:Hp) (fp:List Addr) (pn:List (Addr×Obj)):Cx :=
 { X with N:=N',s₀:=s₀,H₀:=H₀,env:=compEnvC scope cl C X.env,outer:=X.stack,ex:=fp,fn:=fun _=>false,pn:=pn,xe:=fun _ _=>False }
inductive Cap (X:Cx) (scope:Scope):List (Option Nat)→List Str→Prop
 | nil:Cap X scope [] []
 | own {x src N'}:Cap X scope src N'→Cap X scope (none::src) (x::N')
 | cap {x i src N'}:X.N[i]?=some x→scope.names.lookup x=some NameKind.free→(X.env.scope.names.lookup x=some NameKind.cell∨X.env.scope.names.lookup x=some NameKind.free)→Cap X scope src N'→Cap X scope (some i::src) (x::N')
def YK (src:List (Option Nat)) (σ:St):St:=src.map fun o=>match o with | none=>none | some i=>σ.getD i none
theorem Cap.length {X:Cx} {scope:Scope}:∀ {src:List (Option Nat)} {N':List Str},Cap X scope src N'→src.length=N'.length
 | _,_,.nil=>rfl
 | _,_,.own h=>congrArg (·+1) h.length
 | _,_,.cap _ _ _ h=>congrArg (·+1) h.length
theorem Cap.get {X:Cx} {scope:Scope} {σ:St}:∀ {src:List (Option Nat)} {N':List Str},Cap X scope src N'→∀ (j:Nat) (x:Str) (v:V),N'[j]?=some x→(YK src σ)[j]?=some (some v) →
  ∃ i:Nat,X.N[i]?=some x∧σ[i]?=some (some v)∧scope.names.lookup x=some NameKind.free∧(X.env.scope.names.lookup x=some NameKind.cell∨X.env.scope.names.lookup x=some NameKind.free)
 | _,_,.nil,j,x,v,h,_=>by simp at h
 | _,_,.own h,0,x,v,_,e=>by simp [YK] at e
 | _,_,.own h,j+1,x,v,e1,e2=>h.get j x v (by simpa using e1) (by simpa [YK] using e2)
 | _,_,.cap (x:=y) (i:=i) hN hf hk h,0,x,v,e1,e2=>by
  have ex:y=x:=by simpa using e1
  subst ex
  refine ⟨i,hN,?_,hf,hk⟩
  simp only [YK,List.map_cons,List.getElem?_cons_zero,Option.some.injEq] at e2
  rw [List.getD_eq_getElem?_getD] at e2
  cases q:σ[i]? with
  | none=>rw [q] at e2;simp at e2
  | some o=>rw [q] at e2;simp at e2;rw [e2]
 | _,_,.cap hN hf hk h,j+1,x,v,e1,e2=>h.get j x v (by simpa using e1) (by simpa [YK] using e2)
theorem Xz (env:Env) (x:Str):∀ {names:List (Str×NameKind)},
  (names.map fun (n,k)=>if (k==NameKind.free&&env.scope.kind == .function&&env.kindOf n==some .cell) then (n,NameKind.cell) else (n,k)).lookup x =
   (names.lookup x).map fun k=>if (k==NameKind.free&&env.scope.kind == .function&&env.kindOf x==some .cell) then NameKind.cell else k
 | []=>rfl
 | (n,k)::r=>by
  have ih:=@Xz env x r
  rw [List.map_cons]
  dsimp only
  by_cases hx:(x==n)=true
  ·have e:x=n:=by simpa using hx
   subst e
   by_cases hc:(k==NameKind.free&&env.scope.kind == .function&&env.kindOf x==some .cell)=true
   ·rw [if_pos hc,List.lookup_cons,List.lookup_cons,hx]
    simp only [Option.map_some]
    rw [if_pos hc]
   ·rw [if_neg hc,List.lookup_cons,List.lookup_cons,hx]
    simp only [Option.map_some]
    rw [if_neg hc]
  ·have hx':=Bool.eq_false_iff.mpr hx
   by_cases hc:(k==NameKind.free&&env.scope.kind == .function&&env.kindOf n==some .cell)=true
   ·rw [if_pos hc];simp only [List.lookup_cons,hx'];exact ih
   ·rw [if_neg hc];simp only [List.lookup_cons,hx'];exact ih
theorem Xp {names:List (Str×NameKind)} {x:Str} (h:names.lookup x=some NameKind.free):(x,NameKind.free)∈names:=PySem.mem_of_lookup h
section
variable {X:Cx}
theorem UM {scope:Scope} {N':List Str} {src:List (Option Nat)} {cl:List (Str×Addr)} {pins:List (Addr×Obj)} {σ:St} {H:Hp} {s s':Shared} {h':Heap} {tk:Nat} {fp:List Addr} {m:Str→Option Value}
  (hk:scope.kind = .function) (hcell:∀ y∈scope.names,y.2 ≠ .cell) (hcap:Cap X scope src N')
  (a:∀ x c,cl.lookup x=some c→X.env.cells.lookup x=some c) (b:∀ x,(x,NameKind.free)∈scope.names→∃ c,cl.lookup x=some c)
  (I:Inv X pins σ H s) (hf:∀ b∈fp,Xr X pins H b) (hfl:∀ b∈fp,b<s.heap.objs.size) (es':s'={ s with heap:=h',toks:=tk })
  (keep:∀ b o,s.heap.get? b=some o→h'.get? b=some o) (hn:h'.Ns s.heap.objs.size m) :
  Inv (cxC X scope N' cl s.heap.objs.size s H fp (X.pn++pins)) [] (YK src σ) H s':=by
 subst es'
 have kindOf:∀ x,(compEnvC scope cl s.heap.objs.size X.env).kindOf x=(scope.names.lookup x).map fun k=>if (k==NameKind.free&&X.env.scope.kind == .function&&X.env.kindOf x==some .cell) then NameKind.cell else k:=fun x=>Xz X.env x
 have freeOf:∀ x,((compEnvC scope cl s.heap.objs.size X.env).kindOf x=some .cell∨(compEnvC scope cl s.heap.objs.size X.env).kindOf x=some .free)→scope.names.lookup x=some .free:=fun x h=>by
  rw [kindOf] at h
  cases q:scope.names.lookup x with
  | none=>rw [q] at h;simp at h
  | some k =>
   rw [q] at h
   by_cases hkf:k=NameKind.free
   ·rw [hkf]
   ·have hkf':(k==NameKind.free)=false:=by simpa using hkf
    simp only [Option.map_some,hkf',Bool.false_and,Bool.false_eq_true,if_false] at h
    rcases h with h | h
    ·exact absurd (Option.some.inj h) (hcell _ (PySem.mem_of_lookup q))
    ·exact absurd (Option.some.inj h) hkf
 refine ⟨⟨I.ok.mod,hk,I.ok.glob,I.ok.blt,Nat.le_refl _,fun x y c h1 h2=>I.ok.inj x y c (a x c h1) (a y c h2),fun x hx=>b x (Xp (freeOf x hx)),(fun x c z _=>nomatch z),I.ok.hd,I.ok.frames,.inl rfl,fun b' hb=>?_,I.bs,Nat.le_trans I.ok.bsz I.sz,fun b' o e hb=>?_,fun b' hb z=>?_,I.stack,I.stkFree⟩,
  rfl,I.bare,Un.kept keep,⟨m,hn,fun j x v h1 h2 h3=>?_⟩,fun x c h=>?_,I.hok.fresh (Nat.le_refl _),fun x c h=>I.freeC x c (a x c h),fun p hp=>?_,I.hok.kept keep,?_⟩
 ·obtain ⟨f0,f1,f2,f3,f4,f5⟩:=hf b' hb
  exact ⟨Nat.ne_of_lt (hfl b' hb),fun x c h=>f4 x c (a x c h)⟩
 ·obtain ⟨f0,f1,f2,f3,f4,f5⟩:=hf b' hb
  rcases f3 with z | z
  ·exact I.ok.noex b' o e z
  ·exact absurd (Nat.lt_of_lt_of_le (Heap.lt_size e) (Nat.le_trans I.ok.bsz z)) (Nat.lt_irrefl _)
 ·obtain ⟨f0,f1,f2,f3,f4,f5⟩:=hf b' hb
  rcases List.mem_cons.mp (I.stkSub b' z) with e | e
  ·exact f1 e
  ·exact f2 e
 ·obtain ⟨i,e1,e2,e3,e4⟩:=hcap.get j x v h1 h2
  obtain ⟨m0,hn0,hl⟩:=I.loc
  obtain ⟨u,r,l⟩:=hl i x v e1 e2 (by rcases e4 with e4 | e4;exact .inr (.inl e4);exact .inr (.inr e4))
  refine ⟨u,r,?_⟩
  rcases l with ⟨l,_⟩ | ⟨k,c,e,z⟩
  ·have l':X.env.scope.names.lookup x=some NameKind.local:=l
   rcases e4 with e4 | e4<;>(rw [e4] at l';cases l')
  ·refine .inr ⟨?_,?_⟩
   ·show (compEnvC scope cl s.heap.objs.size X.env).kindOf x=some .cell∨(compEnvC scope cl s.heap.objs.size X.env).kindOf x=some .free
    rw [kindOf,e3]
    simp only [Option.map_some]
    split
    ·exact .inl rfl
    ·exact .inr rfl
   ·obtain ⟨c',hc'⟩:=b x (Xp e3)
    have:=a x c' hc'
    rw [e] at this
    cases this
    obtain ⟨o,ho,hd⟩:=z
    exact ⟨c,hc',o,keep _ _ ho,hd⟩
 ·obtain ⟨v,o,ho,hd⟩:=I.cell x c (a x c h)
  exact ⟨v,o,keep _ _ ho,hd⟩
 ·have hp':p∈X.pn++pins:=by simpa [cxC] using hp
  obtain ⟨e,n,ne,nf,d⟩:=I.pin p hp'
  refine ⟨keep _ _ e,n,Nat.ne_of_lt (Heap.lt_size e),fun z=>?_,d⟩
  rcases List.mem_cons.mp (I.stkSub p.1 z) with q | q
  ·exact ne q
  ·exact nf q
 ·show (YK src σ).length=N'.length
  rw [← hcap.length]
  simp [YK]
end
end L2
namespace L2
open PySem PySem.Spec PyProof.Rows
section
variable {prog:Program} {w:World} {A:Around} {R:Result→Shared→Prop} {s:Shared}
theorem Uq {elt tg iter:Expr} {ifs:List Expr} {scope:Scope} {pos:Pos} {it acc:Value} {env:Env} (J:Nat→Shared→Prop)
  (turn:∀ n s,J n s→wpAny (model prog w) A (pyNext it) (fun r s₁=>match r with
    | none=>R (.ok .next) s₁
    | some v=>wpAny (model prog w) A (letOwnedTupleGo tg it v) (fun _ z₁=>wpAny (model prog w) A (assign tg env v) (fun _ s₂ =>
      wpAny (model prog w) A (forIn ifs true fun c r=>if r=true then do let ok ← isTrue c env (eval c env);pure (ForInStep.yield ok) else pure (ForInStep.yield r))
       (fun ok s₃=>if ok=true then wpAny (model prog w) A (eval elt env) (fun x s₄=>wpAny (model prog w) A (call (.builtin "list.append") [acc,x]) (fun _ s₅=>∃ m,m<n∧J m s₅) (fun _ _=>False) s₄) (fun _ _=>False) s₃
        else ∃ m,m<n∧J m s₃) (fun _ _=>False) s₂) (fun _ _=>False) z₁) (fun _ _=>False) s₁) (fun _ _=>False) s)
  (n:Nat) (h:J n s):codeAny (model prog w) A (.compLoop (.ListComp elt [⟨tg,iter,ifs,0⟩] scope pos) 0 it acc env) R s:=by
 refine codeAny_loop rfl J (fun n s hJ=>?_) n h
 show wpAny _ A (Sem.onRaise (compTurn (.ListComp elt [⟨tg,iter,ifs,0⟩] scope pos) 0 it acc env) (fun x=>do noteFrame x env;theTreesLotGoes x)) _ _ s
 refine wpAny_noted ?_
 rw [compTurn_list]
 have no:∀ {E:Value→Shared→Prop},∀ (e:Value) (s':Shared),False→E e s':=fun _ _ f=>f.elim
 refine wpAny_bind (wpAny_standAt (wpAny_bind (wpAny_mono (turn n s hJ) (fun r s₁ h₁=>?_) no)))
 cases r with
 | none=>exact wpAny_pure h₁
 | some v =>
  refine wpAny_bind (wpAny_mono h₁ (fun _ z₁ hz=>?_) no)
  refine wpAny_bind (wpAny_mono hz (fun _ s₂ h₂=>wpAny_bind (wpAny_mono h₂ (fun ok s₃ h₃=>?_) no)) no)
  cases ok with
  | false=>exact wpAny_pure ⟨rfl,h₃⟩
  | true =>
   exact wpAny_bind (wpAny_bind (wpAny_mono h₃ (fun x s₄ h₄=>wpAny_bind (wpAny_mono h₄ (fun _ s₅ h₅=>wpAny_pure (wpAny_pure ⟨rfl,h₅⟩)) no)) no))
end
def PTs (X:Cx) (ifs:List Expr) (t:TT):Prop :=
 ∀ (pins:List (Addr×Obj)) (s:Shared) (σ:St) (H:Hp) (Q:Bool→Hp→Prop),Inv X pins σ H s→t σ H Q →
  wpAny (model X.prog X.w) X.A (forIn ifs true fun c r=>if r=true then do let ok ← isTrue c X.env (eval c X.env);pure (ForInStep.yield ok) else pure (ForInStep.yield r)) (TP X pins σ Q) X.xe s
def VS:TT:=fun _ H Q=>Q true H
theorem Qx {X:Cx}:PTs X [] VS:=fun _ _ _ H _ I h=>wpAny_tests_nil ⟨H,I,h⟩
def LC (src:List (Option Nat)) (J:It) (g:TG) (tt:TT) (te:TE) (σ:St) (H1:Hp) (Q:VK) (D:Addr):Prop:=∃ W:Nat→Nat→List V→St→Hp→Prop,(∃ m,W 0 m [] (YK src σ) (upd H1 D (.lst []))) ∧
 ∀ i m ys σ' H2,W i m ys σ' H2→H2 D=some (.lst ys)∧((J.stop i H2∧Q (.ref D) H2)∨(J.go i H2∧∃ N:List V→St→Hp→Prop,(∀ ys' σ3 H3,N ys' σ3 H3→∃ m',m'<m∧W (i+1) m' ys' σ3 H3)∧∀ x H3,J.yld i H2 x H3→g x σ' H3 fun σ2 H4=>tt σ2 H4 fun b H5 =>
  if b=true then te σ2 H5 fun y H6=>H6 D=some (.lst ys)∧ys.length<sizeLine∧N (ys++[y]) σ2 (upd H6 D (.lst (ys++[y])))
  else N ys σ2 H5))
def tLC (src:List (Option Nat)) (wi:TI) (g:TG) (tt:TT) (te:TE):TE:=fun σ H Q=>wi σ H fun J H1=>∀ D,H1 D=none→LC src J g tt te σ H1 Q D
section
variable {X:Cx}
theorem pe_lc {elt tg iter:Expr} {ifs:List Expr} {scope:Scope} {pos:Pos} {src:List (Option Nat)} {N':List Str} {wi:TI} {g:TG} {tt:TT} {te:TE} (hcap:Cap X scope src N') (hc:X.calm=true) (hi:PI X tg iter wi)
  (hg:∀ cl C s₀ H₀ fp pn,PG (cxC X scope N' cl C s₀ H₀ fp pn) tg g) (ht:∀ cl C s₀ H₀ fp pn,PTs (cxC X scope N' cl C s₀ H₀ fp pn) ifs tt) (he:∀ cl C s₀ H₀ fp pn,PE (cxC X scope N' cl C s₀ H₀ fp pn) elt te)
  (hfree:∀ x,(x,NameKind.free)∈scope.names→X.env.scope.names.lookup x=some NameKind.cell∨X.env.scope.names.lookup x=some NameKind.free)
  (hk:scope.kind = .function) (hcell:∀ y∈scope.names,y.2 ≠ .cell) (hnames:∀ y∈scope.names,y.2 = .local→scope.names.lookup y.1=some .local)
  (hs:∀ x,foldedSetIterable iter X.env x=pure x):PE X (.ListComp elt [⟨tg,iter,ifs,0⟩] scope pos) (tLC src wi g tt te):=by
 intro pins s σ H Q I h
 have no:∀ {E:Value→Shared→Prop},∀ (e:Value) (s':Shared),False→E e s':=fun _ _ f=>f.elim
 obtain ⟨cl,hcl,a,b⟩:=VR X.env scope fun x hx=>I.ok.has x (hfree x hx)
 rw [eval_ListComp]
 refine wpAny_comprehension_free (use:=none) rfl hs hcl hk hnames (thn (hi pins s σ H _ I h) fun v s1 h1=>thn h1 fun itv s2 h2=>?_)
 obtain ⟨it,fp,tn,J,H2,e,I2,T,st2,f2,q⟩:=h2
 subst e
 have hD:H2 s2.heap.objs.size=none:=I2.hok.fresh (Nat.le_refl _)
 obtain ⟨W,⟨m0,w0⟩,turn⟩:=q s2.heap.objs.size hD
 have I3:=I2.lnew (t':=s2.toks) (ys:=[]) (its:=[]) .nil (Nat.zero_le _)
 have fl2:∀ b∈fp,b<s2.heap.objs.size:=fun b hb=>by
  obtain ⟨o,e,_⟩:=T.obj _ _ st2 b hb
  exact Heap.lt_size e
 refine wpAny_newObj_type ?_
 generalize es3:({ s2 with heap:=s2.heap.push { cls := .type "list",dict:=none,data := .seq ([]:List Value).toArray } }:Shared)=s3
 have I3':Inv X pins σ (upd H2 s2.heap.objs.size (.lst [])) s3:=es3▸I3
 have keep3:∀ b o,s2.heap.get? b=some o→s3.heap.get? b=some o:=fun b o e=>by rw [← es3];exact Heap.get?_push_of_some _ e
 have st3:tn 0 s3.heap:=T.keep _ _ _ st2 fun b _ o e=>keep3 b o e
 have fl3:∀ b∈fp,b<s3.heap.objs.size:=fun b hb=>by
  obtain ⟨o,e,_⟩:=T.obj _ _ st3 b hb
  exact Heap.lt_size e
 have f3:∀ b∈fp,Xr X pins (upd H2 s2.heap.objs.size (.lst [])) b:=fun b hb=>⟨by rw [Yg (Nat.ne_of_lt (fl2 b hb))];exact (f2 b hb).1,(f2 b hb).2⟩
 generalize eD:s2.heap.objs.size=D at *
 generalize eH3:upd H2 D (.lst [])=H3 at *
 refine wpAny_newFunctionEnv hcell (by intro y hy;simp at hy) (fun h₁ hns₁ hsb₁=>?_) hk
 have keep4:∀ b o,s3.heap.get? b=some o→h₁.get? b=some o:=fun b o e=>hsb₁.extBut b o (Nat.ne_of_lt (Heap.lt_size e)) (Heap.get?_push_of_some _ e)
 have I4:=UM (N':=N') (src:=src) (tk:=s3.toks+([]:List (Str×Value)).length) hk hcell hcap a b I3' f3 fl3 rfl keep4 hns₁
 -- the iterator's objects,through the block
 have stat:∀ {H':Hp},(∀ b∈fp,H' b=none)→∀ b∈fp,Xr (cxC X scope N' cl s3.heap.objs.size s3 H3 fp (X.pn++pins)) [] H' b:=fun hn b' hb=>by
  obtain ⟨f0,f1,fs,fe,f4,f5⟩:=f3 b' hb
  refine ⟨hn b' hb,Nat.ne_of_lt (fl3 b' hb),fun z=>?_,.inl hb,fun x c h=>f4 x c (a x c h),fun p hp=>f5 p (by simpa [cxC] using hp)⟩
  rcases List.mem_cons.mp (I3'.stkSub b' z) with e | e
  ·exact f1 e
  ·exact fs e
 -- behind the block
 have fin:∀ {H':Hp} {s':Shared} {σ':St} {pins':List (Addr×Obj)},Inv (cxC X scope N' cl s3.heap.objs.size s3 H3 fp (X.pn++pins)) pins' σ' H' s'→∀ h',Heap.SameBut s3.heap.objs.size s'.heap h'→Inv X pins σ H' { s' with heap:=h' }:=fun {H' s' σ' pins'} J' h' sb=>by
  have same:∀ b o,b≠s3.heap.objs.size→s'.heap.get? b=some o→h'.get? b=some o:=fun b o hb e=>sb.extBut b o hb e
  have u:Un (frs X.stack) fp H3 H' s3.heap s'.heap:=J'.base
  refine I3'.call' (s':={ s' with heap:=h' }) (ch:=fp) J'.os ⟨fun b o e n hb hx=>?_,fun b o e n hb hx=>?_,u.free,fun b o e hx=>?_,u.tups,u.frzs,u.tbls⟩ (fun b o e=>?_) J'.bare fun b hb=>?_
  ·exact same b o (Nat.ne_of_lt (Heap.lt_size e)) (u.keep b o e n hb hx)
  ·obtain ⟨sl,z⟩:=u.slot b o e n hb hx
   exact ⟨sl,same b _ (Nat.ne_of_lt (Heap.lt_size e)) z⟩
  ·obtain ⟨o',z⟩:=u.there b o e hx
   exact ⟨o',same b o' (Nat.ne_of_lt (Heap.lt_size e)) z⟩
  ·have nC:∀ c v,H' c=some v→c≠s3.heap.objs.size:=fun c v z q=>by
    have:=J'.free
    rw [show (cxC X scope N' cl s3.heap.objs.size s3 H3 fp (X.pn++pins)).env.locals=s3.heap.objs.size from rfl,← q,z] at this
    cases this
   refine (J'.hok b o e).stay (fun c v hc q=>same c v ?_ q) (fun _ q=>q) fun _ _ q=>q
   rcases hc with z | z
   ·rw [z];exact nC b o e
   ·exact nC c _ z
  ·obtain ⟨f0,f1,fs,fe,f4,f5⟩:=f3 b hb
   exact ⟨fe,f1,f4,f5⟩
 have loop:codeAny (model X.prog X.w) X.A (.compLoop (.ListComp elt [⟨tg,iter,ifs,0⟩] scope pos) 0 (.ref it) (.ref D) (compEnvC scope cl s3.heap.objs.size X.env))
   (compPost (model X.prog X.w) X.A X.xe none (EP X pins σ Q) (.ref D) s3.heap.objs.size) { s3 with heap:=h₁,toks:=s3.toks+([]:List (Str×Value)).length }:=by
  refine Uq (fun n s'=>∃ i ys σ' H',Inv (cxC X scope N' cl s3.heap.objs.size s3 H3 fp (X.pn++pins)) [] σ' H' s'∧tn i s'.heap∧(∀ b∈fp,H' b=none)∧W i n ys σ' H') ?_ m0 ⟨0,[],YK src σ,H3,I4,T.keep _ _ _ st3 fun b _ o e=>keep4 b o e,fun b hb=>(f3 b hb).1,w0⟩
  rintro n s5 ⟨i,ys,σ5,H5,I5,st5,fr5,w5⟩
  obtain ⟨hDs,stop | go⟩:=turn i n ys σ5 H5 w5
  ·obtain ⟨stop,qn⟩:=stop
   refine thn (T.done (cxC X scope N' cl s3.heap.objs.size s3 H3 fp (X.pn++pins)) rfl rfl rfl hc i [] s5 σ5 H5 _ I5 (stat fr5) st5 stop) fun r s6 ⟨hr,I6⟩=>?_
   subst hr
   obtain ⟨m,hn,_⟩:=id I6.loc
   exact ⟨m,hn,fun h' sb=>⟨.ref D,H5,fin I6 h' sb,rfl,qn⟩⟩
  ·obtain ⟨go,N,hN,step⟩:=go
   refine thn (T.item (cxC X scope N' cl s3.heap.objs.size s3 H3 fp (X.pn++pins)) rfl rfl rfl hc i [] s5 σ5 H5 _ I5 (stat fr5) st5 go) fun r s6 ⟨u,hr,h6⟩=>?_
   subst hr
   refine thn h6 fun _ s7 ⟨x,H7,I7,r7,y7,st7,fr7⟩=>?_
   have I7':=I7.pinned (stat fr7) (T.obj _ _ st7)
   have again:∀ {s8:Shared} {σ8:St} {H8:Hp} {ys':List V},Inv (cxC X scope N' cl s3.heap.objs.size s3 H3 fp (X.pn++pins)) ([]++XM fp s7.heap) σ8 H8 s8→(∃ m',m'<n∧W (i+1) m' ys' σ8 H8) →
     ∃ m,m<n∧∃ i ys σ' H',Inv (cxC X scope N' cl s3.heap.objs.size s3 H3 fp (X.pn++pins)) [] σ' H' s8∧tn i s8.heap∧(∀ b∈fp,H' b=none)∧W i m ys σ' H':=fun {s8 σ8 H8 ys'} I8 ⟨m',hm,w8⟩=>by
    refine ⟨m',hm,i+1,ys',σ8,H8,I8.unpinned,T.keep _ _ _ st7 fun b hb o e=>(I8.pin (b,o) (List.mem_append_right _ (List.mem_append_right _ (Xd hb e)))).1,fun b hb=>?_,w8⟩
    obtain ⟨o,e,d⟩:=T.obj _ _ st7 b hb
    exact (I8.pin (b,o) (List.mem_append_right _ (List.mem_append_right _ (Xd hb e)))).2.1
   refine thn (hg cl _ s3 H3 fp _ _ s7 σ5 H7 x u _ I7' r7 (step x H7 y7)) fun _ s8 ⟨σ8,H8,I8,q8⟩=>?_
   refine thn (ht cl _ s3 H3 fp _ _ s8 σ8 H8 _ I8 q8) fun ok s9 ⟨H9,I9,q9⟩=>?_
   cases ok with
   | false=>exact again I9 (hN _ _ _ q9)
   | true =>
    rw [if_pos rfl]
    refine thn (he cl _ s3 H3 fp _ _ s9 σ8 H9 _ I9 q9) fun y s10 ⟨yv,H10,I10,r10,q10⟩=>?_
    obtain ⟨hDy,hlen,w10⟩:=q10
    refine thn (Xo (X:=cxC X scope N' cl s3.heap.objs.size s3 H3 fp (X.pn++pins)) _ s10 σ8 H10 (.ref D) [yv] (.ref D) [y] (fun _ H'=>H'=upd H10 D (.lst (ys++[yv]))) I10 rfl (.cons r10 .nil) ⟨D,ys,yv,rfl,rfl,hDy,hlen,rfl⟩) fun _ s11 ⟨_,H11,I11,_,e11⟩=>?_
    subst e11
    exact again I11 (hN _ _ _ w10)
 exact codeAny_compStart_list loop (T.self _ 0 _ _ _ (T.keep _ _ _ st3 fun b _ o e=>keep4 b o e) loop)
end
end L2
namespace L2
open PySem PySem.Spec PyProof.Rows
section
variable {X:Cx}
def Its (x:Str):It:=⟨fun i _=>i<x.length,fun i H v H'=>H'=H∧∃ c,x.cps.toList[i]?=some c∧v = .str ⟨#[c]⟩,fun i _=>x.length≤i⟩
end
end L2
namespace L2
open PySem PySem.Spec PyProof.Rows
section
variable {X:Cx} {tg:Expr}
theorem Yd.upd_new {H:Hp} {p:Addr} (h:H p=none) (o:HO):Yd H (upd H p o):=fun b u q=>by rw [Yg (Yv q h)];exact q
theorem Yd.upd_over {H H':Hp} {p:Addr} (h:H p=none) (e:Yd H H') (o:HO):Yd H (upd H' p o):=fun b u q=>by rw [Yg (Yv q h)];exact e b u q
theorem Yd.tup {K:PySem.W.Frag} {H H':Hp} {a:Addr} {xs:List V} (e:Yd H H') (h:SqT K H a xs):SqT K H' a xs:=by
 rcases h with (h | ⟨o,h⟩) | h
 ·exact .inl (.inl (e _ _ h))
 ·exact .inl (.inr ⟨o,e _ _ h⟩)
 ·exact .inr h
end
section
variable {X:Cx}
def VT:V→Option Value
 | .ty n=>some (.type n)
 | .ref a=>some (.ref a)
 | _=>none
theorem YJ:YY X (.builtin "isinstance") (fun xs H Q=>∃ x c cv t b,xs=[x,c]∧VT c=some cv∧TyOf X.K H x t∧PySem.W.kitOne X.K t cv=some b∧Q (.bl b) H):=by
 intro pins s σ H xs us Q I r h
 obtain ⟨x,c,cv,t,b,rfl,ec,ty,e,q⟩:=h
 obtain ⟨u,w',rfl,ru,rw'⟩:=Qg r
 have ew:w'=cv:=by
  cases c with
  | ty n=>cases (show w'=Value.type n from rw');simpa [VT] using ec
  | ref a=>cases (show w'=Value.ref a from rw');simpa [VT] using ec
  | _=>simp [VT] at ec
 subst ew
 exact Ui I ru ty e fun tk=>⟨.bl b,H,I.tok tk,rfl,q⟩
end
end L2
namespace L2
open PySem PySem.Spec PyProof.Rows
section
variable {prog:Program} {w:World} {A:Around} {E:Value→Shared→Prop} {s:Shared}
end
section
variable {prog:Program} {w:World} {A:Around} {E:Value→Shared→Prop} {s:Shared} {z TI TO i1 i2:Addr} {S1 S2:Nat→Heap→Prop} {R1 R2:Heap→(Nat→Option Value)→Prop} {g1 g2:Nat→Option Value} {k:Nat} {a b:Value}
end
end L2
namespace L2
open PySem PySem.Spec PyProof.Rows
section
variable {prog:Program} {w:World} {A:Around} {E:Value→Shared→Prop} {s:Shared}
end
section
variable {X:Cx} {pins:List (Addr×Obj)} {σ:St} {H:Hp} {s:Shared} {h':Heap}
theorem Inv.turnedT {t':Nat} {ch:List Addr} {T:Addr} {vs:List V} (I:Inv X pins σ H s) (k:∀ b o,b∉ch→s.heap.get? b=some o→h'.get? b=some o) (hf:∀ b∈ch,Xr X pins H b) (hT:s.heap.objs.size≤T)
  (new:Ys X.prog X.w (upd H T (.tup vs)) h' T (.tup vs)):Inv X pins σ (upd H T (.tup vs)) { s with heap:=h',toks:=t' }:=by
 have hn:H T=none:=I.hok.fresh hT
 have nit:∀ b u,H b=some u→b∉ch:=fun b u e z=>by rw [(hf b z).1] at e;cases e
 have nT:∀ b o,s.heap.get? b=some o→b≠T:=fun b o e z=>absurd (Heap.lt_size e) (by rw [z];exact Nat.not_lt.mpr hT)
 have up:∀ b u,H b=some u→upd H T (.tup vs) b=some u:=fun b u e=>by rw [Yg (Yv e hn)];exact e
 refine I.step (g':=s.gens) (d':=s.drawn) (ch:=ch) (fun b hb=>?_) (fun b o _ _ hc e _=>k b o hc e) (fun b o _ _ hc e _=>⟨o.slots,k b o hc e⟩) (fun b o _ e n=>by rw [Yg (nT b o e)];exact n)
  (fun b o hc e=>⟨o,k b o hc e⟩) (fun b xs e=>up b _ e) (fun b o u e=>up b _ e) (fun b ps e=>⟨#[],by rw [up b _ e];simp⟩) (fun m hm=>?_) (fun b u e=>?_) I.bare
 ·obtain ⟨f0,f1,f2,f3,f4,f5⟩:=hf b hb
  exact ⟨f3,f1,f4,f5⟩
 ·obtain ⟨o,es,ep,ho,r⟩:=hm
  exact ⟨o,es,ep,k _ o (fun z=>(hf _ z).2.1 rfl) ho,r⟩
 ·by_cases hb:b=T
  ·subst hb;rw [Yc] at e;cases e;exact new
  ·rw [Yg hb] at e
   refine (I.hok b u e).stay (fun c v hc q=>k c v ?_ q) (fun c q=>up c _ q) fun c xs q=>up c _ q
   rcases hc with z | z
   ·rw [z];exact nit b u e
   ·exact nit c _ z
end
end L2
namespace L2
open PySem PySem.Spec PyProof.Rows
section
variable {X:Cx} {elts:List Expr} {kk:Nat} {tpos:Pos}
theorem Q2 {J:It} {P:Hp→Prop} {n:Nat} (hgo:∀ i H,P H→i<n→J.go i H) (hstop:∀ H,P H→J.stop n H) {src:List (Option Nat)} {g:TG} {tt:TT} {te:TE} {σ:St} {H1:Hp} {Q:VK} {D:Addr} (Pv:Nat→List V→St→Hp→Prop)
  (h0:Pv 0 [] (YK src σ) (upd H1 D (.lst []))) (hP:∀ i ys σ' H',Pv i ys σ' H'→P H'∧H' D=some (.lst ys))
  (step:∀ i ys σ' H',i<n→Pv i ys σ' H'→∀ x H3,J.yld i H' x H3→g x σ' H3 fun σ2 H4=>tt σ2 H4 fun b H5=>if b=true then te σ2 H5 fun y H6=>H6 D=some (.lst ys)∧ys.length<sizeLine∧Pv (i+1) (ys++[y]) σ2 (upd H6 D (.lst (ys++[y]))) else Pv (i+1) ys σ2 H5)
  (fin:∀ ys σ' H',Pv n ys σ' H'→Q (.ref D) H') :
  LC src J g tt te σ H1 Q D:=by
 refine ⟨fun i m ys σ' H'=>m=n - i∧i≤n∧Pv i ys σ' H',⟨n,by simp,Nat.zero_le _,h0⟩,?_⟩
 rintro i m ys σ' H2 ⟨rfl,hi,p⟩
 obtain ⟨hp,hD⟩:=hP i ys σ' H2 p
 refine ⟨hD,?_⟩
 by_cases hlt:i<n
 ·refine .inr ⟨hgo i H2 hp hlt,fun ys' σ3 H3=>Pv (i+1) ys' σ3 H3,fun ys' σ3 H3 p'=>⟨n - (i+1),by omega,rfl,hlt,p'⟩,fun x H3 y=>step i ys σ' H2 hlt p x H3 y⟩
 ·have e:i=n:=by omega
  subst e
  exact .inl ⟨hstop H2 hp,fin ys σ' H2 p⟩
theorem Ur {J:It} {P:Hp→Prop} {n:Nat} (hgo:∀ i H,P H→i<n→J.go i H) (hstop:∀ H,P H→J.stop n H) {src:List (Option Nat)} {g:TG} {te:TE} {σ:St} {H1:Hp} {Q:VK} {D:Addr} (Pv:Nat→List V→St→Hp→Prop)
  (h0:Pv 0 [] (YK src σ) (upd H1 D (.lst []))) (hP:∀ i ys σ' H',Pv i ys σ' H'→P H'∧H' D=some (.lst ys))
  (mono:∀ x σ H Q Q',(∀ σ' H',Q σ' H'→Q' σ' H')→g x σ H Q→g x σ H Q')
  (step:∀ i ys σ' H',i<n→Pv i ys σ' H'→∀ x H3,J.yld i H' x H3→g x σ' H3 fun σ2 H4=>te σ2 H4 fun y H6=>H6 D=some (.lst ys)∧ys.length<sizeLine∧Pv (i+1) (ys++[y]) σ2 (upd H6 D (.lst (ys++[y]))))
  (fin:∀ ys σ' H',Pv n ys σ' H'→Q (.ref D) H'):LC src J g VS te σ H1 Q D :=
 Q2 hgo hstop Pv h0 hP (fun i ys σ' H' hi p x H3 y=>by
  refine mono _ _ _ _ _ ?_ (step i ys σ' H' hi p x H3 y)
  intro σ2 H4 q
  unfold VS
  dsimp only
  rw [if_pos rfl]
  exact q) fin
end
end L2
namespace L2
open PySem PySem.Spec PyProof.Rows
structure Gx where
 P:Program
 w:World
 K:PySem.W.Frag
 mg:Str→Option Value
 base:Heap
def Cx.gx (X:Cx):Gx:=⟨X.prog,X.w,X.K,X.mg,X.base⟩
def Gx.Raw (g:Gx) (x qual:Str) (st:Stmt) (ps:List Str):Prop:=∃ f fd,Fun g.K x qual st f fd∧YQ g.K fd ps []∧g.mg x=some (.ref f)
def Gx.Fn (g:Gx) (k:Nat) (x:Str) (ps:List Str) (sp:Sp):Prop:=∃ f fd,FnOk g.P g.w g.K g.mg g.base CX0 k f fd ps sp∧YQ g.K fd ps []∧PySem.W.keepIn g.K (.ref f)=true∧g.mg x=some (.ref f)
def Gx.RawM (g:Gx) (C:Addr) (m qual:Str) (st:Stmt) (ps:List Str):Prop:=∃ f fd,Fun g.K m qual st f fd∧YQ g.K fd ps []∧Meth g.K C m f
def Gx.Me (g:Gx) (k:Nat) (C:Addr) (m:Str) (ps:List Str) (sp:Sp):Prop:=∃ f fd,FnOk g.P g.w g.K g.mg g.base CX0 k f fd ps sp∧YQ g.K fd ps []∧Meth g.K C m f
abbrev Gx.cx (g:Gx) (N:List Str) (qual:Str) (st:Stmt) (f:Addr) (cdv:Value) (A:Around) (outer:List Env) (s:Shared) (H:Hp) (E:XK):Cx:=(Xs CX0 g.P g.w g.K g.mg g.base N qual (Yi st) f cdv A outer s H E).nox
def WY (g:Gx) (k:Nat) (N:List Str) (qual:Str) (st:Stmt) (sp:Sp):Prop:=∀ (f:Addr) (cdv:Value) (A:Around) (outer:List Env) (s:Shared) (H:Hp) (vs:List V) (Q:VK) (E:XK),Room k (g.cx N qual st f cdv A outer s H E).A→sp vs H Q E →
 ∃ t,PSs (g.cx N qual st f cdv A outer s H E) (YF st) t∧t { nx:=fun _ H'=>Q .non H',rt:=Q } (YZ N vs) H
section
variable {g:Gx} {k:Nat} {x qual m:Str} {st:Stmt} {N ps:List Str} {sp:Sp} {C:Addr}
theorem Gx.Raw.fn (R:g.Raw x qual st ps) (S:FnScope N ps (Yi st)) (len:∀ vs H Q E,sp vs H Q E→vs.length=ps.length) (b:WY g k N qual st sp):g.Fn (k+1) x ps sp:=by
 obtain ⟨f,fd,F,bd,hm⟩:=R
 exact ⟨f,fd,F.ok S len fun cdv A outer s H vs Q E hr h=>b f cdv A outer s H vs Q E hr h,bd,F.kp,hm⟩
theorem Gx.Fn.mono {j:Nat} (F:g.Fn j x ps sp) (h:j≤k):g.Fn k x ps sp:=by
 obtain ⟨f,fd,F,r⟩:=F
 exact ⟨f,fd,F.mono h,r⟩
theorem Gx.Raw.none (R:g.Raw x qual st ps) (no:∀ vs H Q E,¬ sp vs H Q E):g.Fn k x ps sp:=by
 obtain ⟨f,fd,F,bd,hm⟩:=R
 exact ⟨f,fd,⟨fun vs H Q E h=>absurd h (no vs H Q E),fun A outer s H args us vs Q E _ _ _ _ h=>absurd h (no vs H Q E)⟩,bd,F.kp,hm⟩
theorem Gx.RawM.none (R:g.RawM C m qual st ps) (no:∀ vs H Q E,¬ sp vs H Q E):g.Me k C m ps sp:=by
 obtain ⟨f,fd,F,bd,hm⟩:=R
 exact ⟨f,fd,⟨fun vs H Q E h=>absurd h (no vs H Q E),fun A outer s H args us vs Q E _ _ _ _ h=>absurd h (no vs H Q E)⟩,bd,hm⟩
end
section
variable {g:Gx} {X:Cx} {k j:Nat} {x m:Str} {ps:List Str} {sp:Sp} {C:Addr} {e o:Expr} {es:List Expr} {t:TA} {ta:TE} {p pos apos:Pos}
theorem Y2 (F:g.Fn j x ps sp) (hr:Room k X.A) (ha:PA X (e::es) t) (hj:j≤k) (hX:X.gx=g) (hg:Gl X x) (hdb:(x==("__debug__":Str))=false)
  (he:starEach (e::es) X.env=(false,eval e X.env)::starEach es X.env) (hpl:(backTo pos (starEach es X.env)).any (·.1)=false):PE X (.Call (.Name x p) (e::es) [] pos) (WO sp [] E0 t):=by
 subst hX
 obtain ⟨f,fd,F,b,kp,hm⟩:=F
 exact Vt F (hr.mono hj) hg hm kp b .nil VQ ha hdb he hpl
theorem YG {id:String} {r:List V→Hp→VK→Prop} (hm:g.mg x=none) (hc:YY X (.builtin id) r) (ha:PA X (e::es) t) (hv:bootBuiltins x=some (.builtin id)) (hX:X.gx=g) (hg:Gl X x) (hn:x≠"__name__") (hdb:(x==("__debug__":Str))=false)
  (he:starEach (e::es) X.env=(false,eval e X.env)::starEach es X.env) (hpl:(backTo pos (starEach es X.env)).any (·.1)=false):PE X (.Call (.Name x p) (e::es) [] pos) (tCB r t):=by
 subst hX
 exact UJ hc hg hm hv ha hn hdb he hpl
theorem VU {T:String} {r:List V→Hp→VK→Prop} (hm:g.mg x=none) (hc:YY X (.type T) r) (ha:PA X (e::es) t) (hv:bootBuiltins x=some (.type T)) (hX:X.gx=g) (hg:Gl X x) (hn:x≠"__name__") (hdb:(x==("__debug__":Str))=false)
  (he:starEach (e::es) X.env=(false,eval e X.env)::starEach es X.env) (hpl:(backTo pos (starEach es X.env)).any (·.1)=false):PE X (.Call (.Name x p) (e::es) [] pos) (tCB r t):=by
 subst hX
 exact Ul hc hg hm hv ha hn hdb he hpl
theorem YR {T:String} (hm:g.mg x=none) (hv:bootBuiltins x=some (.type T)) (hX:X.gx=g) (hg:Gl X x) (hn:x≠"__name__") (hdb:(x==("__debug__":Str))=false):PE X (.Name x pos) (tC (.ty T)):=by
 subst hX
 exact Qq hg hm hv rfl hn hdb
end
theorem Q3 {H:Hp} {p:Addr} {o:HO} (h:H p=some o):upd H p o=H:=by
 funext b
 unfold upd
 split
 ·rename_i e;rw [e,h]
 ·rfl
def S (l:List Nat):Str:=⟨l.toArray⟩
end L2
namespace L2
open PySem PySem.Spec PyProof.Rows
section
variable {K:PySem.W.Frag} {h:Heap} {mg:Str→Option Value} {P:Program} {w:World} {base:Heap} {f C:Addr} {x qual m:Str} {st:Stmt} {ps:List Str} {oc kV dc pm cd ct:Value} {od an:Option Addr} {sl:Array (Option Value)}
theorem YI (X:K.In h) (G:h.Ns mainGlobals mg) (ps:List Str)
  (a:PySem.W.nsIn K mainGlobals x=some (some (.ref f))) (l:K.lookup f=some ⟨oc,od,.func (PySem.W.fnOf x x (YN st) (YF st) (Yi st) .none kV dc pm an cd ct),sl⟩) (c:PySem.W.codeIn K cd x=true) (k:PySem.W.keepIn K (.ref f)=true)
  (b:∀ (kV doc pm:Value) (an:Option Addr) (cdv ct:Value) (us:List Value),us.length=ps.length→bindArgs (PySem.W.fnOf x x (YN st) (YF st) (Yi st) .none kV doc pm an cdv ct) ⟨us,[]⟩=pure (ps.zip us)) :
  ∀ P w base,(Gx.mk P w K mg base).Raw x x st ps:=fun P w base =>
 have F:=WX (st:=st) l c k
 ⟨f,_,F,F.binds b,PySem.W.mg_of X G a⟩
end
def We (K:PySem.W.Frag):Sp:=fun vs H Q _=>∃ (a:Addr) (ns:List Int),vs=[.ref a]∧SqL K H a (ns.map V.int)∧ns.length≤63∧∀ H',Q (.bl true) H'
def Us (K:PySem.W.Frag) (mg:Str→Option Value) (st:Stmt) (x n:Str):Prop:=∃ f fd,Fun K n n st f fd∧(∀ (s:Shared) (u:Value),BindsTo s fd ⟨[u],[]⟩ [(x,u)])∧mg n=some (.ref f)
theorem Ut {K:PySem.W.Frag} {h:Heap} {mg:Str→Option Value} {f:Addr} {x n:Str} {st:Stmt} {oc kV dc pm cd ct:Value} {od an:Option Addr} {sl:Array (Option Value)} (X:K.In h) (G:h.Ns mainGlobals mg)
  (a:PySem.W.nsIn K mainGlobals n=some (some (.ref f))) (l:K.lookup f=some ⟨oc,od,.func (PySem.W.fnOf n n (YN st) (YF st) (Yi st) .none kV dc pm an cd ct),sl⟩) (c:PySem.W.codeIn K cd n=true) (k:PySem.W.keepIn K (.ref f)=true)
  (b:∀ (kV doc pm:Value) (an:Option Addr) (cdv ct:Value) (s:Shared) (u:Value),BindsTo s (PySem.W.fnOf n n (YN st) (YF st) (Yi st) .none kV doc pm an cdv ct) ⟨[u],[]⟩ [(x,u)]):Us K mg st x n :=
 ⟨f,_,WX (st:=st) l c k,b kV dc pm an cd ct,PySem.W.mg_of X G a⟩
theorem Qy {l:PySem.W.OpenLaw} {q:Program} {loose:List Str} {XP:(Str→Option Value)→Heap→Prop} {YP:World→Heap→Prop} {d:DefRec} {K:Params→PySem.W.Frag} (k:Nat) (x:Str) (st:Stmt) (N:List Str) (hn:l.most=some 63) (hdf:d.params.defaults=[]) (hk:Room (k+1) callerA) (S:FnScope N [x] (Yi st))
  (hY:∀ (w:World) (h:Heap),YP w h→(K w.params).In h)
  (F:∀ (w:World) (mg:Str→Option Value) (h:Heap),(K w.params).In h→h.Ns mainGlobals mg→Us (K w.params) mg st x d.name∧∀ base,WY (Gx.mk l.prog w (K w.params) mg base) k N d.name st (We (K w.params))) :
  PySem.W.WalkO q loose XP YP l.row.toRowW d [] (fun f vs=>PySem.call f vs):=by
 refine L2.Qv (n:=63) (k:=k+1) (x:=x) (CX:=fun _=>CX0) (sp:=fun w=>We (K w.params)) hn (by decide) hdf hk hY (fun w mg fa h KX G hmg=>?_) (fun _ _ a ns hl _ hS=>⟨a,ns,rfl,hS,hl,fun _=>rfl⟩) fun _ _ _ _ _ z=>z
 obtain ⟨⟨f,fd,Fu,hb,hm⟩,B⟩:=F w mg h KX G
 have e:=hmg.symm.trans hm
 cases e
 exact ⟨fd,hb,fun base _ _=>Fu.ok S (fun vs H Q E h=>by obtain ⟨a,ns,rfl,_⟩:=h;rfl) fun cdv A outer s H vs Q E hr h=>B base fa cdv A outer s H vs Q E hr h⟩
end L2
namespace L2
open PySem PySem.Spec PyProof.Rows
section
variable {X:Cx}
theorem Vy {a:Int} {m:Nat} (h:a.natAbs<2^m):Builtin.Int.intBits a≤m:=by
 unfold Builtin.Int.intBits
 split
 ·omega
 ·rename_i h0
  have h0:a.natAbs≠0:=by simpa using h0
  have:=(Nat.log2_lt h0).mpr h
  omega
def WP (i j:Int):Prop:=∃ m n:Nat,i.natAbs<2^m∧j.natAbs<2^n∧m+n≤100000000
theorem WP.ok {i j:Int} (h:WP i j):IntMulOk i j:=by
 obtain ⟨m,n,h1,h2,h3⟩:=h
 exact IntMulOk.of_le (Vy h1) (Vy h2) (by omega)
def Ql (i j:Int):Prop:=0<j∧j.natAbs<2^9000
theorem X6:OpR X (binaryOp .FloorDiv) (rI Ql fun i j => .int (i / j)):=opI fun i j _ _ _ _ _ hc q=>by
 have h1:(0:Int)<j:=hc.1
 have h2:=hc.2
 have h3:j.natAbs≠0:=by omega
 exact floordiv_int (by omega) (by rw [Int.fdiv_eq_ediv_of_nonneg i (by omega)];exact q) (.inl (PyProof.noPylong_of_log2 ((Nat.log2_lt h3).mpr h2)))
theorem WD {j:Int} (h:0<j) (h2:j<1073741824) {i:Int}:Ql i j:=⟨h,Nat.lt_of_lt_of_le (show j.natAbs<2^30 by omega) (Nat.pow_le_pow_right (by decide) (by decide))⟩
end
end L2
namespace L2
open PySem PySem.Spec PyProof.Rows
theorem Q4 {CX:CXT} {P:Program} {w:World} {K:PySem.W.Frag} {mg:Str→Option Value} {base:Heap} {N:List Str} {qual:Str} {scope:Scope} {f:Addr} {cd:Value} {A:Around} {outer:List Env} {s:Shared} {H:Hp} {E:XK} :
  (Xs CX P w K mg base N qual scope f cd A outer s H E).K=K:=rfl
theorem nox_K {X:Cx}:X.nox.K=X.K:=rfl
section
variable {g:TG} {tb:TS} {D:Ends} {σ:St} {H:Hp}
theorem Vd {ta:TA} {n:Nat} (Pv:Nat→St→Hp→Prop) (ha:∀ R:List V→Hp→Prop,R [.int n] H→ta σ H R) (hn:n<2^62) (h0:Pv 0 σ H)
  (hs:∀ i σ H,i<n→Pv i σ H→g (.int i) σ H fun σ2 H2=>tb { D with nx:=Pv (i+1),ct:=Pv (i+1),bk:=D.nx } σ2 H2) (hd:∀ σ H,Pv n σ H→D.nx σ H):Xg (Qc ta) g tb D σ H:=by
 refine ha _ ⟨n,rfl,by omega,by omega,?_⟩
 refine Ub (lo:=0) (n:=n) Pv h0 (fun i σ H hi p=>?_) hd
 have e:(0:Int)+i=i:=by omega
 rw [e];exact hs i σ H hi p
theorem WE {K:PySem.W.Frag} {tl:TE} {a:Addr} {xs:List V} (Pv:Nat→St→Hp→Prop) (ha:∀ R:V→Hp→Prop,R (.ref a) H→tl σ H R) (h0:Pv 0 σ H) (hl:∀ i σ H,i≤xs.length→Pv i σ H→SqL K H a xs)
  (hs:∀ i x σ H,xs[i]?=some x→Pv i σ H→g x σ H fun σ2 H2=>tb { D with nx:=Pv (i+1),ct:=Pv (i+1),bk:=D.nx } σ2 H2) (hd:∀ σ H,Pv xs.length σ H→D.nx σ H):Xg (WL K tl) g tb D σ H:=by
 refine ha _ ⟨a,rfl,⟨xs,hl 0 σ H (Nat.zero_le _) h0⟩,?_⟩
 exact WS Pv h0 hl hs hd
end
end L2
namespace L2
open PySem PySem.Spec PyProof.Rows
section
variable {X:Cx}
end
def Ite (G:Hp→List V→Prop):It :=
 ⟨fun i H=>∃ xs x,G H xs∧xs[i]?=some x,fun i H v H'=>∃ T,v = .ref T∧H T=none∧∀ xs x,G H xs→xs[i]?=some x→H'=upd H T (.tup [.int i,x]),fun i H=>∃ xs,G H xs∧xs.length≤i⟩
theorem VV {P:Program} {w:World} {K:PySem.W.Frag} {elts:List Expr} {kk:Nat} {pos:Pos} {a e it:Addr} (ne:e≠it) (na:a≠e∧a≠it) :
  Turn P w K (.Tuple elts kk pos) (Ite fun H xs=>SqL K H a xs) [e,it] e (fun i h=>(∃ old,IsEnum h e it i old)∧h.IsListIter it a i) where
 mem:=by simp
 obj:=fun i h ⟨⟨old,he⟩,hi⟩ c hc=>by
  simp only [List.mem_cons,List.not_mem_nil,or_false] at hc
  rcases hc with rfl | rfl
  ·exact ⟨_,he,fun v z=>by cases z⟩
  ·obtain ⟨o,q,_,d⟩:=hi
   exact ⟨o,q,fun v z=>by rw [d] at z;cases z⟩
 keep:=fun i h h' ⟨⟨old,he⟩,hi⟩ q=>⟨⟨old,q e (by simp) _ he⟩,hi.at fun o z=>q it (by simp) o z⟩
 item:=by
  intro X hP hw hK hc i pins s σ H E I hf ⟨⟨old,he⟩,hi⟩ hg
  subst hP hw hK
  obtain ⟨xs,x,g1,hx⟩:=hg
  obtain ⟨its,rv,pl,hz⟩:=I.list g1
  obtain ⟨u,hu,ru⟩:=rv.get hx
  refine wpAny_pyNext_enum_item he hi pl.isList (x:=u) (by simpa using hu) ne fun h1 ho hi1 hT hsz kp=>?_
  refine ⟨_,rfl,?_⟩
  refine wpAny_letOwnedTupleGo_enum (s:={ s with heap:=h1,toks:=s.toks+1 }) ho fun h2 he2 sb=>?_
  have elt:e<s.heap.objs.size:=Heap.lt_size he
  have kp2:∀ c o,c∉[e,it]→s.heap.get? c=some o→h2.get? c=some o:=fun c o hm z=>by
   have c1:c≠e:=fun q=>hm (by simp [q])
   have c2:c≠it:=fun q=>hm (by simp [q])
   exact sb.extBut c o c1 (kp c o c1 c2 z)
  have hT2:h2.get? s.heap.objs.size=some { cls := .type "tuple",data := .seq #[.int i s.toks,u] }:=sb.extBut _ _ (Nat.ne_of_gt elt) hT
  have I':=I.turnedT (t':=s.toks+1) (h':=h2) (T:=s.heap.objs.size) (vs:=[.int i,x]) kp2 hf (Nat.le_refl _) (show Ys X.prog X.w _ h2 _ (.tup [.int i,x]) from ⟨by show 2≤sizeLine;decide,[.int i s.toks,u],.cons ⟨_,rfl⟩ (.cons ru .nil),_,hT2,rfl,_,rfl⟩)
  have fresh:H s.heap.objs.size=none:=I.hok.fresh (Nat.le_refl _)
  refine ⟨.ref s.heap.objs.size,_,I',rfl,⟨_,rfl,fresh,fun xs' x' g1' hx'=>?_⟩,⟨⟨_,by simpa using he2⟩,hi1.at fun o z=>sb.extBut _ _ (Ne.symm ne) z⟩,fun c hm=>?_⟩
  ·rw [I.list_inj g1' g1,hx] at hx'
   cases hx'
   rfl
  ·have h0:=(hf c hm).1
   have clt:c<s.heap.objs.size:=by
    simp only [List.mem_cons,List.not_mem_nil,or_false] at hm
    rcases hm with rfl | rfl
    ·exact elt
    ·obtain ⟨o,q,_⟩:=hi;exact Heap.lt_size q
   rw [Yg (Nat.ne_of_lt clt)]
   exact h0
 done:=by
  intro X hP hw hK hc i pins s σ H E I hf ⟨⟨old,he⟩,hi⟩ hg
  subst hP hw hK
  obtain ⟨xs,g1,hx⟩:=hg
  obtain ⟨its,rv,pl,hz⟩:=I.list g1
  have hl:=rv.length
  obtain ⟨f0,f1,f2,f3,f4,f5⟩:=hf it (by simp)
  exact wpAny_pyNext_enum_end (I.ok.hd hc) he hi pl.isList (by simp;omega) fun h' eb=>⟨rfl,I.turned (t':=s.toks) (fun b o hb z=>eb b o hb z) f0 f1 f3 f4 f5⟩
 self:=fun _ _ _ _ _ ⟨⟨_,he⟩,_⟩ h=>wpAny_pyIter_enum he h
section
variable {X:Cx} {elts:List Expr} {kk:Nat} {tpos:Pos}
def Q5 (K:PySem.W.Frag) (ta:TA):TI:=fun σ H R=>ta σ H fun vs H1=>∃ a xs,vs=[.ref a]∧SqL K H1 a xs∧R (Ite fun H xs=>SqL K H a xs) H1
theorem UN {a:Expr} {ta:TA} {p pos:Pos} (hg:Gl X "enumerate") (hm:X.mg "enumerate"=none) (ha:PA X [a] ta) (hs:starEach [a] X.env=[(false,eval a X.env)]) :
  PI X (.Tuple elts kk tpos) (.Call (.Name "enumerate" p) [a] [] pos) (Q5 X.K ta):=by
 intro pins s σ H R I h
 refine Call_ (XL I hg hm boot_enumerate (PyProof.Rows.callWith_type1 (thn (ha pos pins s σ H _ I h) fun us s1 ⟨vs,H1,I1,r1,q1⟩=>?_) hs rfl))
 obtain ⟨x,xs,e,hx,q⟩:=q1
 subst e
 obtain ⟨u,rfl,ru⟩:=Wc r1
 cases ru
 obtain ⟨i1,_,pl,_⟩:=I1.list hx
 have l1:x<s1.heap.objs.size:=by obtain ⟨_,e,_⟩:=pl.isList;exact Heap.lt_size e
 refine call_enumerate_list pl.isList fun h' he hi hsz keep=>?_
 refine wpAny_pyIter_enum he ?_
 have I2:Inv X pins σ H1 { s1 with heap:=h' }:=I1.kept (t':=s1.toks) keep
 have l1':@LT.lt Nat _ x s1.heap.objs.size:=l1
 refine ⟨_,[s1.heap.objs.size+1,s1.heap.objs.size],_,_,H1,rfl,I2,VV (by intro z;have z':@Eq Nat _ _:=z;omega) ⟨by intro z;have z':@Eq Nat _ _:=z;omega,by intro z;have z':@Eq Nat _ _:=z;omega⟩,⟨⟨_,he⟩,hi⟩,fun c hc=>?_,q⟩
 have hle:s1.heap.objs.size≤c:=by
  simp only [List.mem_cons,List.not_mem_nil,or_false] at hc
  rcases hc with e | e<;>(have e':@Eq Nat _ _:=e;show @LE.le Nat _ s1.heap.objs.size c;omega)
 exact I1.fpOk hle (I1.hok.fresh hle)
end
end L2
namespace L2
open PySem PySem.Spec PyProof.Rows
mutual
inductive Den (K:PySem.W.Frag) (H:Hp):V→PyData→Prop
 | non:Den K H .non .none
 | bl (b:Bool):Den K H (.bl b) (.bool b)
 | int (i:Int):Den K H (.int i) (.int i)
 | str (x:Str) (h:PyData.strOk x=true):Den K H (.str x) (.str x)
 | lst {a:Addr} {vs:List V} {ds:List PyData}:SqL K H a vs→Dens K H vs ds→Den K H (.ref a) (.list ds)
 | tup {a:Addr} {vs:List V} {ds:List PyData}:SqT K H a vs→Dens K H vs ds→Den K H (.ref a) (.tuple ds)
inductive Dens (K:PySem.W.Frag) (H:Hp):List V→List PyData→Prop
 | nil:Dens K H [] []
 | cons {v:V} {d:PyData} {vs:List V} {ds:List PyData}:Den K H v d→Dens K H vs ds→Dens K H (v::vs) (d::ds)
end
mutual
theorem Den.keep {K:PySem.W.Frag} {H H':Hp} (e:Yd H H'):∀ {v:V} {d:PyData},Den K H v d→Den K H' v d
 | _,_,.non => .non
 | _,_,.bl b => .bl b
 | _,_,.int i => .int i
 | _,_,.str x h => .str x h
 | _,_,.lst h hs => .lst (e.seq h) (hs.keep e)
 | _,_,.tup h hs => .tup (e.tup h) (hs.keep e)
theorem Dens.keep {K:PySem.W.Frag} {H H':Hp} (e:Yd H H'):∀ {vs:List V} {ds:List PyData},Dens K H vs ds→Dens K H' vs ds
 | _,_,.nil => .nil
 | _,_,.cons h hs => .cons (h.keep e) (hs.keep e)
end
mutual
theorem Den.lay {K:PySem.W.Frag} {H:Hp}:∀ {v:V} {d:PyData},Den K H v d→d.canLay0=true
 | _,_,.non=>rfl
 | _,_,.bl b=>rfl
 | _,_,.int i=>rfl
 | _,_,.str x h=>by simpa [PyData.canLay0] using h
 | _,_,.lst _ hs=>by rw [PyData.canLay0];exact hs.lay
 | _,_,.tup _ hs=>by rw [PyData.canLay0];exact hs.lay
theorem Dens.lay {K:PySem.W.Frag} {H:Hp}:∀ {vs:List V} {ds:List PyData},Dens K H vs ds→PyData.canLayAll0 ds=true
 | _,_,.nil=>rfl
 | _,_,.cons h hs=>by rw [PyData.canLayAll0,h.lay,hs.lay];rfl
end
theorem Dens.length {K:PySem.W.Frag} {H:Hp}:∀ {vs:List V} {ds:List PyData},Dens K H vs ds→vs.length=ds.length
 | _,_,.nil=>rfl
 | _,_,.cons _ hs=>congrArg (·+1) hs.length
theorem Dens.append {K:PySem.W.Frag} {H:Hp} {vs':List V} {ds':List PyData}:∀ {vs:List V} {ds:List PyData},Dens K H vs ds→Dens K H vs' ds'→Dens K H (vs++vs') (ds++ds')
 | _,_,.nil,h=>h
 | _,_,.cons a b,h => .cons a (b.append h)
section
variable {X:Cx}
mutual
theorem Den.reads {pins:List (Addr×Obj)} {σ:St} {H:Hp} {s:Shared} (I:Inv X pins σ H s):∀ {v:V} {d:PyData} {u:Value},Den X.K H v d→Ym v u→∃ as,Reads s.heap u d as
 | _,_,u,.non,r=>by cases (show u = .none from r);exact ⟨_,.none⟩
 | _,_,u,.bl b,r=>by cases (show u = .bool b from r);exact ⟨_,.bool b⟩
 | _,_,u,.int i,r=>by obtain ⟨t,rfl⟩:=r;exact ⟨_,.int i t⟩
 | _,_,u,.str x h,r=>by obtain ⟨t,rfl⟩:=r;exact ⟨_,.str x t⟩
 | _,_,u,.lst (a:=a) h hs,r=>by
  cases (show u = .ref a from r)
  obtain ⟨its,rv,pl,hz⟩:=I.list h
  obtain ⟨as,ra⟩:=hs.reads I rv
  obtain ⟨o,e1,e2,n,e3⟩:=pl.isList
  exact ⟨_,.list e1 e2 e3 (by simpa using ra)⟩
 | _,_,u,.tup (a:=a) h hs,r=>by
  cases (show u = .ref a from r)
  obtain ⟨its,rv,pl,hz⟩:=I.tuple h
  obtain ⟨as,ra⟩:=hs.reads I rv
  obtain ⟨o,e1,e2,n,e3⟩:=(show s.heap.IsTuple a its.toArray from pl)
  exact ⟨_,.tuple e1 e2 e3 (by simpa using ra)⟩
theorem Dens.reads {pins:List (Addr×Obj)} {σ:St} {H:Hp} {s:Shared} (I:Inv X pins σ H s):∀ {vs:List V} {ds:List PyData} {us:List Value},Dens X.K H vs ds→Yj vs us→∃ as,ReadsAll s.heap us ds as
 | _,_,us,.nil,r=>by cases r;exact ⟨_,.nil⟩
 | _,_,us,.cons h hs,r=>by
  cases r with
  | cons r rr =>
   obtain ⟨as,ra⟩:=h.reads I r
   obtain ⟨bs,rb⟩:=hs.reads I rr
   exact ⟨_,.cons ra rb⟩
end
theorem Q6 (hu:X.A.units+64<cLine):OpR X (compareOp .NotEq) (fun x y H Q=>∃ d e,Den X.K H x d∧Den X.K H y e∧d.depth≤64∧Q (.bl (!PyData.eqv d e)) H):=by
 intro pins s σ H x y v u Q I rx ry h
 obtain ⟨d,e,hd,he,dp,q⟩:=h
 obtain ⟨as,ra⟩:=hd.reads I rx
 obtain ⟨bs,rb⟩:=he.reads I ry
 exact SeqAt.compareNe_reads ra rb hd.lay he.lay (by omega) ⟨.bl _,H,I,rfl,q⟩
end
theorem Ve (K:PySem.W.Frag) (i j:Nat):∀ x σ H Q Q',(∀ σ' H',Q σ' H'→Q' σ' H')→Wq K 2 (Xa (YX i) (Xa (YX j) Wp)) x σ H Q→Wq K 2 (Xa (YX i) (Xa (YX j) Wp)) x σ H Q':=by
 rintro x σ H Q Q' h ⟨a,xs,e,sq,l,v,r,e1,v2,r2,e2,e3,q⟩
 exact ⟨a,xs,e,sq,l,v,r,e1,v2,r2,e2,e3,h _ _ q⟩
end L2
namespace L2
open PySem PySem.Spec PyProof.Rows
section
variable {a b c d e r:TS} {D:Ends} {σ:St} {H:Hp} (M:St→Hp→Prop) (h1:∀ σ H,M σ H→r D σ H)
include h1
theorem Xu (h2:∀ N:St→Hp→Prop,(∀ σ H,M σ H→N σ H)→a { D with nx:=N } σ H):X4 a r D σ H:=h2 (r D) h1
theorem cut2 (h2:∀ N:St→Hp→Prop,(∀ σ H,M σ H→N σ H)→X4 a b { D with nx:=N } σ H):X4 a (X4 b r) D σ H:=h2 (r D) h1
end
theorem Qz (i j:Int):VM (.int i) (.int j)=true:=rfl
theorem QA (i j:Str):VM (.str i) (.str j)=true:=rfl
theorem WZ {α:Type} (xs:List α) (i j:Nat):(xs.drop (min i xs.length)).take (min j xs.length - min i xs.length)=(xs.drop i).take (j - i):=by
 by_cases hi:i≤xs.length
 ·rw [Nat.min_eq_left hi]
  by_cases hj:j≤xs.length
  ·rw [Nat.min_eq_left hj]
  ·rw [Nat.min_eq_right (by omega),List.take_of_length_le (by rw [List.length_drop];omega),List.take_of_length_le (by rw [List.length_drop];omega)]
 ·rw [List.drop_of_length_le (by omega),List.drop_of_length_le (show xs.length≤i by omega)]
  simp
theorem QB (xs:List V) (i j:Nat):Xh xs (some (i:Int)) (some (j:Int))=(xs.drop i).take (j - i):=by
 unfold Xh
 rw [HT.sIx_nat,HT.sIx_nat]
 exact WZ xs i j
theorem QC (xs:List V) (j:Nat):Xh xs none (some (j:Int))=xs.take j:=by
 unfold Xh
 rw [HT.sIx_nat,HT.sIx_none,List.drop_zero,Nat.sub_zero]
 have:=WZ xs 0 j
 simpa using this
theorem QD (xs:List V) (i:Nat):Xh xs (some (i:Int)) none=xs.drop i:=by
 unfold Xh
 rw [HT.sIx_nat,HT.sIx_none]
 by_cases hi:i≤xs.length
 ·rw [Nat.min_eq_left hi,List.take_of_length_le (by rw [List.length_drop];omega)]
 ·rw [List.drop_of_length_le (by omega),List.drop_of_length_le (show xs.length≤i by omega)]
  simp
end L2
namespace L2
open PySem PySem.Spec PyProof.Rows
section
variable {X:Cx} {tg:Expr}
end
end L2
namespace L2
open PySem PySem.Spec PyProof.Rows
theorem Wf {g:TG} {tb:TS} {D:Ends} {σ:St} {H:Hp} {K:PySem.W.Frag} {tl:TE} {xs:List V} (Pv:Addr→Nat→St→Hp→Prop) (ha:∀ R:V→Hp→Prop,(∀ c H1,Pv c 0 σ H1→R (.ref c) H1)→tl σ H R) (hl:∀ c i σ H,i≤xs.length→Pv c i σ H→SqL K H c xs)
  (hs:∀ c (i:Nat) x σ H,xs[i]?=some x→Pv c i σ H→g x σ H fun σ2 H2=>tb { D with nx:=Pv c (i+1),ct:=Pv c (i+1),bk:=D.nx } σ2 H2) (hd:∀ c σ H,Pv c xs.length σ H→D.nx σ H):Xg (WL K tl) g tb D σ H:=by
 refine ha _ fun c H1 h0=>⟨c,rfl,⟨xs,hl c 0 σ H1 (Nat.zero_le _) h0⟩,?_⟩
 exact WS (Pv c) h0 (hl c) (hs c) (hd c)
theorem getI {ns:List Int} {i:Nat} {x:V} (h:(ns.map V.int)[i]?=some x):∃ z:Int,ns[i]?=some z∧x = .int z:=by
 rw [List.getElem?_map] at h
 cases e:ns[i]? with
 | none=>rw [e] at h;cases h
 | some z=>rw [e] at h;exact ⟨z,rfl,(Option.some.inj h).symm⟩
end L2
namespace L2
open PySem PySem.Spec PyProof.Rows
section
variable {src:List (Option Nat)} {te:TE} {σ:St} {H:Hp} {Q:VK}
end
end L2
namespace L2
open PySem PySem.Spec PyProof.Rows
section
variable {src:List (Option Nat)} {te:TE} {σ:St} {H:Hp} {Q:VK}
end
section
variable {X:Cx} {K:PySem.W.Frag}
theorem UO (h:X.K=K:=by rfl):IxR X (rIxL K):=by subst h;exact Y5
end
end L2
namespace L2
open PySem PySem.Spec PyProof.Rows
section
variable {tb:TS} {D:Ends} {σ:St} {H:Hp}
end
end L2
namespace L2
open PySem PySem.Spec PyProof.Rows
section
variable {X:Cx} {e st:Expr} {te ts:TE} {pos p2:Pos}
def tRev (K:PySem.W.Frag) (te ts:TE):TE:=fun σ H Q=>te σ H fun x H1=>ts σ H1 fun y H2=>y = .int (-1)∧∃ a xs,x = .ref a∧SqL K H2 a xs∧∀ p,H2 p=none→Q (.ref p) (upd H2 p (.lst xs.reverse))
end
end L2
namespace L2
open PySem PySem.Spec PyProof.Rows
section
variable {X:Cx} {pos:Pos}
def rBits:V→List V→Hp→VK→Prop:=fun x vs H Q=>∃ i,x = .int i∧vs=[]∧Q (.int (Builtin.Int.intBits i:Nat)) H
def rFind:V→List V→Hp→VK→Prop:=fun x vs H Q=>∃ (z y:Str),x = .str z∧vs=[.str y]∧Q (.int (Txt.find z y)) H
def Q7:TE:=fun _ H Q=>∀ p,H p=none→Q (.ref p) (upd H p (.dK []))
end
section
variable {X:Cx} {g:Gx} {x:Str} {pos:Pos}
def tConT (K:PySem.W.Frag) (xs:List V):TE:=fun _ H Q=>∀ c,SqT K H c xs→Q (.ref c) H
end
end L2
namespace L2
open PySem PySem.Spec PyProof.Rows
theorem YT {c A B:Prop} [Decidable c] (h:¬ c) (hb:B):if c then A else B:=by rw [if_neg h];exact hb
theorem XR {c A B:Prop} [Decidable c] (h:c) (ha:A):if c then A else B:=by rw [if_pos h];exact ha
section
variable {src:List (Option Nat)} {te:TE} {σ:St} {H:Hp} {Q:VK}
end
section
variable {X:Cx} {K:PySem.W.Frag} {o e:Expr} {es:List Expr} {to:TE} {t:TA} {name:Str} {apos cpos:Pos} {T id:String} {r:V→List V→Hp→VK→Prop}
end
section
variable {X:Cx}
def Qm (i j:Int):Prop:=WP i j∨CMul i j
theorem Vz:OpR X (binaryOp .Mult) (rI Qm fun i j => .int (i*j)):=opI fun _ _ _ _ _ _ _ hc q=>mul_int q (hc.elim (fun h=>h.ok) fun h=>h.ok)
end
end L2
namespace L2
open PySem PySem.Spec PyProof.Rows
section
variable {prog:Program} {w:World} {A:Around} {E:Value→Shared→Prop} {s:Shared} {z TI TO i1 i2 T:Addr} {S1 S2:Nat→Heap→Prop} {R1 R2:Heap→(Nat→Option Value)→Prop} {g1 g2:Nat→Option Value} {k:Nat} {a b:Value} {f:Bool} {oT:Obj}
end
section
variable {prog:Program} {w:World} {A:Around} {s:Shared} {R:Result→Shared→Prop} {z TI TO i1 i2 S p1 p2:Addr} {xs ys:List Value}
end
end L2
namespace L2
open PySem PySem.Calls PySem.Spec PyProof.Rows PyProof.V
section
variable {prog:Program} {w:World} {A:Around} {E:Value→Shared→Prop} {s:Shared} {z TI TO i1 i2 p1 p2:Addr} {xs ys:List Value}
end
end L2
namespace L2
open PySem PySem.Spec PyProof.Rows
section
variable {X:Cx} {pins:List (Addr×Obj)} {σ:St} {H H':Hp} {s:Shared} {h':Heap}
end
section
variable {X:Cx}
def tLZ (K:PySem.W.Frag) (ta:TA):TE:=fun σ H Q=>ta σ H fun vs H1=>∃ a b xs ys,vs=[.ref a,.ref b]∧SqT K H1 a xs∧SqT K H1 b ys∧xs.length=ys.length ∧
 ∀ (l:Addr) (as:List Addr) (H2:Hp),H1 l=none→Yd H1 H2→H2 l=some (.lst (as.map V.ref))→as.length=xs.length →
  (∀ (j:Nat) a x y,as[j]?=some a→xs[j]?=some x→ys[j]?=some y→H1 a=none∧H2 a=some (.tup [x,y]))→Q (.ref l) H2
end
end L2
namespace L2
open PySem PySem.Spec PyProof.Rows
section
variable {src:List (Option Nat)} {te:TE} {σ:St} {H:Hp} {Q:VK}
end
end L2
namespace L2
open PySem PySem.Spec PyProof.Rows
section
variable {X:Cx}
end
end L2
namespace L2
open PySem PySem.Spec PyProof.Rows
def Yl {α:Type}:Sem α→Prop
 | .pure _=>True
 | .raise _=>True
 | .unsupported _=>True
 | .rule _ k=>Yl (k ())
 | .at _ k=>Yl (k ())
 | .load _ _ k=>∀ o,Yl (k o)
 | .update _ _ f k=>(∀ o:Obj,(f o).dict=o.dict∧(f o).isFreed=o.isFreed)∧Yl (k ())
 | .alloc _ k=>∀ a,Yl (k a)
 | .stack k=>∀ x,Yl (k x)
 | _=>False
def YM (h:Heap) (e:Addr) (dc:Option Addr):Prop:=∃ o,h.get? e=some o∧o.dict=dc
theorem Uu {α β:Type} {f:α→Sem β} (m:Sem α):Yl m→(∀ a,Yl (f a))→Yl (m.bind f):=by
 induction m with
 | pure a=>intro _ hf;exact hf a
 | raise e=>intro _ _;simp only [Sem.bind,Yl]
 | unsupported e=>intro _ _;simp only [Sem.bind,Yl]
 | rule n k ih=>intro h hf;simp only [Yl] at h;simp only [Sem.bind,Yl];exact ih () h hf
 | «at» n k ih=>intro h hf;simp only [Yl] at h;simp only [Sem.bind,Yl];exact ih () h hf
 | load a b k ih=>intro h hf;simp only [Yl] at h;simp only [Sem.bind,Yl];exact fun o=>ih o (h o) hf
 | update a b g k ih=>intro h hf;simp only [Yl] at h;simp only [Sem.bind,Yl];exact ⟨h.1,ih () h.2 hf⟩
 | alloc a k ih=>intro h hf;simp only [Yl] at h;simp only [Sem.bind,Yl];exact fun o=>ih o (h o) hf
 | stack k ih=>intro h hf;simp only [Yl] at h;simp only [Sem.bind,Yl];exact fun o=>ih o (h o) hf
 | _=>intro h;simp only [Yl] at h
theorem QE {M:Model} {Γ:PySem.Ctx} {α:Type} {Q:α→Pos→Shared→Prop} {E:Value→Pos→Shared→Prop} {e:Addr} {dc:Option Addr} (t:Sem α):Yl t→∀ (p:Pos) (s:Shared),Sem.wp M Γ t Q E p s→YM s.heap e dc→Sem.wp M Γ t (fun a p s'=>Q a p s'∧YM s'.heap e dc) (fun v p s'=>E v p s'∧YM s'.heap e dc) p s:=by
 induction t with
 | pure a=>intro _ p s h d;simp only [Sem.wp] at h ⊢;exact ⟨h,d⟩
 | raise a=>intro _ p s h d;simp only [Sem.wp] at h ⊢;exact ⟨h,d⟩
 | unsupported a=>intro _ p s h d;simp only [Sem.wp] at h
 | rule n k ih=>intro t p s h d;simp only [Yl] at t;simp only [Sem.wp] at h ⊢;exact ih () t p s h d
 | «at» n k ih=>intro t p s h d;simp only [Yl] at t;simp only [Sem.wp] at h ⊢;exact ih () t n s h d
 | load a b k ih=>intro t p s h d;simp only [Yl] at t;simp only [Sem.wp] at h ⊢;obtain ⟨o,h1,h2⟩:=h;exact ⟨o,h1,ih o (t o) p s h2 d⟩
 | update a b f k ih =>
  intro t p s h d
  simp only [Yl] at t
  simp only [Sem.wp] at h ⊢
  obtain ⟨o,d1,d2⟩:=d
  refine ⟨h.1,ih () t.2 p _ h.2 ?_⟩
  by_cases c:a=e
  ·subst c
   exact ⟨f o,Heap.get?_update_self f d1 (by rw [(t.1 o).2];exact (Heap.get?_some_iff.mp d1).2),by rw [(t.1 o).1];exact d2⟩
  ·exact ⟨o,(Heap.get?_update_other _ _ c).trans d1,d2⟩
 | alloc a k ih=>intro t p s h d;simp only [Yl] at t;simp only [Sem.wp] at h ⊢;obtain ⟨o1,d1,d2⟩:=d;exact ih _ (t _) p _ h ⟨o1,Heap.get?_push_of_some _ d1,d2⟩
 | stack k ih=>intro t p s h d;simp only [Yl] at t;simp only [Sem.wp] at h ⊢;exact ih _ (t _) p s h d
 | _=>intro t;simp only [Yl] at t
theorem Xj {M:Model} {A:Around} {α:Type} {t:Sem α} {Q:α→Shared→Prop} {E:Value→Shared→Prop} {s:Shared} {e:Addr} {dc:Option Addr} (T:Yl t) (d:YM s.heap e dc) (h:wpAny M A t Q E s):wpAny M A t (fun a s'=>Q a s'∧YM s'.heap e dc) (fun v s'=>E v s'∧YM s'.heap e dc) s :=
 fun Γ p hΓ=>QE t T p s (h Γ p hΓ) d
theorem Yr {α β:Type} {m:Sem α} {f:α→Sem β} (h:Yl m) (hf:∀ a,Yl (f a)):Yl (m >>= f):=Uu m h hf
theorem XA {α:Type} (a:α):Yl (pure a:Sem α):=trivial
theorem Q8 {α:Type} (x:String):Yl (unsupported x:Sem α):=trivial
theorem VW:Yl stack:=fun _=>trivial
theorem UP (a:Addr) (f:Obj→Obj) (h:∀ o:Obj,(f o).dict=o.dict∧(f o).isFreed=o.isFreed):Yl (update a f):=⟨h,trivial⟩
theorem WI (v:Value):Yl (fieldsOf v):=by
 unfold fieldsOf
 cases v<;>first | trivial | skip
 refine Yr (fun o=>trivial) fun o=>?_
 cases o.data<;>trivial
theorem Xe (v:Value) (i:Nat):Yl (field v i):=by
 unfold field
 refine Yr (WI v) fun vs=>?_
 cases vs[i]?<;>trivial
theorem mapF (f:Array Value→Array Value) (o:Obj):(Obj.mapFields f o).dict=o.dict∧(Obj.mapFields f o).isFreed=o.isFreed:=by
 obtain ⟨c,d,dt,sl⟩:=o
 cases dt<;>exact ⟨rfl,rfl⟩
theorem X7 (a:Addr) (i:Nat) (v:Value):Yl (updateField a i v):=by
 unfold updateField
 refine Yr (fun o=>trivial) fun o=>?_
 cases o.data with
 | fields vs =>
  dsimp only
  split
  ·exact ⟨mapF _,trivial⟩
  ·trivial
 | _=>trivial
theorem Y0 (v:Value) (i:Nat) (x:Value):Yl (setField v i x):=by
 unfold setField
 cases v<;>first | trivial | exact X7 _ _ _
theorem Y6 (v:Value) (f:Option Addr):Yl (setFlight v f):=by
 unfold setFlight
 refine Yr (Xe _ _) fun tb=>?_
 split
 ·exact Y0 _ _ _
 ·trivial
theorem WJ (env:Env) (b:Bool) (l:List Env):Yl (keptBack env b l):=by
 cases l with
 | nil =>
  rw [keptBack]
  by_cases c:(env.scope.isGenerator||env.scope.isCoroutine)=true
  ·rw [if_pos c];exact XA _
  ·rw [if_neg c]
   refine Yr ?_ fun x=>XA _
   unfold underTheClaimsCaller
   exact Yr VW fun x=>XA _
 | cons x r=>rw [keptBack];exact XA _
theorem Wg:∀ l:List Env,Yl (readyFrames l)
 | []=>trivial
 | env::outer=>by
  unfold readyFrames
  cases env.frame with
  | none=>trivial
  | some f =>
   dsimp only
   refine Yr (fun o=>trivial) fun o=>?_
   split
   ·trivial
   ·refine Yr ?_ fun b=>Yr (WJ _ _ _) fun k=>Yr (UP _ _ fun o=>by obtain ⟨c,d,dt,sl⟩:=o;cases dt<;>exact ⟨rfl,rfl⟩) fun _=>Wg outer
    unfold behindIsImport
    split
    ·trivial
    ·split
     ·trivial
     ·exact Yr (Xe _ _) fun x=>trivial
theorem XS (env:Env):Yl (PySem.frameOf env):=by
 unfold PySem.frameOf frameEnvs
 refine Yr (Yr (fun x=>trivial) fun x=>trivial) fun l=>?_
 generalize l.dropWhile _=l'
 refine Yr ?_ fun r=>?_
 ·cases l' with
  | nil=>trivial
  | cons x r =>
   unfold frameObject
   exact Yr (Wg _) fun _=>trivial
 ·cases r<;>trivial
theorem Ws (ty:String) (vs:List Value):Yl (newFields ty vs):=by
 unfold newFields newObj
 dsimp only
 split
 ·exact Yr (Q8 _) fun _=>Yr (fun _=>trivial) fun _=>XA _
 ·exact Yr (m:=alloc _) (fun _=>trivial) fun _=>XA _
theorem XJ (a b c d e:Value) (pl:List Value):Yl (EntryCells.newEntry a b c d e pl):=Ws _ _
theorem Wh (f:Addr) (b:Bool):Yl (entryPlaceOf f b):=by
 unfold entryPlaceOf
 refine Yr (fun x=>trivial) fun l=>?_
 split<;>trivial
theorem XB (e:Value) (env:Env):Yl (noteFrame e env):=by
 unfold noteFrame
 cases env.frame with
 | none=>trivial
 | some f =>
  dsimp only
  refine Yr (Xe _ _) fun hd=>?_
  split
  ·refine Yr (Xe _ _) fun x=>?_
   split
   ·trivial
   ·exact Yr (Y0 _ _ _) fun _=>Yr (XS _) fun _=>Yr (Wh _ _) fun _=>Yr (XJ _ _ _ _ _ _) fun _=>Y0 _ _ _
  ·exact Yr (XS _) fun _=>Yr (Wh _ _) fun _=>Yr (XJ _ _ _ _ _ _) fun _=>Y0 _ _ _
theorem XT (env:Env) (e:Value):Yl (leaving env e):=by
 unfold leaving
 exact Yr (XB _ _) fun _=>Y6 _ _
structure Fly (P:Program) (w:World) (l:List Env) (H:Hp) (h:Heap) (e:Addr) (cls:Value) (H':Hp) (h' B:Heap):Prop where
 fl:∃ a0,Heap.FlyingW B l e cls a0 h'
 hok:HOk P w H' B
 keep:∀ b o,h.get? b=some o→H b=none→b∉frs l→B.get? b=some o
 slot:∀ b o,h.get? b=some o→H b=none→b∈frs l→∃ sl,h'.get? b=some { o with slots:=sl }
 al:∀ b o,h.get? b=some o→b∉frs l→∃ o',B.get? b=some o'
 free:∀ b o,h.get? b=some o→H b=none→H' b=none
 tups:∀ b xs,H b=some (.tup xs)→H' b=some (.tup xs)
 frzs:∀ b o u,H b=some (.frz o u)→H' b=some (.frz o u)
 tbls:∀ b ps,H b=some (.tbl ps)→∃ more,H' b=some (.tbl (ps++more))
section
variable {P:Program} {w:World} {l:List Env} {H H':Hp} {h h' h'' B:Heap} {e:Addr} {cls:Value}
theorem Fly.un (F:Fly P w l H h e cls H' h' B) (hf:∀ b∈frs l,H b=none):Un (frs l) [] H H' h h':=by
 obtain ⟨a0,fl⟩:=F.fl
 refine ⟨fun b o q n hb _=>fl.1 b o (F.keep b o q n hb),fun b o q n hb _=>F.slot b o q n hb,fun b o q n _=>F.free b o q n,fun b o q _=>?_,F.tups,F.frzs,F.tbls⟩
 by_cases hb:b∈frs l
 ·obtain ⟨sl,z⟩:=F.slot b o q (hf b hb) hb
  exact ⟨_,z⟩
 ·obtain ⟨o',z⟩:=F.al b o q hb
  exact ⟨o',fl.1 b o' z⟩
theorem Fly.held (F:Fly P w l H h e cls H' h' B):HOk P w H' h':=by
 obtain ⟨a0,fl⟩:=F.fl
 exact F.hok.kept fl.1
theorem Fly.on (F:Fly P w l H h e cls H' h' B) (fl:∃ a0,Heap.FlyingW B l e cls a0 h'') (nf:∀ b∈frs l,∀ o,h.get? b=some o→∀ vs,o.data ≠ .fields vs) (sm:h'.UpToSlots h''):Fly P w l H h e cls H' h'' B :=
 ⟨fl,F.hok,F.keep,fun b o q n hb=>by
  obtain ⟨sl,z⟩:=F.slot b o q n hb
  obtain ⟨sl',z'⟩:=sm b _ z (nf b hb o q)
  exact ⟨sl',z'⟩,F.al,F.free,F.tups,F.frzs,F.tbls⟩
end
section
variable {X:Cx} {pins:List (Addr×Obj)} {σ:St} {H H':Hp} {s s':Shared} {h' B:Heap} {e:Addr} {cls:Value} {M:Model} {A:Around} {Q:Unit→Shared→Prop} {EE:Value→Shared→Prop}
theorem Inv.notL (I:Inv X pins σ H s) {b:Addr} {o:Obj} (q:X.s₀.heap.get? b=some o):b≠X.env.locals:=Nat.ne_of_lt (Nat.lt_of_lt_of_le (Heap.lt_size q) I.ok.above)
theorem Inv.notStk (I:Inv X pins σ H s) (hf:X.env.frame=some X.env.locals) {b:Addr} {o:Obj} (q:X.s₀.heap.get? b=some o) (n:b∉X.fs):b∉frs (X.env::X.outer):=fun z=>by
 unfold frs at z
 rw [List.filterMap_cons,hf] at z
 rcases List.mem_cons.mp z with z | z
 ·exact I.notL q z
 ·exact n z
theorem Inv.inStk (I:Inv X pins σ H s) (hf:X.env.frame=some X.env.locals) {b:Addr} (n:b∈X.fs):b∈frs (X.env::X.outer):=by
 unfold frs
 rw [List.filterMap_cons,hf]
 exact List.mem_cons_of_mem _ n
theorem Inv.leave_on (I:Inv X pins σ H s) (hs:X.stack=X.env::X.outer) (hf:X.env.frame=some X.env.locals) (hex:X.ex=[]) (hA:A.frames=some (X.env::X.outer)) (F:Fly X.prog X.w X.stack H s.heap e cls H' s'.heap B) {dc:Option Addr} (hd:YM s'.heap e dc)
  (hQ:∀ h'',Fly X.prog X.w X.outer X.H₀ X.s₀.heap e cls H' h'' B→YM h'' e dc→Q () { s' with heap:=h'' }):wpAny M A (leaving X.env (.ref e)) Q EE s':=by
 have nx:∀ b:Addr,b∉X.ex:=by
  rw [hex]
  intro b z
  cases z
 rw [hs] at F
 obtain ⟨a0,fl⟩:=F.fl
 refine wpAny_mono (Xj (XT _ _) hd (wpAny_leaves_onW (Q:=fun _ s2=>∃ h'',s2={ s' with heap:=h'' }∧Fly X.prog X.w X.outer X.H₀ X.s₀.heap e cls H' h'' B) hA hf fl fun h'' x1 x2=>⟨h'',rfl,?_⟩)) (fun _ s2 z=>by
  obtain ⟨⟨h'',rfl,F⟩,d⟩:=z
  exact hQ h'' F d) fun _ _ z=>z.1
 refine ⟨⟨_,x1⟩,F.hok,fun b o q n nb=>F.keep b o (I.base.keep b o q n nb (nx b)) (I.base.free b o q n (nx b)) (I.notStk hf q nb),fun b o q n hb=>?_,fun b o q nb=>?_,fun b o q n=>?_,fun b xs q=>F.tups b xs (I.base.tups b xs q),fun b o u q=>F.frzs b o u (I.base.frzs b o u q),fun b ps q=>?_⟩
 ·obtain ⟨sl,e1⟩:=I.base.slot b o q n hb (nx b)
  obtain ⟨sl1,e2⟩:=F.slot b _ e1 (I.base.free b o q n (nx b)) (I.inStk hf hb)
  obtain ⟨_,o',e',d⟩:=I.ok.funs.mem hb
  rw [q] at e'
  cases e'
  obtain ⟨sl',e3⟩:=x2 b _ e2 d
  exact ⟨sl',e3⟩
 ·obtain ⟨o',e1⟩:=I.base.there b o q (nx b)
  exact F.al b o' e1 (I.notStk hf q nb)
 ·obtain ⟨o',e1⟩:=I.base.there b o q (nx b)
  exact F.free b o' e1 (I.base.free b o q n (nx b))
 ·obtain ⟨m1,e1⟩:=I.base.tbls b ps q
  obtain ⟨m2,e2⟩:=F.tbls b _ e1
  exact ⟨m1++m2,by rw [e2,Array.append_assoc]⟩
end
def CXF (P:Program) (w:World):CXT:=fun l H s E e s'=>∃ (a:Addr) (cls:Value) (H':Hp) (B:Heap) (dc:Option Addr),e = .ref a∧s'.os=s.os∧AllBare s'.gens∧Fly P w l H s.heap a cls H' s'.heap B∧YM s'.heap a dc∧E cls dc H'
abbrev Gx.cxX (g:Gx) (N:List Str) (qual:Str) (st:Stmt) (f:Addr) (cdv:Value) (A:Around) (outer:List Env) (s:Shared) (H:Hp) (E:XK):Cx:=Xs (CXF g.P g.w) g.P g.w g.K g.mg g.base N qual (Yi st) f cdv A outer s H E
section
variable {g:Gx} {N:List Str} {qual:Str} {st:Stmt} {f:Addr} {cdv:Value} {A:Around} {outer:List Env} {s:Shared} {H:Hp} {E:XK}
theorem Xb:Xx (CXF g.P g.w) (g.cxX N qual st f cdv A outer s H E) E:=by
 intro pins σ H1 s1 e s' I hq
 obtain ⟨a,cls,H',B,dc,he,os,bare,F,hd,q⟩:=hq
 subst he
 exact I.leave_on rfl rfl rfl I.ok.frames F hd fun h'' F' hd'=>⟨a,cls,H',B,dc,rfl,os.trans I.os,bare,F',hd',q⟩
end
def Gx.FnX (g:Gx) (k:Nat) (x:Str) (ps:List Str) (sp:Sp):Prop:=∃ f fd,FnOk g.P g.w g.K g.mg g.base (CXF g.P g.w) k f fd ps sp∧YQ g.K fd ps []∧PySem.W.keepIn g.K (.ref f)=true∧g.mg x=some (.ref f)
def BodyX (g:Gx) (k:Nat) (N:List Str) (qual:Str) (st:Stmt) (sp:Sp):Prop:=∀ (f:Addr) (cdv:Value) (A:Around) (outer:List Env) (s:Shared) (H:Hp) (vs:List V) (Q:VK) (E:XK),Room k (g.cxX N qual st f cdv A outer s H E).A→sp vs H Q E →
 ∃ t,PSs (g.cxX N qual st f cdv A outer s H E) (YF st) t∧t { nx:=fun _ H'=>Q .non H',rt:=Q } (YZ N vs) H
section
variable {g:Gx} {k:Nat} {x qual m:Str} {st:Stmt} {N ps:List Str} {sp:Sp} {C:Addr}
theorem Gx.Raw.fnX (R:g.Raw x qual st ps) (S:FnScope N ps (Yi st)) (len:∀ vs H Q E,sp vs H Q E→vs.length=ps.length) (b:BodyX g k N qual st sp):g.FnX (k+1) x ps sp:=by
 obtain ⟨f,fd,F,bd,hm⟩:=R
 refine ⟨f,fd,?_,bd,F.kp,hm⟩
 obtain ⟨oc,od,kV,doc,pm,an,cdv,ct,osl,rfl,lk,hcd⟩:=F.ex
 exact Qh lk hcd S len fun A outer s H vs Q E hr h=>b f cdv A outer s H vs Q E hr h
theorem Gx.FnX.mono {j:Nat} (F:g.FnX j x ps sp) (h:j≤k):g.FnX k x ps sp:=by
 obtain ⟨f,fd,F,r⟩:=F
 exact ⟨f,fd,F.mono h,r⟩
theorem Gx.Raw.noneX (R:g.Raw x qual st ps) (no:∀ vs H Q E,¬ sp vs H Q E):g.FnX k x ps sp:=by
 obtain ⟨f,fd,F,bd,hm⟩:=R
 exact ⟨f,fd,⟨fun vs H Q E h=>absurd h (no vs H Q E),fun A outer s H args us vs Q E _ _ _ _ h=>absurd h (no vs H Q E)⟩,bd,F.kp,hm⟩
end
section
variable {g:Gx} {X:Cx} {k j:Nat} {x:Str} {ps:List Str} {sp:Sp} {E:XK} {e:Expr} {es:List Expr} {t:TA} {p pos cpos np:Pos}
theorem YW (F:g.FnX j x ps sp) (hr:Room k X.A) (hp:Xx (CXF g.P g.w) X E) (ha:PA X (e::es) t) (hj:j≤k) (hX:X.gx=g) (hg:Gl X x) (hdb:(x==("__debug__":Str))=false)
  (he:starEach (e::es) X.env=(false,eval e X.env)::starEach es X.env) (hpl:(backTo pos (starEach es X.env)).any (·.1)=false):PE X (.Call (.Name x p) (e::es) [] pos) (WO sp [] E t):=by
 subst hX
 obtain ⟨f,fd,F,b,kp,hm⟩:=F
 exact Vt F (hr.mono hj) hg hm kp b .nil hp ha hdb he hpl
theorem PS.nox {st:Stmt} {t:TS} (h:PS X.nox st t):PS X st t:=fun pins s σ H D I hw =>
 wpAny_mono (h pins s σ H D (I.wish _) hw) (fun _ _ q=>q.unwish) fun _ _ z=>False.elim z
abbrev Wi:List Value:=[.type "ValueError",.type "Exception",.type "BaseException",.type "object"]
def Q9 (C:Addr) (E:XK) (t:TA):TS:=fun _ σ H=>t σ H fun vs H1=>vs.length≤sizeLine∧E (.ref C) none H1
end
abbrev Cx.caught (X:Cx) (e:Addr):Cx:={ X with A:=X.A.mark (some (.ref e)),calm:=false,xe:=fun _ _=>False }
section
variable {X:Cx} {pins:List (Addr×Obj)} {σ:St} {H H' H1:Hp} {s s1 s':Shared} {e:Value} {D:Ends} {ts:TS} {b₀:Stmt} {suite:List Stmt} {c:Str} {cv:Value} {cp hpos:Pos}
theorem Inv.caught (I:Inv X pins σ H s) (a:Addr):Inv (X.caught a) pins σ H s :=
 ⟨⟨I.ok.mod,I.ok.kind,I.ok.glob,I.ok.blt,I.ok.above,I.ok.inj,I.ok.has,I.ok.cab,fun z=>(by cases z),I.ok.frames,I.ok.stk,I.ok.exf,I.ok.bs,I.ok.bsz,I.ok.noex,I.ok.exfs,I.ok.funs,I.ok.frf⟩,I.os,I.bare,I.base,I.loc,I.cell,I.free,I.freeC,I.pin,I.hok,I.len⟩
theorem Inv.uncaught {a:Addr} (hd:X.calm=true→X.A.handled=none) (I:Inv (X.caught a) pins σ H s):Inv X pins σ H s :=
 ⟨⟨I.ok.mod,I.ok.kind,I.ok.glob,I.ok.blt,I.ok.above,I.ok.inj,I.ok.has,I.ok.cab,hd,I.ok.frames,I.ok.stk,I.ok.exf,I.ok.bs,I.ok.bsz,I.ok.noex,I.ok.exfs,I.ok.funs,I.ok.frf⟩,I.os,I.bare,I.base,I.loc,I.cell,I.free,I.freeC,I.pin,I.hok,I.len⟩
theorem Inv.seen {a:Addr} {cls:Value} {B:Heap} (I:Inv X pins σ H1 s1) (F:Fly X.prog X.w X.stack H1 s1.heap a cls H' s'.heap B) (os:s'.os=s1.os) (bare:AllBare s'.gens):Inv X pins σ H' s' :=
 I.call' (ch:=[]) os (F.un I.stkFree) F.held bare fun b z=>nomatch z
theorem Inv.stkData (I:Inv X pins σ H1 s1):∀ b∈frs X.stack,∀ o,s1.heap.get? b=some o→∀ vs,o.data ≠ .fields vs:=fun b hb o q=>by
 obtain ⟨_,o',e',d⟩:=I.stack.mem hb
 rw [q] at e'
 cases e'
 exact d
end
def tTry (K:PySem.W.Frag) (cv:Value) (sp:Sp) (t:TA) (i:Nat) (ts:TS):TS:=fun D σ H=>t σ H fun vs H1=>sp (vs++[]) H1 (fun v H2=>D.nx (σ.set i (some v)) H2) (fun cls _ H2=>PySem.W.exmOne K cls cv=some true∧ts D σ H2)
section
variable {g:Gx} {X:Cx} {k j i:Nat} {x f c:Str} {ps:List Str} {sp:Sp} {e:Expr} {es:List Expr} {t:TA} {ts:TS} {b₀:Stmt} {suite:List Stmt} {cv:Value} {fp px cp hpos apos cpos pos:Pos}
end
end L2
namespace L2
open PySem PySem.Spec PyProof.Rows
section
variable {prog:Program} {w:World} {A:Around} {E:Value→Shared→Prop} {s:Shared}
open AutoSeq1 (wpAny_loadPart') in
end
section
variable {X:Cx} {elts:List Expr} {kk:Nat} {tpos:Pos}
end
section
variable {g:TG} {tb:TS} {D:Ends} {σ:St} {H:Hp}
end
end L2
namespace L2
open PySem PySem.Spec PyProof.Rows
section
variable {prog:Program} {w:World} {A:Around} {E:Value→Shared→Prop} {s:Shared}
open AutoSeq1 (wpAny_loadPart') in
end
end L2
namespace L2
open PySem PySem.Spec PyProof.Rows
section
variable {X:Cx} {elts:List Expr} {kk:Nat} {tpos:Pos}
end
section
variable {g:TG} {tb:TS} {D:Ends} {σ:St} {H:Hp}
end
section
variable {X:Cx} {tg:Expr}
end
end L2
namespace L2
open PySem PySem.Spec PyProof.Rows
def XU (a:Addr) (cls:Value) (dc:Option Addr):HO := .ext fun h=>∃ o vs,h.get? a=some o∧o.cls=cls∧o.data = .fields vs∧o.dict=dc
section
variable {P:Program} {w:World} {l:List Env} {H H':Hp} {h h' h'' B:Heap} {a e:Addr} {cls:Value} {o:HO}
theorem Ys.alive (x:Ys P w H h a o):∃ u,h.get? a=some u:=by
 cases o with
 | lst xs=>obtain ⟨_,_,_,_,e⟩:=x;exact ⟨_,e⟩
 | tup xs=>obtain ⟨_,_,_,u,e,_⟩:=x;exact ⟨_,e⟩
 | dK kvs=>obtain ⟨_,_,_,_,o,_,_,e,_⟩:=x;exact ⟨_,e⟩
 | dT kvs=>obtain ⟨_,_,_,_,o,_,_,e,_⟩:=x;exact ⟨_,e⟩
 | set S n=>obtain ⟨o,_,_,_,e,_⟩:=x;exact ⟨_,e⟩
 | ins C dx fs=>obtain ⟨_,_,_,e,_⟩:=x;exact ⟨_,e⟩
 | own y=>exact x
 | xd fs=>obtain ⟨_,⟨_,_,_,e,_⟩,_⟩:=x;exact ⟨_,e⟩
 | rng lo hi=>obtain ⟨_,_,_,e⟩:=x;exact ⟨_,e⟩
 | frz ob u=>obtain ⟨e,_⟩:=x;exact ⟨_,e⟩
 | tbl ps=>exact ⟨_,(show h.get? a=some _ from x)⟩
 | met f y=>exact ⟨_,(show h.get? a=some _ from x)⟩
 | ext φ=>exact x.2.1
theorem Fly.new (F:Fly P w l H h e cls H' h' B) (hf:∀ b∈frs l,H b=none) (nf:∀ b∈frs l,∀ o,h.get? b=some o→∀ vs,o.data ≠ .fields vs):h.get? e=none:=by
 obtain ⟨a0,fl⟩:=F.fl
 cases q:h.get? e with
 | none=>rfl
 | some o =>
  by_cases hb:e∈frs l
  ·obtain ⟨sl,z⟩:=F.slot e o q (hf e hb) hb
   obtain ⟨oe,vs,z',_,d,_⟩:=fl.first
   rw [z] at z'
   cases z'
   exact absurd d (nf e hb o q vs)
  ·obtain ⟨o',z⟩:=F.al e o q hb
   rw [fl.2.1] at z
   cases z
theorem Fly.out (F:Fly P w l H h e cls H' h' B):H' e=none:=by
 obtain ⟨a0,fl⟩:=F.fl
 cases q:H' e with
 | none=>rfl
 | some u =>
  obtain ⟨o,z⟩:=(F.hok e u q).alive
  rw [fl.2.1] at z
  cases z
theorem Fly.track (F:Fly P w l H h e cls H' h' B) (hf:∀ b∈frs l,H b=none) (nf:∀ b∈frs l,∀ o,h.get? b=some o→∀ vs,o.data ≠ .fields vs) {dc:Option Addr} (hd:YM h' e dc) :
  Un (frs l) [] H (upd H' e (XU e cls dc)) h h'∧HOk P w (upd H' e (XU e cls dc)) h':=by
 have n1:=F.new hf nf
 have n2:=F.out
 have u:=F.un hf
 have ok:=F.held
 obtain ⟨a0,fl⟩:=F.fl
 refine ⟨⟨u.keep,u.slot,fun b o q n hx=>?_,u.there,fun b xs q=>?_,fun b o x q=>?_,fun b ps q=>?_⟩,fun b x q=>?_⟩
 ·rw [Yg (fun z=>by rw [z,n1] at q;cases q)]
  exact u.free b o q n hx
 ·rw [Yg (Yv (u.tups b xs q) n2)]
  exact u.tups b xs q
 ·rw [Yg (Yv (u.frzs b o x q) n2)]
  exact u.frzs b o x q
 ·obtain ⟨m,z⟩:=u.tbls b ps q
  exact ⟨m,by rw [Yg (Yv z n2)];exact z⟩
 ·by_cases hb:b=e
  ·subst hb
   rw [Yc] at q
   cases q
   obtain ⟨oe,vs,z1,z2,z3,_⟩:=fl.first
   obtain ⟨od,d1,d2⟩:=hd
   rw [z1] at d1
   cases d1
   exact ⟨⟨oe,vs,z1,z2,z3,d2⟩,⟨oe,z1⟩,fun h1 h2 p k=>by obtain ⟨o,vs,y1,y2,y3⟩:=p;exact ⟨o,vs,k o y1,y2,y3⟩⟩
  ·rw [Yg hb] at q
   exact (ok b x q).stay (fun c v _ r=>r) (fun c r=>by rw [Yg (Yv r n2)];exact r) fun c xs r=>by rw [Yg (Yv r n2)];exact r
end
section
variable {X:Cx} {pins:List (Addr×Obj)} {σ:St} {H H' H1:Hp} {s s1 s':Shared}
theorem QF {M:Model} {A:Around} {E:Value→Shared→Prop} {j:Nat} {n:Str} {pos:Pos} {Q:Unit→Shared→Prop} (I:Inv X pins σ H s) (hN:X.N.Nodup) (hj:X.N[j]?=some n) (hk:X.env.scope.names.lookup n=some .local)
  (h:∀ s',Inv X pins (σ.set j none) H s'→Q () s'):wpAny M A (do bindName X.env n .none;unbindBehindTheSuite X.env n pos) Q E s:=by
 obtain ⟨m,hn,hl⟩:=id I.loc
 have hcls:(X.env.scope.kind == .class||(X.env.scope.kind == .module&&X.env.locals != X.env.globals))=false:=by rw [I.ok.kind];rfl
 have cne:=I.cne
 have tracked:∀ {a:Addr} {h':Heap},(∃ o,s.heap.get? a=some o∧H a=none)→Heap.SameBut a s.heap h'→HOk X.prog X.w H h':=fun {a h'} ha hs b ob e=>by
  obtain ⟨_,_,hfree⟩:=ha
  refine (I.hok b ob e).stay (fun c w' hc q=>(hs.2 c ?_).trans q) (fun _ q=>q) fun _ _ q=>q
  rintro rfl
  rcases hc with rfl | hc
  ·rw [hfree] at e;cases e
  ·rw [hfree] at hc;cases hc
 refine wpAny_nameGoes_keeps hk hn hcls fun h' v hn' hs=>?_
 obtain ⟨oL,_,_,hoL,_⟩:=id hn
 refine h _ ⟨I.ok,I.os,I.bare,⟨fun b o e n hb hx=>?_,fun b o e n hb hx=>?_,I.base.free,fun b o e hx=>?_,I.base.tups,I.base.frzs,I.base.tbls⟩,⟨_,hn',fun i y v' e1 e2 e3=>?_⟩,fun y c e=>?_,I.free,I.freeC,fun p hp=>?_,tracked ⟨oL,hoL,I.free⟩ hs,by simpa using I.len⟩
 ·exact (hs.2 b (I.notL e)).trans (I.base.keep b o e n hb hx)
 ·obtain ⟨sl,e1⟩:=I.base.slot b o e n hb hx
  exact ⟨sl,(hs.2 b (I.notL e)).trans e1⟩
 ·obtain ⟨o',e1⟩:=I.base.there b o e hx
  exact ⟨o',(hs.2 b (I.notL e)).trans e1⟩
 ·by_cases hji:i=j
  ·subst hji
   rw [List.getElem?_set] at e2
   split at e2
   ·split at e2<;>cases e2
   ·rename_i z;exact absurd rfl z
  ·rw [List.getElem?_set_ne (Ne.symm hji)] at e2
   obtain ⟨u',r',q⟩:=hl i y v' e1 e2 e3
   refine ⟨u',r',?_⟩
   rcases q with ⟨k,e⟩ | ⟨k,c,e,z⟩
   ·refine .inl ⟨k,?_⟩
    have:y≠n:=fun e=>hji (X3 hN e1 (e▸hj))
    simp [this,e]
   ·exact .inr ⟨k,c,e,z.sameBut hs (cne y c e)⟩
 ·obtain ⟨w',z⟩:=I.cell y c e
  exact ⟨w',z.sameBut hs (cne y c e)⟩
 ·obtain ⟨e,n,ne,nf,d⟩:=I.pin p hp
  exact ⟨(hs.2 p.1 ne).trans e,n,ne,nf,d⟩
end
def Ends.gone (D:Ends) (j:Nat):Ends:={ nx:=fun σ H=>D.nx (σ.set j none) H,rt:=D.rt,bk:=fun σ H=>D.bk (σ.set j none) H,ct:=fun σ H=>D.ct (σ.set j none) H }
section
variable {X:Cx} {pins:List (Addr×Obj)} {σ:St} {H H' H1:Hp} {s s1 s':Shared} {e:Value} {D:Ends} {ts:TS} {b₀:Stmt} {suite:List Stmt} {c n:Str} {cv:Value} {cp hpos:Pos} {j:Nat}
theorem Inv.catchAs (I:Inv X pins σ H1 s1) (hs:X.stack=X.env::X.outer) (hf:X.env.frame=some X.env.locals) (hN:X.N.Nodup) (hj:X.N[j]?=some n) (hk:X.env.scope.names.lookup n=some .local)
  (hq:CXF X.prog X.w X.stack H1 s1 (fun cls dc H2=>PySem.W.exmOne X.K cls cv=some true∧∀ a,H2 a=none→ts (D.gone j) (σ.set j (some (.ref a))) (upd H2 a (XU a cls dc))) e s')
  (hsu:∀ a,PSs (X.caught a) (b₀::suite) ts) (hc:Gl X c) (hcm:X.mg c=some cv) (hdb:(c==("__debug__":Str))=false) :
  wpAny (model X.prog X.w) X.A (noteFrame e X.env) (fun _ s₂=>wpAny (model X.prog X.w) X.A (setFlight e none) (fun _ s₃=>wpAny (model X.prog X.w) X.A (handleBy e X.env [.ExceptHandler (some (.Name c cp)) (some n) (b₀::suite) hpos]) (SP X pins D) X.xe s₃) X.xe s₂) X.xe s':=by
 obtain ⟨a,cls,H2,B,dc,rfl,os,bare,F,hdc,hm,ht⟩:=hq
 obtain ⟨a0,fl⟩:=F.fl
 have nf:=I.stkData
 have fl':=fl
 rw [hs] at fl'
 have hfr:=I.ok.frames
 rw [hs] at hfr
 refine wpAny_mono (Xj (XB _ _) hdc (wpAny_looks_onW (Q:=fun _ s₂=>∃ h₄ L,s₂={ s' with heap:=h₄ }∧Heap.HeldW B (X.env::X.outer) a cls a0 L h₄∧s'.heap.UpToSlots h₄) (E:=X.xe) hfr hf fl' fun h₄ held sm4=>⟨h₄,_,rfl,held,sm4⟩)) ?_ fun _ _ z=>z.1
 rintro _ s₂ ⟨⟨h₄,L4,rfl,held,sm4⟩,hd4⟩
 refine wpAny_mono (Xj (Y6 _ _) hd4 (wpAny_landsW (Q:=fun _ s₃=>∃ h₅,s₃={ s' with heap:=h₅ }∧Heap.FlyingW B (X.env::X.outer) a cls a0 h₅∧h₄.UpToSlots h₅) (E:=X.xe) held fun h₅ fl5 sm5=>⟨h₅,rfl,fl5,sm5⟩)) ?_ fun _ _ z=>z.1
 rintro _ s₃ ⟨⟨h₅,rfl,fl5,sm5⟩,hd5⟩
 rw [← hs] at fl5
 have F5:=F.on ⟨a0,fl5⟩ nf (sm4.trans sm5)
 have I5:Inv X pins σ H2 { s' with heap:=h₅ }:=I.seen (s':={ s' with heap:=h₅ }) F5 os bare
 have I5c:=I5.caught a
 refine wpAny_handleBy_cons (codeAny_handlers_test (Xw I5c hc hcm ?_ hdb)) (by intro q;cases q)
 obtain ⟨ob,hob,hcl⟩:=fl5.there
 have LT:PySem.W.Looks (model X.prog X.w) h₅ (typeOf (.ref a)) cls:=by
  subst hcl
  exact (PySem.W.Looks.ld hob).andThen .now
 refine PySem.W.exm_one (K:=X.K) (h:=h₅) I5.kIn LT hm _ _ _ _ (fun _ _ z=>z) ?_
 refine codeAny_handlers_suite_as ?_
 refine wpAny_mono (Xj (Y6 _ _) hd5 (lands_againW (Q:=fun _ s₄=>∃ h₆,s₄={ s' with heap:=h₆ }∧Heap.FlyingW B X.stack a cls a0 h₆∧h₅.UpToSlots h₆) (E:=fun _ _=>False) fl5 fun h₆ fl6 sm6=>⟨h₆,rfl,fl6,sm6⟩)) ?_ fun _ _ z=>z.1.elim
 rintro _ s₄ ⟨⟨h₆,rfl,fl6,sm6⟩,hd6⟩
 have F6:=F5.on ⟨a0,fl6⟩ nf sm6
 obtain ⟨u6,ok6⟩:=F6.track I.stkFree nf hd6
 have I6:Inv X pins σ (upd H2 a (XU a cls dc)) { s' with heap:=h₆ }:=I.call' (s':={ s' with heap:=h₆ }) (ch:=[]) os u6 ok6 bare fun b z=>nomatch z
 have I6c:=I6.caught a
 refine XF (X:=X.caught a) I6c hN hj (.inl hk) (v := .ref a) rfl (fun s7 I7=>?_) (.inr hk)
 refine wpAny_mono (hsu a pins _ _ _ (D.gone j) I7 (ht a F6.out)) (fun f s8 z=>?_) fun _ _ z=>z.elim
 have key:∀ {σ':St} {H':Hp} {Q:St→Hp→Prop},Inv (X.caught a) pins σ' H' s8→Q (σ'.set j none) H'→∀ {R:Unit→Shared→Prop},(∀ s9,Inv X pins (σ'.set j none) H' s9→R () s9)→wpAny (model X.prog X.w) X.A (do bindName X.env n .none;unbindBehindTheSuite X.env n hpos) R X.xe s8 :=
  fun {σ' H' Q} J _ {R} hR=>QF (J.uncaught I.ok.hd) hN hj hk hR
 cases f with
 | next=>obtain ⟨σ',H',J,q⟩:=z;exact key (Q:=fun _ _=>True) J trivial fun s9 J9=>⟨_,_,J9,q⟩
 | brk=>obtain ⟨σ',H',J,q⟩:=z;exact key (Q:=fun _ _=>True) J trivial fun s9 J9=>⟨_,_,J9,q⟩
 | cont=>obtain ⟨σ',H',J,q⟩:=z;exact key (Q:=fun _ _=>True) J trivial fun s9 J9=>⟨_,_,J9,q⟩
 | ret u=>obtain ⟨v,σ',H',J,r,q⟩:=z;exact key (Q:=fun _ _=>True) J trivial fun s9 J9=>⟨v,_,_,J9,r,q⟩
end
end L2
namespace L2
open PySem PySem.Spec PyProof.Rows
def Uv (K:PySem.W.Frag) (cv:Value) (sp:Sp) (t:TA) (i j:Nat) (ts:TS):TS:=fun D σ H=>t σ H fun vs H1=>sp (vs++[]) H1 (fun v H2=>D.nx (σ.set i (some v)) H2) (fun cls dc H2=>PySem.W.exmOne K cls cv=some true∧∀ a,H2 a=none→ts (D.gone j) (σ.set j (some (.ref a))) (upd H2 a (XU a cls dc)))
section
variable {g:Gx} {X:Cx} {k jj i j:Nat} {x f c n:Str} {ps:List Str} {sp:Sp} {e:Expr} {es:List Expr} {t:TA} {ts:TS} {b₀:Stmt} {suite:List Stmt} {cv:Value} {fp px cp hpos apos cpos pos:Pos}
theorem UQ (F:g.FnX jj f ps sp) (hr:Room k X.A) (hN:X.N.Nodup) (hi:X.N[i]?=some x) (hx:Loc X.env.scope x) (hj:X.N[j]?=some n) (hk:X.env.scope.names.lookup n=some .local) (ha:PA X.nox (e::es) t) (hcm:g.mg c=some cv) (hsu:∀ a,PSs (X.caught a) (b₀::suite) ts)
  (hjk:jj≤k) (hX:X.gx=g) (hs:X.stack=X.env::X.outer) (hf:X.env.frame=some X.env.locals) (hg:Gl X f) (hc:Gl X c) (hdf:(f==("__debug__":Str))=false) (hdb:(c==("__debug__":Str))=false)
  (he:starEach (e::es) X.env=(false,eval e X.env)::starEach es X.env) (hpl:(backTo cpos (starEach es X.env)).any (·.1)=false)
  (hsw:swapsWith (.Call (.Name f fp) (e::es) [] cpos) (some (.Name x px)) apos.line X.env=pure false) (hfn:X.fn x=true∨X.env.scope.names.lookup x=some .local) :
  PS X (.Try [.Assign [.Name x px] (.Call (.Name f fp) (e::es) [] cpos) apos] [.ExceptHandler (some (.Name c cp)) (some n) (b₀::suite) hpos] [] [] pos) (Uv X.K cv sp t i j ts):=by
 subst hX
 intro pins s σ H D I h
 obtain ⟨fa,fd,F,b,kp,hm⟩:=F
 refine wpAny_Try_except ?_
 refine wpAny_execs_cons ?_
 refine wpAny_Assign_Name (thn (Q:=EP X pins σ fun v H2=>D.nx (σ.set i (some v)) H2) ?_ fun v s1 hz=>?_) hsw
 ·refine wpAny_Call_Name_kw (Xw I hg hm ?_ hdf)
  refine PySem.W.callWith_K (h₀:=X.base) I.ok.mod.kin kp (wpAny_mono (ha cpos pins s σ H _ (I.wish _) h) (fun us s1 hz=>?_) fun _ _ z=>z.elim) he hpl
  obtain ⟨vs,H1,I1,r,q⟩:=hz
  have I1:=I1.unwish
  refine ⟨I1.kIn,?_⟩
  have r2:Yj (vs++[]) (us++[]):=r.append .nil
  have hl:(us++[]).length=ps.length:=by rw [← r2.length];exact F.len _ _ _ _ q
  refine wpAny_call (codeAny_mono (F.run X.A X.stack s1 H1 ⟨us,[]⟩ (us++[]) (vs++[]) _ _ (hr.mono hjk) I1.env0 (b s1 us I1.kIn hl) r2 q) fun r s' hq=>?_)
  cases r with
  | error e=>exact I1.catchAs hs hf hN hj hk hq hsu hc hcm hdb
  | ok fl =>
   cases fl with
   | ret u=>exact I1.after hq
   | next=>exact False.elim hq
   | brk=>exact False.elim hq
   | cont=>exact False.elim hq
 ·obtain ⟨y,H1,I1,r1,q1⟩:=hz
  exact XF I1 hN hi hx r1 (fun s2 I2=>wpAny_execs_nil (wpAny_execs_nil ⟨_,H1,I2,q1⟩)) hfn
end
structure RoomM (k:Nat) (A:Around):Prop where
 dp:A.depth+3*k+5<recursionLimit
 un:A.units+16*k+200<cLine
theorem Room.m {k:Nat} {A:Around} (r:Room k A) (h:Option Value):RoomM k (A.mark h):=⟨r.dp,r.un⟩
section
variable {g:Gx} {k:Nat} {x qual:Str} {st:Stmt} {N ps:List Str} {sp:Sp}
end
section
variable {g:Gx} {X:Cx} {k j:Nat} {x:Str} {ps:List Str} {sp:Sp} {e:Expr} {es:List Expr} {t:TA} {p pos:Pos}
end
end L2
namespace PySem.W
open PySem PySem.Calls PyProof.Rows Builtin Builtin.ObjectAttr Builtin.Getset_descriptor
section
variable {prog:Program} {w:World} {A:Around} {E:Value→Shared→Prop} {K:Frag} {x C:Addr} {ox:Obj} {hh:Heap} {g:Array GenState} {d:Drawn} {t:Nat} {os:OsState}
theorem Uw (v:Value):bindSpecial (.builtin "BaseException.__getattribute__") v=pure (.builtin "BaseException.__getattribute__",[v]):=by
 have h1:withoutEnding? "BaseException.__getattribute__" "#opaque"=none:=by decide +kernel
 have h2:withoutEnding? "BaseException.__getattribute__" "#data"=none:=by decide +kernel
 have h3:builtinKind "BaseException.__getattribute__"=some .slot:=by decide +kernel
 simp only [bindSpecial,typeOf,builtinType,h1,h2,h3]
 rfl
theorem Vf {nv:Value} {Q:Unit→Shared→Prop} (In:K.In hh) (hx:hh.get? x=some ox) (hc:ox.cls = .ref C) (hb:mroIn K C (.type "BaseException")=some true) (hq:Q () ⟨hh,g,d,t,os⟩) :
  wpAny (model prog w) A (checkBuiltinCall "BaseException.__getattribute__" ⟨[.ref x,nv],[]⟩) Q E ⟨hh,g,d,t,os⟩:=by
 have k1:builtinKind "BaseException.__getattribute__"=some .slot:=by decide +kernel
 have k2:splitId "BaseException.__getattribute__"=some ("BaseException","__getattribute__"):=by decide +kernel
 have k3:=F.args_bexc_ga (.ref x) nv
 have L1:=looks_mroIn (M:=model prog w) In hb
 simp only [checkBuiltinCall,k1,k2]
 refine wpAny_bind ?_
 unfold isInstance
 repeat (first | (with_reducible refine wpAny_loadPart_at hx ?_;rw [hc]) | with_reducible refine L1.at ?_ | wp_step)
 exact hq
end
end PySem.W
namespace L2
open PySem PySem.Spec PyProof.Rows
structure ExcT (K:PySem.W.Frag) (C:Addr):Prop where
 hd:PySem.W.hasDictIn K C=true
 hm:PySem.W.mroIn K C (.type "object")=some true
 hb:PySem.W.mroIn K C (.type "BaseException")=some true
 ha:PySem.W.findIn K (.ref C) "__class__"=some (some (.builtin "object.__class__"))
 hga:PySem.W.findIn K (.ref C) "__getattribute__"=some (some (.builtin "BaseException.__getattribute__"))
 hgt:PySem.W.findIn K (.ref C) "__getattr__"=some none
section
variable {X:Cx}
theorem Yaa {g:Gx} {x:Str} {C:Addr} {pos:Pos} (h:g.mg x=some (.ref C)) (hX:X.gx=g:=by rfl) (hg:Gl X x:=by rfl) (hd:(x==("__debug__":Str))=false:=by decide):PE X (.Name x pos) (tC (.ref C)):=by
 subst hX
 exact Vm hg h rfl hd
end
theorem UR {X:Cx} {a:Addr}:(X.caught a).K=X.K:=rfl
end L2
namespace L2
open PySem PySem.Spec PyProof.Rows
end L2
namespace L2
open PySem PySem.Spec PyProof.Rows
section
variable {src:List (Option Nat)} {te:TE} {σ:St} {H:Hp} {Q:VK}
end
end L2
namespace L2
open PySem PySem.Spec PyProof.Rows
section
variable {X:Cx}
end
end L2
namespace L2
open PySem PySem.Spec PyProof.Rows
section
variable {src:List (Option Nat)} {te:TE} {σ:St} {H:Hp} {Q:VK}
end
end L2
namespace L2
open PySem PySem.Spec PyProof.Rows
def SqX (K:PySem.W.Frag) (H:Hp) (a:Addr) (xs:List V):Prop:=Rd H a (.lst xs)∨∃ (its:Array Value) (n:Nat),K.lookup a=some { cls := .type "list",data := .seq its n }∧its.size≤sizeLine∧Yj xs its.toList
theorem SqX.sq {K:PySem.W.Frag} {H:Hp} {a:Addr} {xs:List V} (h:SqX K H a xs):SqL K H a xs:=by
 rcases h with h | ⟨its,n,h1,h2,h3⟩
 ·exact .inl h
 ·exact .inr ⟨_,its,n,h1,rfl,rfl,rfl,h2,h3⟩
theorem SqX.of {K:PySem.W.Frag} {H:Hp} {a:Addr} {xs:List V} (h:H a=some (.lst xs)):SqX K H a xs := .inl (.of h)
theorem SqX.keep {K:PySem.W.Frag} {H H':Hp} {a:Addr} {xs:List V} (h:SqX K H a xs) (s:Yd H H'):SqX K H' a xs:=by
 rcases h with h | h
 ·rcases h with h | ⟨o,h⟩
  ·exact .inl (.inl (s _ _ h))
  ·exact .inl (.inr ⟨o,s _ _ h⟩)
 ·exact .inr h
section
variable {X:Cx}
end
end L2
namespace L2
open PySem PySem.Spec PyProof.Rows
def Gx.FnV (g:Gx) (k:Nat) (f:Addr) (ps:List Str) (sp:Sp):Prop:=∃ fd,FnOk g.P g.w g.K g.mg g.base CX0 k f fd ps sp∧YQ g.K fd ps []∧PySem.W.keepIn g.K (.ref f)=true
def tFn (g:Gx) (k:Nat) (ps:List Str) (sp:Sp):TE:=fun _ H Q=>∀ f,g.FnV k f ps sp→Q (.ref f) H
def Yab (g:Gx) (k i:Nat) (t:TA):TE:=fun σ H Q=>∃ f ps sp,σ[i]?=some (some (.ref f))∧g.FnV k f ps sp∧t σ H fun vs H1=>sp vs H1 Q E0
section
variable {X:Cx} {g:Gx} {k j i:Nat} {x:Str} {ps:List Str} {sp:Sp} {p pos:Pos} {e:Expr} {es:List Expr} {t:TA}
theorem Y7 (F:g.Fn j x ps sp) (hX:X.gx=g) (hg:Gl X x) (hdb:(x==("__debug__":Str))=false):PE X (.Name x pos) (tFn g j ps sp):=by
 subst hX
 obtain ⟨f,fd,F,b,kp,hm⟩:=F
 intro pins s σ H Q I h
 exact Vm (v := .ref f) hg hm rfl hdb pins s σ H Q I (h f ⟨fd,F,b,kp⟩)
theorem US (i:Nat) (hr:Room k X.A) (ha:PA X (e::es) t) (hj:j≤k) (hX:X.gx=g) (hN:X.N[i]?=some x) (hv:Vis X.env.scope x) (hdb:(x==("__debug__":Str))=false)
  (hcd:(x==("__classdict__":Str))=false) (he:starEach (e::es) X.env=(false,eval e X.env)::starEach es X.env) (hpl:(backTo pos (starEach es X.env)).any (·.1)=false):PE X (.Call (.Name x p) (e::es) [] pos) (Yab g j i t):=by
 subst hX
 intro pins s σ H Q I h
 obtain ⟨f,ps,sp,hσ,⟨fd,F,b,kp⟩,ht⟩:=h
 refine wpAny_Call_Name_kw (thn (V5 hN hv hdb hcd pins s σ H (fun v H1=>v = .ref f∧t σ H1 fun vs H1=>sp vs H1 Q E0) I ⟨.ref f,hσ,rfl,ht⟩) fun u s1 ⟨v,H1,I1,r,e,ht⟩=>?_)
 subst e
 obtain rfl:u=Value.ref f:=r
 refine PySem.W.callWith_K (h₀:=X.base) I1.ok.mod.kin kp (thn (ha pos pins s1 σ H1 _ I1 ht) fun us s2 ⟨vs,H2,I2,r2,q⟩=>⟨I2.kIn,?_⟩) he hpl
 exact Uj F (hr.mono hj) b .nil VQ I2 r2 (by rw [List.append_nil];exact q)
end
theorem Yy (es:List Expr) (x:Nat) (p:Pos) (es':List Expr) (env:Env):starEach (.Tuple es x p::es') env=(false,eval (.Tuple es x p) env)::starEach es' env:=rfl
end L2
namespace L2
open PySem PySem.Spec PyProof.Rows
section
variable {X:Cx} {pins:List (Addr×Obj)} {σ:St} {H:Hp} {s:Shared} {A:Around} {E Q:Value→Shared→Prop}
theorem W0:∀ {Ts:List String} {us:List Value},Yj (Ts.map V.ty) us→us=Ts.map Value.type
 | [],_,r=>by cases r;rfl
 | T::Ts,_,r=>by
  cases r with
  | cons h t =>
   have:_=Value.type T:=h
   rw [this,W0 t]
   rfl
theorem VX {x:V} {u t:Value} {tp:Addr} {Ts:List String} {b:Bool} (I:Inv X pins σ H s) (rx:Ym x u) (ty:TyOf X.K H x t) (hT:H tp=some (.tup (Ts.map V.ty))) (e:PySem.W.kitAny X.K t (Ts.map Value.type)=some b) (h:∀ tk,Q (.bool b) { s with toks:=tk }) :
  wpAny (model X.prog X.w) A (call (.builtin "isinstance") [u,.ref tp]) Q E s:=by
 obtain ⟨_,us,r,o,g1,g2,n,g3⟩:=(show Ys X.prog X.w H s.heap tp (.tup (Ts.map V.ty)) from I.hok tp _ hT)
 obtain ⟨oc,od,ot,sl⟩:=o
 have g2':oc=Value.type "tuple":=g2
 have g3':ot=Data.seq us.toArray n:=g3
 subst g2' g3'
 rw [W0 r] at g1
 cases ty with
 | non=>cases (show u=Value.none from rx);exact PySem.W.kia_tup PySem.W.kitx_none I.kIn True.intro g1 e (fun z=>nomatch z) h
 | bl y=>cases (show u=Value.bool y from rx);exact PySem.W.kia_tup PySem.W.kitx_bool I.kIn True.intro g1 e (fun z=>nomatch z) h
 | int i=>obtain ⟨t,q⟩:=(show ∃ t,u=Value.int i t from rx);cases q;exact PySem.W.kia_tup PySem.W.kitx_int I.kIn True.intro g1 e (fun z=>nomatch z) h
 | str y=>obtain ⟨t,q⟩:=(show ∃ t,u=Value.str y t from rx);cases q;exact PySem.W.kia_tup PySem.W.kitx_str I.kIn True.intro g1 e (fun z=>nomatch z) h
 | flt y=>obtain ⟨t,q⟩:=(show ∃ t,u=Value.float y t from rx);cases q;exact PySem.W.kia_tup PySem.W.kitx_float I.kIn True.intro g1 e (fun z=>nomatch z) h
 | @lst a xs ea =>
  cases (show u=Value.ref a from rx)
  obtain ⟨_,_,n,_,h1⟩:=(show Ys X.prog X.w H s.heap a (.lst xs) from I.hok a _ ea)
  exact PySem.W.kia_tup PySem.W.kitx_list I.kIn ⟨_,h1,rfl⟩ g1 e (fun z=>nomatch z) h
 | @frz a ob xs ea =>
  cases (show u=Value.ref a from rx)
  obtain ⟨_,_,_,n,_,h1⟩:=(show Ys X.prog X.w H s.heap a (.frz ob (.lst xs)) from I.hok a _ ea)
  exact PySem.W.kia_tup PySem.W.kitx_list I.kIn ⟨_,h1,rfl⟩ g1 e (fun z=>nomatch z) h
 | @tup a xs ea =>
  cases (show u=Value.ref a from rx)
  obtain ⟨_,_,_,p⟩:=(show Ys X.prog X.w H s.heap a (.tup xs) from I.hok a _ ea)
  obtain ⟨o,h1,h2,_⟩:=p
  exact PySem.W.kia_tup PySem.W.kitx_tuple I.kIn ⟨o,h1,h2⟩ g1 e (fun z=>nomatch z) h
 | @dK a kvs ea =>
  cases (show u=Value.ref a from rx)
  obtain ⟨_,_,vs,_,p⟩:=(show Ys X.prog X.w H s.heap a (.dK kvs) from I.hok a _ ea)
  obtain ⟨o,es,ep,h1,h2,_⟩:=p
  exact PySem.W.kia_tup PySem.W.kitx_dict I.kIn ⟨o,h1,h2.1⟩ g1 e (fun z=>nomatch z) h
 | @dT a kvs ea =>
  cases (show u=Value.ref a from rx)
  obtain ⟨_,_,xs,_,o,es,ep,h1,h2,_⟩:=(show Ys X.prog X.w H s.heap a (.dT kvs) from I.hok a _ ea)
  exact PySem.W.kia_tup PySem.W.kitx_dict I.kIn ⟨o,h1,h2.1⟩ g1 e (fun z=>nomatch z) h
 | @ins a C dx fs ea cl ha hn htk hm =>
  cases (show u=Value.ref a from rx)
  obtain ⟨mA,O,_⟩:=Vs I.hok ea
  obtain ⟨od,J,_⟩:=O.look
  exact PySem.W.kia_tup (PySem.W.kitx_own (cl.get _) cl.hd ha hn htk hm) I.kIn J g1 e (fun z=>nomatch z) h
end
section
variable {X:Cx}
theorem Xk:YY X (.builtin "isinstance") (fun xs H Q=>∃ x tp Ts t b,xs=[x,.ref tp]∧H tp=some (.tup (List.map V.ty Ts))∧TyOf X.K H x t∧PySem.W.kitAny X.K t (Ts.map Value.type)=some b∧Q (.bl b) H):=by
 intro pins s σ H xs us Q I r h
 obtain ⟨x,tp,Ts,t,b,rfl,hT,ty,e,q⟩:=h
 obtain ⟨u,v,rfl,ru,rv⟩:=r.two
 cases rv
 exact VX I ru ty hT e fun tk=>⟨.bl b,H,I.tok _,rfl,q⟩
end
section
variable {src:List (Option Nat)} {te:TE} {σ:St} {Q:VK}
variable {X:Cx} {H:Hp}
def iOr (a b:TI):TI:=fun σ H R=>a σ H R∨b σ H R
theorem Qn {tg:Expr} {l:Expr} {a b:TI} (ha:PI X tg l a) (hb:PI X tg l b):PI X tg l (iOr a b):=by
 intro pins s σ H R I h
 rcases h with h | h
 ·exact ha pins s σ H R I h
 ·exact hb pins s σ H R I h
end
end L2
namespace L2
open PySem PySem.Spec PyProof.Rows
section
open PySem.SeqAt
open PySem.AutoSeq1 (wpAny_loadPart')
open PySem.MeetsSeq PySem.MeetsSeq2 PySem.MeetsSeq3
variable {X:Cx}
end
end L2
namespace L2
open PySem PySem.Spec PyProof.Rows
section
open PySem.SeqAt
open PySem.AutoSeq1 (wpAny_loadPart')
open PySem.MeetsSeq PySem.MeetsSeq2 PySem.MeetsSeq3
variable {X:Cx}
variable {K:PySem.W.Frag}
end
end L2
namespace L2
open PySem
mutual
inductive KD:PyData→Prop
 | int (i:Int):KD (.int i)
 | tup {ds:List PyData}:KDs ds→KD (.tuple ds)
inductive KDs:List PyData→Prop
 | nil:KDs []
 | cons {d:PyData} {ds:List PyData}:KD d→KDs ds→KDs (d::ds)
end
mutual
theorem KD.eqv:∀ {d e:PyData},KD d→KD e→(PyData.eqv d e=true↔d=e)
 | _,_,.int i,.int j=>by rw [PyData.eqv];simp
 | _,_,.int i,.tup _=>by rw [PyData.eqv];simp
 | _,_,.tup _,.int i=>by rw [PyData.eqv];simp
 | _,_,.tup h,.tup k=>by
  rw [PyData.eqv,h.eqv k]
  simp
theorem KDs.eqv:∀ {ds es:List PyData},KDs ds→KDs es→(PyData.eqvAll ds es=true↔ds=es)
 | _,_,.nil,.nil=>by simp [PyData.eqvAll]
 | _,_,.nil,.cons _ _=>by simp [PyData.eqvAll]
 | _,_,.cons _ _,.nil=>by simp [PyData.eqvAll]
 | _,_,.cons (d:=d) (ds:=ds) h hs,.cons (d:=e) (ds:=es) k ks=>by
  rw [PyData.eqvAll,Bool.and_eq_true,h.eqv k,hs.eqv ks]
  simp
end
mutual
inductive KLt:PyData→PyData→Prop
 | int {i j:Int}:i<j→KLt (.int i) (.int j)
 | mix {i:Int} {ds:List PyData}:KLt (.int i) (.tuple ds)
 | tup {ds es:List PyData}:KLs ds es→KLt (.tuple ds) (.tuple es)
inductive KLs:List PyData→List PyData→Prop
 | nil {e:PyData} {es:List PyData}:KLs [] (e::es)
 | here {d e:PyData} {ds es:List PyData}:KLt d e→KLs (d::ds) (e::es)
 | there {d:PyData} {ds es:List PyData}:KLs ds es→KLs (d::ds) (d::es)
end
mutual
theorem KLt.trans:∀ {a b c:PyData},KLt a b→KLt b c→KLt a c
 | _,_,_,.int h,.int k => .int (by omega)
 | _,_,_,.int h,.mix => .mix
 | _,_,_,.mix,.tup _ => .mix
 | _,_,_,.tup h,.tup k => .tup (h.trans k)
theorem KLs.trans:∀ {a b c:List PyData},KLs a b→KLs b c→KLs a c
 | _,_,_,.nil,.here _ => .nil
 | _,_,_,.nil,.there _ => .nil
 | _,_,_,.here h,.here k => .here (h.trans k)
 | _,_,_,.here h,.there _ => .here h
 | _,_,_,.there _,.here k => .here k
 | _,_,_,.there h,.there k => .there (h.trans k)
end
end L2
namespace L2
open PySem
section
variable {src:List (Option Nat)} {te:TE} {σ:St} {H:Hp} {Q:VK}
end
end L2
namespace L2
open PySem
mutual
inductive VL (H:Hp):V→PyData→List Addr→Prop
 | int (i:Int):VL H (.int i) (.int i) []
 | str (x:Str) (h:PyData.strOk x=true):VL H (.str x) (.str x) []
 | lst {a:Addr} {vs:List V} {ds:List PyData} {L:List Addr}:H a=some (.lst vs)→vs.length≤10000→VLs H vs ds L→VL H (.ref a) (.list ds) (a::L)
 | tup {a:Addr} {vs:List V} {ds:List PyData} {L:List Addr}:H a=some (.tup vs)→vs.length≤10000→VLs H vs ds L→VL H (.ref a) (.tuple ds) L
inductive VLs (H:Hp):List V→List PyData→List Addr→Prop
 | nil:VLs H [] [] []
 | cons {v:V} {d:PyData} {L:List Addr} {vs:List V} {ds:List PyData} {L':List Addr}:VL H v d L→VLs H vs ds L'→VLs H (v::vs) (d::ds) (L++L')
end
def Tps (H H':Hp):Prop:=∀ a vs,H a=some (.tup vs)→H' a=some (.tup vs)
theorem Yd.tps {H H':Hp} (s:Yd H H'):Tps H H':=fun a vs h=>s a _ h
theorem Tps.trans {H H' H'':Hp} (s:Tps H H') (t:Tps H' H''):Tps H H'':=fun a vs h=>t a vs (s a vs h)
theorem Tps.upd_lst {H:Hp} {p:Addr} {xs ys:List V} (h:H p=some (.lst xs)):Tps H (upd H p (.lst ys)):=fun a vs ha=>by
 rw [Yg (ne_of ha h (by intro z;cases z))];exact ha
mutual
theorem VL.keepL {H H':Hp} (t:Tps H H'):∀ {v:V} {d:PyData} {L:List Addr},VL H v d L→(∀ a∈L,∀ vs,H a=some (.lst vs)→H' a=some (.lst vs))→VL H' v d L
 | _,_,_,.int i,_ => .int i
 | _,_,_,.str x h,_ => .str x h
 | _,_,_,.lst h hn hs,e => .lst (e _ (.head _) _ h) hn (hs.keepL t fun a ha=>e a (.tail _ ha))
 | _,_,_,.tup h hn hs,e => .tup (t _ _ h) hn (hs.keepL t e)
theorem VLs.keepL {H H':Hp} (t:Tps H H'):∀ {vs:List V} {ds:List PyData} {L:List Addr},VLs H vs ds L→(∀ a∈L,∀ vs,H a=some (.lst vs)→H' a=some (.lst vs))→VLs H' vs ds L
 | _,_,_,.nil,_ => .nil
 | _,_,_,.cons h hs,e => .cons (h.keepL t fun a ha=>e a (List.mem_append_left _ ha)) (hs.keepL t fun a ha=>e a (List.mem_append_right _ ha))
end
theorem VL.keep {H H':Hp} {v:V} {d:PyData} {L:List Addr} (h:VL H v d L) (s:Yd H H'):VL H' v d L:=h.keepL s.tps fun a _ vs e=>s _ _ e
theorem VLs.keep {H H':Hp} {vs:List V} {ds:List PyData} {L:List Addr} (h:VLs H vs ds L) (s:Yd H H'):VLs H' vs ds L:=h.keepL s.tps fun a _ vs e=>s _ _ e
mutual
theorem VL.mem {H:Hp}:∀ {v:V} {d:PyData} {L:List Addr},VL H v d L→∀ a∈L,∃ vs,H a=some (.lst vs)∧vs.length≤10000
 | _,_,_,.lst (a:=b) h hn hs,a,ha=>by
  rcases List.mem_cons.mp ha with e | ha
  ·subst e;exact ⟨_,h,hn⟩
  ·exact hs.mem a ha
 | _,_,_,.tup h hn hs,a,ha=>hs.mem a ha
theorem VLs.mem {H:Hp}:∀ {vs:List V} {ds:List PyData} {L:List Addr},VLs H vs ds L→∀ a∈L,∃ vs,H a=some (.lst vs)∧vs.length≤10000
 | _,_,_,.cons h hs,a,ha=>by
  rcases List.mem_append.mp ha with ha | ha
  ·exact h.mem a ha
  ·exact hs.mem a ha
end
mutual
theorem VL.den {K:PySem.W.Frag} {H:Hp}:∀ {v:V} {d:PyData} {L:List Addr},VL H v d L→Den K H v d
 | _,_,_,.int i => .int i
 | _,_,_,.str x h => .str x h
 | _,_,_,.lst h _ hs => .lst (SqL.of h) hs.den
 | _,_,_,.tup h _ hs => .tup (SqT.of h) hs.den
theorem VLs.den {K:PySem.W.Frag} {H:Hp}:∀ {vs:List V} {ds:List PyData} {L:List Addr},VLs H vs ds L→Dens K H vs ds
 | _,_,_,.nil => .nil
 | _,_,_,.cons h hs => .cons h.den hs.den
end
theorem VLs.length {H:Hp}:∀ {vs:List V} {ds:List PyData} {L:List Addr},VLs H vs ds L→vs.length=ds.length
 | _,_,_,.nil=>rfl
 | _,_,_,.cons _ hs=>congrArg (·+1) hs.length
theorem VLs.append {H:Hp} {vs':List V} {ds':List PyData} {L':List Addr}:∀ {vs:List V} {ds:List PyData} {L:List Addr},VLs H vs ds L→VLs H vs' ds' L'→VLs H (vs++vs') (ds++ds') (L++L')
 | _,_,_,.nil,h=>h
 | _,_,_,.cons a b,h=>by rw [List.append_assoc];exact .cons a (b.append h)
theorem VL.one {H:Hp} {v:V} {d:PyData} {L:List Addr} (h:VL H v d L):VLs H [v] [d] L:=by
 have:=VLs.cons h .nil
 rwa [List.append_nil] at this
structure Owns (H0 H:Hp) (vs:List V) (ds:List PyData) (L:List Addr):Prop where
 vl:VLs H vs ds L
 nd:L.Nodup
 new:∀ a∈L,H0 a=none
theorem Owns.ext {H0 H1 H2:Hp} {vs:List V} {ds:List PyData} {L L':List Addr} {ys:List V} {es:List PyData} {D:Addr} {zs zs':List V} (h:Owns H0 H1 vs ds L) (hD:∀ a∈L,a≠D) (s0:Yd H0 H1) (s:Yd H1 H2) (o:Owns H1 H2 ys es L') (h1:H1 D=some (.lst zs)):Owns H0 (upd H2 D (.lst zs')) (vs++ys) (ds++es) (L++L')∧∀ a∈L++L',a≠D:=by
 have hD':∀ a∈L',a≠D:=fun a ha e=>by have:=o.new a ha;rw [e,h1] at this;cases this
 have t:Tps H2 (upd H2 D (.lst zs')) := .upd_lst (s _ _ h1)
 refine ⟨⟨((h.vl.keep s).keepL t fun a ha vs e=>by rw [Yg (hD a ha)];exact e).append (o.vl.keepL t fun a ha vs e=>by rw [Yg (hD' a ha)];exact e),?_,fun a ha=>?_⟩,fun a ha=>?_⟩
 ·refine List.nodup_append.mpr ⟨h.nd,o.nd,fun a ha b hb e=>?_⟩
  subst e
  obtain ⟨vs,e1,_⟩:=h.vl.mem a ha
  rw [o.new a hb] at e1
  cases e1
 ·rcases List.mem_append.mp ha with ha | ha
  ·exact h.new a ha
  ·exact s0.free (o.new a ha)
 ·rcases List.mem_append.mp ha with ha | ha
  ·exact hD a ha
  ·exact hD' a ha
theorem UT {K:PySem.W.Frag} {tl:TE} {g:TG} {tb:TS} {D:Ends} {σ:St} {H:Hp} {a:Addr} {xs:List V} (Pv:Nat→St→Hp→Prop) (ha:∀ R:V→Hp→Prop,R (.ref a) H→tl σ H R) (h0:Pv 0 σ H) (hl:∀ i σ H,i≤xs.length→Pv i σ H→SqT K H a xs)
  (hs:∀ i x σ H,xs[i]?=some x→Pv i σ H→g x σ H fun σ2 H2=>tb { D with nx:=Pv (i+1),ct:=Pv (i+1),bk:=D.nx } σ2 H2) (hd:∀ σ H,Pv xs.length σ H→D.nx σ H):Xg (iTup K tl) g tb D σ H:=by
 refine ha _ ⟨a,rfl,⟨xs,hl 0 σ H (Nat.zero_le _) h0⟩,?_⟩
 exact Vn Pv h0 hl hs hd
theorem X8 {a b:TI} {g:TG} {tb:TS} {D:Ends} {σ:St} {H:Hp} (h:Xg a g tb D σ H):Xg (iOr a b) g tb D σ H:=.inl h
theorem W1 {a b:TI} {g:TG} {tb:TS} {D:Ends} {σ:St} {H:Hp} (h:Xg b g tb D σ H):Xg (iOr a b) g tb D σ H:=.inr h
section
variable {src:List (Option Nat)} {te:TE} {σ:St} {H:Hp} {Q:VK}
end
end L2
namespace L2
open PySem PySem.Spec PyProof.Rows
section
variable {X:Cx} {pos:Pos}
end
end L2
namespace L2
open PySem
section
variable {src:List (Option Nat)} {te:TE} {σ:St} {H:Hp} {Q:VK}
end
end L2
namespace L2
open PySem PySem.Spec PyProof.Rows
section
variable {g:Gx} {k:Nat} {x qual m:Str} {st:Stmt} {N ps:List Str} {sp:Sp} {C:Addr}
end
section
variable {g:Gx} {X:Cx} {k j:Nat} {x m:Str} {ps:List Str} {sp:Sp} {E:XK} {C:Addr} {e o:Expr} {es:List Expr} {t:TA} {ta:TE} {p pos apos:Pos}
end
section
variable {g:Gx} {X:Cx} {k jj j:Nat} {f c n:Str} {ps:List Str} {sp:Sp} {e:Expr} {es:List Expr} {t:TA} {ts:TS} {b₀:Stmt} {suite:List Stmt} {cv:Value} {fp cp hpos apos cpos pos:Pos}
end
end L2
namespace L2
open PySem PySem.Spec PyProof.Rows
def QG (l:List Str) (v:Str):List Str:=if l.any (·==v) then l else l++[v]
def met (val:Nat→Str) (i:Nat):List Str:=((List.range i).map val).foldl QG []
section
variable {prog:Program} {w:World} {A:Around} {R:Result→Shared→Prop} {I:Addr} {fp wr:List Addr} {G:Array GenState→Array GenState→Prop} {n:Nat} {P:Nat→Value→Prop} {St:Nat→Shared→Prop}
end
end L2
namespace L2
open PySem PySem.Spec PyProof.Rows
section
variable {prog:Program} {w:World} {A:Around} {E:Value→Shared→Prop} {s:Shared}
end
def SetO (a:Addr) (n:Nat):HO := .ext fun h=>∃ (o:Obj) (es:Array (Int×Value)) (ep:Nat) (t:SetTable),h.get? a=some o∧o.ExactSet∧o.data = .set es ep t∧t.fits es.size=true∧es.size=n∧n<scanBound
section
variable {X:Cx}
end
end L2
namespace L2
open PySem PySem.Spec PyProof.Rows
section
variable {X:Cx}
end
end L2
namespace L2
open PySem PySem.Spec PyProof.Rows
section
variable {X:Cx}
end
end L2
namespace L2
open PySem PySem.Spec PyProof.Rows
section
variable {X:Cx}
end
end L2
namespace L2
open PySem PySem.Spec PyProof.Rows
section
variable {X:Cx} {e lo st:Expr} {te tl ts:TE} {pos p2:Pos}
end
section
variable {g:Gx} {X:Cx} {k j:Nat} {x m:Str} {ps:List Str} {sp:Sp} {e:Expr} {es:List Expr} {t:TA} {p pos apos:Pos}
end
end L2
namespace L2
open PySem PySem.Spec PyProof.Rows
section
variable {X:Cx}
end
section
variable {K:PySem.W.Frag} {h:Heap} {mg:Str→Option Value} {P:Program} {w:World} {base:Heap} {f B:Addr} {x qual m:Str} {st:Stmt} {ps N:List Str} {oc kV dc pm cd ct:Value} {od an:Option Addr} {sl:Array (Option Value)} {g:Gx} {k:Nat} {sp:Sp}
end
end L2
namespace L2
end L2
namespace L2
open PySem PySem.Spec PyProof.Rows
section
variable {g:TG} {tb:TS} {D:Ends} {σ:St} {H:Hp}
end
def V0s (H:Hp) (us:List V) (ds:List PyData):Prop:=us.length=ds.length∧∀ (i:Nat) u d,us[i]?=some u→ds[i]?=some d→VL H u d []
theorem V0s.keep {H H':Hp} {us:List V} {ds:List PyData} (h:V0s H us ds) (t:Tps H H'):V0s H' us ds:=⟨h.1,fun i u d h1 h2=>(h.2 i u d h1 h2).keepL t fun a ha=>absurd ha (by simp)⟩
theorem V0s.nil {H:Hp}:V0s H [] []:=⟨rfl,fun i u d h=>by simp at h⟩
theorem V0s.one {H:Hp} {u:V} {d:PyData} (h:VL H u d []):V0s H [u] [d]:=⟨rfl,fun i x y h1 h2=>by
 cases i with
 | zero =>
  have e1:u=x:=by simpa using h1
  have e2:d=y:=by simpa using h2
  subst e1 e2
  exact h
 | succ i=>simp at h1⟩
theorem V0s.append {H:Hp} {us us':List V} {ds ds':List PyData} (h:V0s H us ds) (h':V0s H us' ds'):V0s H (us++us') (ds++ds'):=by
 refine ⟨by rw [List.length_append,List.length_append,h.1,h'.1],fun i u d h1 h2=>?_⟩
 by_cases hi:i<us.length
 ·rw [List.getElem?_append_left hi] at h1
  rw [List.getElem?_append_left (by rw [← h.1];exact hi)] at h2
  exact h.2 i u d h1 h2
 ·rw [List.getElem?_append_right (by omega)] at h1
  rw [List.getElem?_append_right (by rw [← h.1];omega),← h.1] at h2
  exact h'.2 _ u d h1 h2
theorem V0s.of {H:Hp}:∀ {us:List V} {ds:List PyData} {L:List Addr},VLs H us ds L→L=[]→V0s H us ds
 | _,_,_,.nil,_ => .nil
 | _,_,_,.cons h hs,e=>by
  obtain ⟨e1,e2⟩:=List.append_eq_nil_iff.mp e
  subst e1
  have:=(V0s.of hs e2)
  exact V0s.append (.one h) this
end L2
namespace L2
open PySem
theorem Wt {X:Cx} {K:PySem.W.Frag} (h:X.K=K:=by rfl):YY X (.type "tuple") (fun xs H Q=>∃ p ys,xs=[.ref p]∧((SqL K H p ys∧∀ l,H l=none→Q (.ref l) (upd H l (.tup ys)))∨SqT K H p ys∧Q (.ref p) H)):=by subst h;exact XI
end L2
namespace L2
open PySem
end L2
namespace L2
open PySem PySem.Spec PyProof.Rows
section
variable {X:Cx} {elts:List Expr} {kk:Nat} {tpos:Pos}
end
section
variable {tb:TS} {D:Ends} {σ:St} {H:Hp}
end
end L2
namespace L2
open PySem
end L2
namespace L2
open PySem PySem.Spec PyProof.Rows
abbrev FnO (f:Addr) (fd:FuncData):HO := .ext fun h=>h.get? f=some { cls := .type "function",data := .func fd }
abbrev CdO (c:Addr) (q:Str):HO := .ext fun h=>h.CodeRec (.ref c) q
abbrev CellO (c:Addr) (v:V):HO := .ext fun h=>∃ u,Ym v u∧h.IsCell c (some u)
section
variable {P:Program} {w:World} {H H':Hp} {h h':Heap}
end
def on (H' H:Hp) (cs:List Addr):Hp:=fun b=>if b∈cs then H b else H' b
section
variable {H H':Hp} {cs:List Addr} {b:Addr} {o:HO}
end
abbrev XV:=List (Str×Addr×V)
def XV.In (l:XV) (H:Hp):Prop:=∀ p∈l,H p.2.1=some (CellO p.2.1 p.2.2)
theorem XV.In.keep {l:XV} {H H':Hp} (h:l.In H) (s:Yd H H'):l.In H':=fun p hp=>s _ _ (h p hp)
section
variable {l:XV} {H:Hp}
end
section
variable {P:Program} {w:World} {K:PySem.W.Frag} {mg:Str→Option Value} {base:Heap} {N ps:List Str} {qual name:Str} {scope:Scope} {f c:Addr} {A:Around} {outer:List Env} {s:Shared} {H:Hp} {us:List Value} {vs:List V} {l:XV} {cd:Value}
end
def ClIn (H:Hp) (f c:Addr) (fd:FuncData) (qual:Str) (l:XV):Prop:=H f=some (FnO f fd)∧H c=some (CdO c qual)∧l.In H
theorem ClIn.keep {H H':Hp} {f c:Addr} {fd:FuncData} {qual:Str} {l:XV} (h:ClIn H f c fd qual l) (s:Yd H H'):ClIn H' f c fd qual l:=⟨s _ _ h.1,s _ _ h.2.1,h.2.2.keep s⟩
end L2
namespace L2
open PySem PySem.Spec PyProof.Rows
section
variable {X:Cx} {pins:List (Addr×Obj)} {σ:St} {H:Hp} {s:Shared}
end
section
variable {X:Cx} {c P:Addr} {name qual:Str} {params:Arguments} {body:List Stmt} {eb:Expr} {scope:Scope} {clos:List (Str×Addr)} {pos:Pos} {ln:Nat}
end
section
variable {X:Cx} {st:Stmt} {YA:List Stmt} {t:TS} {u:(St→V→Hp→Prop)→St→Hp→Prop} {e:Expr} {te:TE} {pos:Pos}
end
end L2
namespace L2
open PySem PySem.Spec PyProof.Rows
section
variable {X:Cx} {g:Gx} {k j i:Nat} {x:Str} {p pos:Pos} {e:Expr} {es:List Expr} {t:TA}
end
end L2
namespace HT
open PySem PySem.Spec PyProof.Rows
variable {prog:Program} {w:World} {A:Around} {E:Value→Shared→Prop} {s:Shared}
end HT
namespace L2
open PySem PySem.Spec PyProof.Rows
end L2
namespace L2
open PySem PySem.Spec PyProof.Rows
section
variable {tb:TS} {D:Ends} {σ:St} {H:Hp}
end
section
variable {src:List (Option Nat)} {te:TE} {tt:TT} {σ:St} {H:Hp} {Q:VK}
end
end L2
namespace L2
open PySem PySem.Spec PyProof.Rows
end L2
namespace L2
open PySem PySem.Spec PyProof.Rows
section
variable {g:Gx} {x qual:Str} {st:Stmt} {N ps:List Str} {dvs:List V} {sp:Sp} {j k:Nat}
variable {X:Cx} {p pos:Pos} {e:Expr} {es:List Expr} {t:TA}
end
section
variable {X:Cx}
end
section
variable {src:List (Option Nat)} {te:TE} {σ:St} {H:Hp} {Q:VK}
end
end L2
namespace L2
open PySem PySem.Spec PyProof.Rows
mutual
inductive RK (h:Heap):Value→PyData→Prop
 | int (i:Int) (t:Tok):RK h (.int i t) (.int i)
 | str (x:Str) (t:Tok) (hx:PyData.strOk x=true):RK h (.str x t) (.str x)
 | tup {a:Addr} {o:Obj} {vs:Array Value} {n:Nat} {ds:List PyData}:h.get? a=some o→o.cls = .type "tuple"→o.data = .seq vs n→RKs h vs.toList ds→RK h (.ref a) (.tuple ds)
inductive RKs (h:Heap):List Value→List PyData→Prop
 | nil:RKs h [] []
 | cons {v:Value} {d:PyData} {vs:List Value} {ds:List PyData}:RK h v d→RKs h vs ds→RKs h (v::vs) (d::ds)
end
mutual
inductive KO:PyData→Prop
 | int (i:Int):KO (.int i)
 | str (x:Str):KO (.str x)
 | tup {ds:List PyData}:KOs ds→KO (.tuple ds)
inductive KOs:List PyData→Prop
 | nil:KOs []
 | cons {d:PyData} {ds:List PyData}:KO d→KOs ds→KOs (d::ds)
end
mutual
theorem RK.ko {h:Heap}:∀ {v:Value} {d:PyData},RK h v d→KO d
 | _,_,.int i t => .int i
 | _,_,.str x t _ => .str x
 | _,_,.tup _ _ _ hs => .tup hs.ko
theorem RKs.ko {h:Heap}:∀ {vs:List Value} {ds:List PyData},RKs h vs ds→KOs ds
 | _,_,.nil => .nil
 | _,_,.cons a b => .cons a.ko b.ko
end
mutual
theorem RK.reads {h:Heap}:∀ {v:Value} {d:PyData},RK h v d→(∃ as,Reads h v d as)∧d.canLay0=true
 | _,_,.int i t=>⟨⟨_,.int i t⟩,rfl⟩
 | _,_,.str x t hx=>⟨⟨_,.str x t⟩,by simpa [PyData.canLay0] using hx⟩
 | _,_,.tup h1 h2 h3 hs=>by
  obtain ⟨⟨as,r⟩,l⟩:=hs.reads
  exact ⟨⟨_,.tuple h1 h2 h3 r⟩,by rw [PyData.canLay0];exact l⟩
theorem RKs.reads {h:Heap}:∀ {vs:List Value} {ds:List PyData},RKs h vs ds→(∃ as,ReadsAll h vs ds as)∧PyData.canLayAll0 ds=true
 | _,_,.nil=>⟨⟨_,.nil⟩,rfl⟩
 | _,_,.cons a b=>by
  obtain ⟨⟨as,r⟩,l⟩:=a.reads
  obtain ⟨⟨bs,r'⟩,l'⟩:=b.reads
  exact ⟨⟨_,.cons r r'⟩,by rw [PyData.canLayAll0,l,l'];rfl⟩
end
theorem RK.of {h:Heap} {d:PyData} {v:Value} {as:List Addr} (k:KO d) (r:Reads h v d as) (l:d.canLay0=true):RK h v d:=by
 induction k using KO.rec (motive_2:=fun ds _=>∀ {vs:List Value} {as:List Addr},ReadsAll h vs ds as→PyData.canLayAll0 ds=true→RKs h vs ds) generalizing v as with
 | int i=>cases r with | int _ t=>exact .int i t
 | str x=>cases r with | str _ t=>exact .str x t (by simpa [PyData.canLay0] using l)
 | tup _ ih=>cases r with | tuple h1 h2 h3 hs=>exact .tup h1 h2 h3 (ih hs (by rw [PyData.canLay0] at l;exact l))
 | nil=>rename_i r l;cases r;exact .nil
 | cons _ _ ih ihs =>
  rename_i r l
  rw [PyData.canLayAll0,Bool.and_eq_true] at l
  cases r with | cons r rs=>exact .cons (ih r l.1) (ihs rs l.2)
theorem RK.inj {h:Heap} {d:PyData} {v:Value} {e:PyData} (a:RK h v d) (b:RK h v e):d=e:=by
 obtain ⟨⟨_,r⟩,l⟩:=a.reads
 obtain ⟨⟨_,r'⟩,_⟩:=b.reads
 exact (r.unique _ _ r').1
mutual
theorem RK.keeps {h h':Heap} {x:Addr} {o:Obj} {es:Array DictEntry} {ep:Nat} (ho:h.get? x=some o) (hd:o.data = .dict es ep) (hs:Heap.SameBut x h h'):∀ {v:Value} {d:PyData},RK h v d→RK h' v d
 | _,_,.int i t => .int i t
 | _,_,.str y t hy => .str y t hy
 | _,_,.tup (a:=a) h1 h2 h3 ks=>by
  have hne:a≠x:=by
   rintro rfl
   rw [ho] at h1
   cases h1
   rw [hd] at h3
   exact nomatch h3
  exact .tup ((hs.2 a hne).trans h1) h2 h3 (RKs.keeps ho hd hs ks)
theorem RKs.keeps {h h':Heap} {x:Addr} {o:Obj} {es:Array DictEntry} {ep:Nat} (ho:h.get? x=some o) (hd:o.data = .dict es ep) (hs:Heap.SameBut x h h'):∀ {vs:List Value} {ds:List PyData},RKs h vs ds→RKs h' vs ds
 | _,_,.nil => .nil
 | _,_,.cons a b => .cons (RK.keeps ho hd hs a) (RKs.keeps ho hd hs b)
end
noncomputable instance decPy:DecidableEq PyData:=fun a b=>Classical.propDecidable (a=b)
mutual
theorem KO.eqv:∀ {d e:PyData},KO d→KO e→d.eqv e=decide (d=e)
 | .int a,.int b,_,_=>by
  by_cases h:a=b
  ·subst h;simp [PyData.eqv]
  ·simp [PyData.eqv,h]
 | .str a,.str b,_,_=>by
  by_cases h:a=b
  ·subst h;simp [PyData.eqv]
  ·simp [PyData.eqv,h]
 | .int a,.str b,_,_=>by simp [PyData.eqv]
 | .str a,.int b,_,_=>by simp [PyData.eqv]
 | .int a,.tuple b,_,_=>by simp [PyData.eqv]
 | .str a,.tuple b,_,_=>by simp [PyData.eqv]
 | .tuple a,.int b,_,_=>by simp [PyData.eqv]
 | .tuple a,.str b,_,_=>by simp [PyData.eqv]
 | .tuple a,.tuple b,.tup x,.tup y=>by
  rw [PyData.eqv,KOs.eqv x y]
  by_cases h:a=b
  ·subst h;simp
  ·simp [h]
theorem KOs.eqv:∀ {ds es:List PyData},KOs ds→KOs es→PyData.eqvAll ds es=decide (ds=es)
 | [],[],_,_=>by simp [PyData.eqvAll]
 | [],_::_,_,_=>by simp [PyData.eqvAll]
 | _::_,[],_,_=>by simp [PyData.eqvAll]
 | d::ds,e::es,.cons x xs,.cons y ys=>by
  rw [PyData.eqvAll,KO.eqv x y,KOs.eqv xs ys]
  by_cases h:d=e
  ·subst h
   by_cases h2:ds=es
   ·subst h2;simp
   ·simp [h2]
  ·simp [h]
end
section
variable {P:Program} {w:World}
mutual
def kh (P:Program) (w:World):PyData→Int
 | .int i=>(YS P w).hash (.inl i)
 | .str x=>(YS P w).hash (.inr x)
 | .tuple ds=>reduceHash (Builtin.Tuple.tupleHashOf (khs P w ds))
 | _=>0
def khs (P:Program) (w:World):List PyData→List Int
 | []=>[]
 | d::ds=>kh P w d::khs P w ds
end
mutual
def kdr:PyData→Nat
 | .int _=>1
 | .str _=>1
 | .tuple ds=>Y8 ds+1
 | _=>0
def Y8:List PyData→Nat
 | []=>0
 | d::ds=>kdr d+Y8 ds
end
theorem QH (a b:List PyData):khs P w (a++b)=khs P w a++khs P w b:=by
 induction a with
 | nil=>simp [khs]
 | cons x a ih=>simp [khs,ih]
theorem UU (a b:List PyData):Y8 (a++b)=Y8 a+Y8 b:=by
 induction a with
 | nil=>simp [Y8]
 | cons x a ih=>simp [Y8,ih,Nat.add_assoc]
theorem UV (a b:List PyData):PyData.depthAll (a++b)=max (PyData.depthAll a) (PyData.depthAll b):=by
 induction a with
 | nil=>simp [PyData.depthAll]
 | cons x a ih=>simp [PyData.depthAll,ih,Nat.max_assoc]
theorem Wj {s:Shared} {a:Addr} {o:Obj} (h1:s.heap.get? a=some o) (h2:o.cls = .type "tuple"):s.TypeIs (.ref a) "tuple":=⟨o,h1,h2⟩
theorem VA:∀ (n:Nat) {A:Around} {E:Value→Shared→Prop} {s:Shared} {v:Value} {d:PyData} {Q:Int→Shared→Prop},RK s.heap v d→d.depth≤n→A.units+n<cLine→Q (kh P w d) { s with toks:=s.toks+kdr d }→wpAny (model P w) A (pyHash v) Q E s
 | n,A,E,s,_,_,Q,.int i t,_,_,h=>(YS P w).pyHash (Qk (k := .inl i) (show Ym (.int i) (.int i t) from ⟨t,rfl⟩)) (by simpa [kh,kdr] using h)
 | n,A,E,s,_,_,Q,.str x t _,_,_,h=>(YS P w).pyHash (Qk (k := .inr x) (show Ym (.str x) (.str x t) from ⟨t,rfl⟩)) (by simpa [kh,kdr] using h)
 | 0,A,E,s,_,_,Q,.tup _ _ _ _,hd,_,h=>by simp [PyData.depth] at hd
 | n+1,A,E,s,_,_,Q,.tup (a:=a) (ds:=ds) h1 h2 h3 ks,hd,hu,h=>by
  have hT:=Wj h1 h2
  unfold pyHash
  first | unfold pyHashByItsType | skip
  first | refine wpAny_bind (wpAny_cRoomFor_or (.inr (by omega)) ?_) | skip
  refine wpAny_bind (wpAny_specialOf hT F.slot_tuple_hash.lookup ?_)
  show wpAny _ _ (if (some (Value.builtin "tuple.__hash__")==some Value.none)=true then _ else _) Q E s
  rw [if_neg (by rw [beq_builtin_none];exact Bool.false_ne_true)]
  refine wpAny_bind (wpAny_specialOf hT F.slot_tuple_hash.lookup ?_)
  refine wpAny_bind (wpAny_callSpecialIfBoundUnlessNone?_slot hT F.slot_tuple_hash (wpAny_call_entry F.slot_tuple_hash hT F.entry_tuple_hash ?_ (F.args_tuple_hash_1 _)))
  show wpAny _ _ (Builtin.Tuple.tupleItemsOf (.ref a) >>= _) _ _ s
  refine wpAny_bind (wpAny_tupleItemsOf h1 h3 ?_)
  refine wpAny_bind ?_
  rw [← Array.forIn_toList]
  have hdd:PyData.depthAll ds≤n:=by simp only [PyData.depth] at hd;omega
  refine wpAny_forIn_list _ (fun YA (b:Array Int) s'=>∃ done left,ds=done++left∧RKs s.heap YA left∧b.toList=khs P w done∧s'={ s with toks:=s.toks+Y8 done }) _ ?_ ?_ _ _ ⟨[],ds,rfl,ks,by simp [khs],by simp [Y8]⟩
  ·rintro x YA b s' ⟨done,left,e,hl,hb,rfl⟩
   cases hl with
   | @cons _ d _ ds' hk hl' =>
    have hdk:d.depth≤n:=by
     rw [e,UV] at hdd
     simp only [PyData.depthAll] at hdd
     omega
    have hin:A.in1.units+n<cLine:=by
     have:A.in1.units=A.units+1:=rfl
     omega
    refine wpAny_bind (VA n (s:={ s with toks:=s.toks+Y8 done }) hk hdk hin ?_)
    have fin:∃ done' left',ds=done'++left'∧RKs s.heap YA left'∧(b.push (kh P w d)).toList=khs P w done'∧({ s with toks:=s.toks+Y8 done+kdr d }:Shared)={ s with toks:=s.toks+Y8 done' } :=
     ⟨done++[d],ds',by rw [e];simp,hl',by rw [QH,Array.toList_push,hb];simp [khs],by rw [UU];simp [Y8,Nat.add_assoc]⟩
    first
     | exact wpAny_pure fin
     | exact wpAny_bind (wpAny_pure (wpAny_pure fin))
  ·rintro b s' ⟨done,left,e,hl,hb,rfl⟩
   cases hl
   rw [List.append_nil] at e
   subst e
   show wpAny _ _ (retInt (Builtin.Tuple.tupleHashOf b.toList)) _ _ _
   rw [hb]
   refine wpAny_ret_mkInt ?_
   simp only [kh,kdr] at h
   unfold reduceHash at h
   show wpAny _ _ (if (decide (-(2:Int)^63≤Builtin.Tuple.tupleHashOf (khs P w ds))&&decide (Builtin.Tuple.tupleHashOf (khs P w ds)<2^63))=true then _ else _) Q E _
   by_cases hr:(decide (-(2:Int)^63≤Builtin.Tuple.tupleHashOf (khs P w ds))&&decide (Builtin.Tuple.tupleHashOf (khs P w ds)<2^63))=true
   ·rw [if_pos hr]
    rw [if_pos hr] at h
    exact wpAny_pure (by simpa [Nat.add_assoc] using h)
   ·rw [if_neg hr]
    rw [if_neg hr] at h
    exact wpAny_bind (wpAny_rule (wpAny_pure (by simpa [Nat.add_assoc] using h)))
theorem W2:∀ (n:Nat) {A:Around} {E:Value→Shared→Prop} {s:Shared} {v:Value} {d:PyData} {Q:Bool→Shared→Prop},RK s.heap v d→d.depth≤n→Q true s→wpAny (model P w) A (eqIsQuiet n v) Q E s
 | n,A,E,s,_,_,Q,.int i t,_,h=>by rw [eqIsQuiet_byValue _ (by rfl)];exact wpAny_pure h
 | n,A,E,s,_,_,Q,.str x t _,_,h=>by rw [eqIsQuiet_byValue _ (by rfl)];exact wpAny_pure h
 | 0,A,E,s,_,_,Q,.tup _ _ _ _,hd,h=>by simp [PyData.depth] at hd
 | n+1,A,E,s,_,_,Q,.tup (a:=a) (ds:=ds) h1 h2 h3 ks,hd,h=>by
  have hT:=Wj h1 h2
  have hdd:PyData.depthAll ds≤n:=by simp only [PyData.depth] at hd;omega
  unfold eqIsQuiet
  refine wpAny_bind (wpAny_specialOf hT F.slot_tuple_eq.lookup ?_)
  refine wpAny_bind (wpAny_isInstance hT isSubtype_tuple_tuple ?_)
  simp only [Bool.not_true,Bool.false_eq_true,if_false]
  refine wpAny_bind (wpAny_seqItems h1 h3 ?_)
  refine wpAny_bind ?_
  rw [Option.getD_some,← Array.forIn_toList]
  refine wpAny_forIn_list _ (fun YA r s'=>r.1=none∧s'=s∧∃ left,RKs s.heap YA left∧PyData.depthAll left≤n) _ ?_ ?_ _ _ ⟨rfl,rfl,ds,ks,hdd⟩
  ·rintro v YA r s' ⟨hr,rfl,left,hl,hdl⟩
   cases hl with
   | @cons _ d _ ds' hk hl' =>
    simp only [PyData.depthAll] at hdl
    refine wpAny_bind (W2 n hk (by omega) ?_)
    simp only [Bool.not_true,Bool.false_eq_true,if_false]
    exact wpAny_pure ⟨rfl,rfl,ds',hl',by omega⟩
  ·rintro ⟨r1,r2⟩ s' ⟨hr,rfl,_⟩
   simp only at hr
   subst hr
   exact wpAny_pure h
noncomputable def deepKind (P:Program) (w:World):HeapKind P w PyData where
 is:=fun h d a=>RK h (.ref a) d∧d.depth≤8
 hash:=kh P w
 draws:=kdr
 room:=fun A=>A.units+8<cLine
 inj:=fun hx hy=>hx.1.inj hy.1
 keeps:=fun x ho hd hs=>⟨x.1.keeps ho hd hs,x.2⟩
 pyHash:=fun hu hk h=>VA 8 hk.1 hk.2 hu h
 eqBool:=fun {A E s x y a b Q} hu hx hy h=>by
  obtain ⟨⟨as,r1⟩,l1⟩:=hx.1.reads
  obtain ⟨⟨bs,r2⟩,l2⟩:=hy.1.reads
  have hm:min x.depth y.depth≤8:=Nat.le_trans (Nat.min_le_left _ _) hx.2
  exact SeqAt.eqAt_reads x y A s _ _ _ _ r1 r2 l1 l2 (by omega) P w E Q (by rw [KO.eqv hx.1.ko hy.1.ko];exact h)
 quiet:=fun hk h=>W2 8 hk.1 hk.2 h
end
abbrev Dx:=List (PyData×Addr×Addr)
def dconv (x:PyData×Addr×Addr):PyData×Addr×Value:=(x.1,x.2.1,.ref x.2.2)
noncomputable def DDi (P:Program) (w:World) (a:Addr) (xs:Dx):HO := .ext fun h=>(a==sysModules)=false∧∃ o es ep,h.get? a=some o∧o.ExactDict∧o.data = .dict es ep∧es.toList=(xs.map dconv).map (entryOfKey (deepKind P w))
structure DK (K:PySem.W.Frag) (H:Hp) (b:Addr) (d:PyData):Prop where
 den:Den K H (.ref b) d
 ko:KO d
 dp:d.depth≤8
theorem DK.keep {K:PySem.W.Frag} {H H':Hp} {b:Addr} {d:PyData} (h:DK K H b d) (s:Yd H H'):DK K H' b d:=⟨h.den.keep s,h.ko,h.dp⟩
noncomputable def lookD (xs:Dx) (d:PyData):Option Addr:=(xs.find? fun x=>decide (x.1=d)).map (·.2.2)
structure DictD (P:Program) (w:World) (K:PySem.W.Frag) (H:Hp) (a:Addr) (xs:Dx):Prop where
 at_:H a=some (DDi P w a xs)
 nd:(xs.map (·.1)).Nodup
 len:xs.length≤1000
 keys:∀ x∈xs,DK K H x.2.1 x.1
section
variable {X:Cx} {pins:List (Addr×Obj)} {σ:St} {H:Hp} {s:Shared} {a b:Addr} {d:PyData} {xs:Dx} {u r:Value} {A:Around} {E:Value→Shared→Prop}
end
section
variable {X:Cx} {o i e value:Expr} {pos pos' tpos:Pos} {td ty tv:TE} {k:Nat}
end
def XG (H H':Hp):Prop:=∀ b xs,Rd H b (.tup xs)→Rd H' b (.tup xs)
theorem XG.sq {K:PySem.W.Frag} {H H':Hp} (t:XG H H') {b:Addr} {xs:List V} (h:SqT K H b xs):SqT K H' b xs:=by
 rcases h with h | h
 ·exact .inl (t _ _ h)
 ·exact .inr h
theorem XG.trans {H H1 H2:Hp} (a:XG H H1) (b:XG H1 H2):XG H H2:=fun c xs e=>b c xs (a c xs e)
theorem UW {K:PySem.W.Frag} {H H':Hp} (t:XG H H') {d:PyData} {v:V} (k:KO d) (r:Den K H v d):Den K H' v d:=by
 induction k using KO.rec (motive_2:=fun ds _=>∀ {vs:List V},Dens K H vs ds→Dens K H' vs ds) generalizing v with
 | int i=>cases r with | int _=>exact .int i
 | str x=>cases r with | str _ h=>exact .str x h
 | tup _ ih=>cases r with | tup h hs=>exact .tup (t.sq h) (ih hs)
 | nil=>rename_i r;cases r;exact .nil
 | cons _ _ ih ihs=>rename_i r;cases r with | cons a b=>exact .cons (ih a) (ihs b)
theorem DK.tupk {K:PySem.W.Frag} {H H':Hp} {b:Addr} {d:PyData} (h:DK K H b d) (t:XG H H'):DK K H' b d:=⟨UW t h.ko h.den,h.ko,h.dp⟩
theorem DictD.keep {P:Program} {w:World} {K:PySem.W.Frag} {H H':Hp} {a:Addr} {xs:Dx} (h:DictD P w K H a xs) (t:XG H H') (e:H' a=some (DDi P w a xs)):DictD P w K H' a xs:=⟨e,h.nd,h.len,fun x hx=>(h.keys x hx).tupk t⟩
section
variable {X:Cx} {k:Nat}
end
section
variable {X:Cx} {e:Expr} {f:Str} {pos:Pos} {ta:TE}
end
end L2
namespace L2
open PySem PySem.Spec PyProof.Rows
end L2
namespace L2
open PySem PySem.Spec PyProof.Rows
end L2
namespace L2
open PySem PySem.Spec PyProof.Rows
section
variable {M:Model} {A:Around} {E:Value→Shared→Prop} {s:Shared}
end
section
variable {X:Cx}
end
section
variable {X:Cx}
end
end L2
namespace L2
open PySem PySem.Spec PyProof.Rows
section
variable {M:Model} {A:Around} {E:Value→Shared→Prop} {s:Shared} {B:Heap} {env:Env} {outer l:List Env} {e L:Addr} {cls a0:Value} {Q:Unit→Shared→Prop}
end
section
variable {X:Cx} {pins:List (Addr×Obj)} {σ:St} {H H':Hp} {s s1 s':Shared} {B:Heap} {e C:Addr} {cls a0:Value} {M:Model} {A:Around} {Q:Unit→Shared→Prop} {EE:Value→Shared→Prop}
end
section
variable {prog:Program} {w:World} {A:Around} {R:Result→Shared→Prop} {s:Shared}
end
section
variable {X:Cx}
end
end L2
namespace L2
open PySem PySem.Spec PyProof.Rows
section
variable {prog:Program} {w:World} {A:Around} {E:Value→Shared→Prop} {s:Shared}
end
section
variable {X:Cx}
end
end L2
namespace L2
open PySem PySem.Spec PyProof.Rows
open Sem (wp)
section
variable {prog:Program} {w:World} {A:Around} {R:Result→Shared→Prop} {I:Addr} {fp wr:List Addr} {n:Nat} {P:Nat→Value→Prop} {St:Nat→Heap→Prop}
end
section
variable {prog:Program} {w:World} {A:Around} {E:Value→Shared→Prop} {s:Shared} {l:Addr} {xs:Array (Int×Tok)}
end
section
variable {X:Cx}
end
section
variable {X:Cx}
end
end L2
namespace L2
open PySem PySem.Spec PyProof.Rows PySem.Builtin.Str
section
variable {X:Cx}
end
end L2
namespace L2
open PySem PySem.Spec PyProof.Rows
section
variable {X:Cx}
end
end L2
namespace PySem.W
open PySem PyProof.Rows
open Builtin Builtin.ObjectAttr
section
variable {prog:Program} {w:World} {A:Around} {E:Value→Shared→Prop} {hh:Heap} {g:Array GenState} {d:Drawn} {t:Nat} {os:OsState} {K:Frag} {x C D:Addr} {ox:Obj} {mA:Str→Option Value} {f:Str} {v:Value}
theorem Vg {tk:Tok} {Q:Fin→Shared→Prop} (In:K.In hh) (hd:hasDictIn K C=true) (hx:hh.get? x=some ox) (hc:ox.cls = .ref C) (hnc:∀ c,ox.data ≠ .cls c) (hdc:ox.dict=some D) (hns:hh.Ns D mA) (hv:mA f=some v) (ha:findIn K (.ref C) f=some none)
  (hq:Q (.done (.ret v)) ⟨hh,g,d,t,os⟩):wpAny (model prog w) A (Builtin.«object.__getattribute__» ⟨[.ref x,.str f tk],[]⟩) Q E ⟨hh,g,d,t,os⟩:=by
 have L3:=looks_findIn (M:=model prog w) In ha
 unfold Builtin.«object.__getattribute__»
 repeat (any_goals (first | assumption | (with_reducible refine wpAny_loadPart_at hx ?_;rw [hc]) | with_reducible refine L3.at ?_ | wp_step))
 obtain ⟨cd,e,hcd⟩:=any_some hd
 have L4:=looks_clsIn (M:=model prog w) In e
 split
 ·rename_i c hcd2
  exact absurd hcd2 (hnc c)
 unfold instanceDict
 repeat (any_goals (first | assumption | (with_reducible refine wpAny_loadPart_at hx ?_;simp only [hc]) | with_reducible refine L4.at ?_ | wp_step))
 rw [hdc]
 repeat (any_goals (first | assumption | (with_reducible refine wpAny_nsGet hns ?_;rw [hv]) | wp_step))
theorem VY {tk:Tok} {R:Result→Shared→Prop} (In:K.In hh) (hd:hasDictIn K C=true) (hx:hh.get? x=some ox) (hc:ox.cls = .ref C) (hnc:∀ c,ox.data ≠ .cls c) (hdc:ox.dict=some D) (hns:hh.Ns D mA) (hv:mA f=some v) (hb:mroIn K C (.type "BaseException")=some true) (ha:findIn K (.ref C) f=some none)
  (hq:R (.ok (.ret v)) ⟨hh,g,d,t,os⟩):codeAny (model prog w) A (.call (.builtin "BaseException.__getattribute__") ⟨[.ref x,.str f tk],[]⟩) R ⟨hh,g,d,t,os⟩ :=
 codeAny_call_builtin (by decide +kernel) F.entry_bexc_ga (Vf In hx hc hb (Vg In hd hx hc hnc hdc hns hv ha hq))
theorem exatt_attr {b:Bool} {Q:Value→Shared→Prop} (In:K.In hh) (hd:hasDictIn K C=true) (hx:hh.get? x=some ox) (hc:ox.cls = .ref C) (hnc:∀ c,ox.data ≠ .cls c) (hdc:ox.dict=some D) (hns:hh.Ns D mA) (hv:mA f=some v) (hh':handedOut v=pure v) (hb:mroIn K C (.type "BaseException")=some true) (ha:findIn K (.ref C) f=some none)
  (hga:findIn K (.ref C) "__getattribute__"=some (some (.builtin "BaseException.__getattribute__"))) (hgt:findIn K (.ref C) "__getattr__"=some none) (hq:Q v ⟨hh,g,d,t+1,os⟩) :
  wpAny (model prog w) A (getAttr (.ref x) f b) Q E ⟨hh,g,d,t,os⟩:=by
 have hbd:=Uw (.ref x)
 have e2:(Value.builtin "BaseException.__getattribute__"==Value.builtin "object.__getattribute__")=false:=by decide +kernel
 have e1:(onTheHeap (Value.ref C)&&Value.builtin "BaseException.__getattribute__"==Value.builtin "object.__getattribute__")=false:=by rw [e2];rfl
 have L1:=looks_findIn (M:=model prog w) In hga
 have L2:=looks_findIn (M:=model prog w) In hgt
 unfold getAttr getAttrBy
 repeat (any_goals (first | assumption | (with_reducible refine wpAny_loadPart_at hx ?_;rw [hc]) | with_reducible refine L1.at ?_ | with_reducible refine L2.at ?_ | wp_step))
 have e0:(b&&onTheHeap (Value.builtin "BaseException.__getattribute__"))=false:=by cases b<;>rfl
 rw [if_neg (by rw [e0];decide)]
 unfold boundAndCalled
 repeat (any_goals (first | assumption | wp_step))
 refine VY In hd hx hc hnc hdc hns hv hb ha ?_
 repeat (any_goals (first | assumption | wp_step))
end
section
variable {prog:Program} {w:World} {A:Around} {E:Value→Shared→Prop} {s:Shared} {K:Frag} {x C C' D:Addr} {ox:Obj} {od:Option Obj} {mA:Str→Option Value} {name:Str} {v:Value} {R:Result→Shared→Prop}
def excLine (K:Frag) (C C':Addr):Bool:=(clsIn K C).any fun cd=>cd.mro==[.ref C,.ref C',.type "ValueError",.type "Exception",.type "BaseException",.type "object"]
theorem Wk {tk:Tok} (X:K.In s.heap) (I:InstAt s.heap x ox C od) (hm:excLine K C C'=true) (ha:findIn K (.ref C) name=some none)
  (h:wpAny (model prog w) A.in1 (storeInOwnDict (.ref x) (.ref C) (.str name tk) name v false)
   (fun fin s'=>match fin with | .done f=>R (.ok f) s' | .again c'=>c'.quiet=true∧codeAny (model prog w) A c' R s') (fun e s'=>R (.error e) s') s) :
  codeAny (model prog w) A (.call (.builtin "object.__setattr__") ⟨[.ref x,.str name tk,v],[]⟩) R s:=by
 have SF:=PySem.F.store_object
 obtain ⟨cd,hc,ho⟩:=any_some hm
 have ho:=eq_of_beq ho
 have sub:Looks (model prog w) s.heap (isInstance (.ref x) (.type "object")) true:=I.type.andThen (looks_mroIn X (by unfold mroIn;rw [hc,Option.bind_some,ho];rfl))
 refine codeAny_call_builtin SF.slot.plain SF.entry (@check_slot (model prog w) _ _ s "object.__setattr__" "object" "__setattr__" (.ref x) [.str name tk,v] [] _ SF.kind SF.split sub (SF.args (.ref x) (.str name tk) v) ?_)
 have hmro:Looks (model prog w) s.heap (mroOf (.ref C)) cd.mro:=(looks_clsIn X hc).andThen .now
 rw [osa_eq,refuse_eq]
 refine wpAny_bind (wpAny_bind (I.type.here (wpAny_bind (hmro.here ?_))))
 rw [ho,refuseLoop_ref,refuseLoop_ref,PySem.F.store_ValueError.passes]
 refine wpAny_pure (wpAny_bind (I.type.here (wpAny_bind ((looks_findIn X ha).here (wpAny_bind (wpAny_pure ?_))))))
 exact h
end
section
variable {prog:Program} {w:World} {A:Around} {E:Value→Shared→Prop} {s:Shared} {K:Frag} {x C C' D:Addr} {ox:Obj} {od:Option Obj} {mA:Str→Option Value} {name:Str} {v:Value} {vs:Array Value} {Q:Unit→Shared→Prop}
theorem W3 (hf:ox.data = .fields vs):notCls ox=true:=by unfold notCls;rw [hf]
theorem exset_more {ns:List Str} (X:K.In s.heap) (hx:s.heap.get? x=some ox) (hc:ox.cls = .ref C) (hf:ox.data = .fields vs) (hdc:ox.dict=some D) (hn:s.heap.Ns1 D mA) (hne:D≠x) (hd:hasDictIn K C=true) (hm:excLine K C C'=true) (ha:findIn K (.ref C) name=some none)
  (hs:findIn K (.ref C) "__setattr__"=some (some (.builtin "object.__setattr__"))) (hw:PySem.Within mA ns) (hsz:ns.length≤sizeLine)
  (h:∀ h',h'.Ns1 D (fun y=>if y=name then some v else mA y)→Heap.SameBut D s.heap h'→Q () { s with heap:=h',toks:=s.toks+2 }):wpAny (model prog w) A (setAttr (.ref x) name v) Q E s:=by
 obtain ⟨oD,_,_,hoD0,_⟩:=id hn
 have J:InstAt s.heap x ox C (some oD):=⟨hx,hc,W3 hf,by rw [hdc];exact hoD0⟩
 refine set_plain X J hs (Wk (s:={ s with toks:=s.toks+1 }) (C':=C') X J hm ha ?_)
 obtain ⟨cd,hcd,hd'⟩:=any_some hd
 refine wpAny_bind (wpAny_pure (wpAny_bind (wpAny_bind (wpAny_loadPart hx ?_))))
 simp only [hc]
 refine wpAny_bind (Looks.here (s:={ s with toks:=s.toks+1 }) (looks_clsIn X hcd) ?_)
 rw [hd',hdc]
 refine wpAny_pure (a:=some D) (wpAny_bind (wpAny_pure (wpAny_bind ?_)))
 refine wpAny_nsSet1 (s:={ s with toks:=s.toks+1 }) hn fun h' hn2 hs2=>?_
 obtain ⟨oD,esD,epD,hoD,hdD,hcD⟩:=hn2.count (PySem.Within.cons name v hw)
 refine wpAny_bind (wpAny_lookBehind hoD (by rw [hdD];exact pastItsLine_dict (Nat.le_trans hcD (by rw [List.length_cons];omega))) ?_)
 exact wpAny_pure (h _ hn2 hs2)
theorem exset_new (X:K.In s.heap) (hx:s.heap.get? x=some ox) (hc:ox.cls = .ref C) (hf:ox.data = .fields vs) (hdc:ox.dict=none) (hd:hasDictIn K C=true) (hm:excLine K C C'=true) (ha:findIn K (.ref C) name=some none)
  (hs:findIn K (.ref C) "__setattr__"=some (some (.builtin "object.__setattr__")))
  (h:∀ h',h'.Ns1 s.heap.objs.size (fun y=>if y=name then some v else none)→h'.get? x=some { ox with dict:=some s.heap.objs.size }→(∀ b o,b≠x→s.heap.get? b=some o→h'.get? b=some o)→Q () { s with heap:=h',toks:=s.toks+2 }):wpAny (model prog w) A (setAttr (.ref x) name v) Q E s:=by
 have J:InstAt s.heap x ox C none:=⟨hx,hc,W3 hf,by rw [hdc];exact True.intro⟩
 refine set_plain X J hs (Wk (s:={ s with toks:=s.toks+1 }) (C':=C') X J hm ha ?_)
 obtain ⟨cd,hcd,hd'⟩:=any_some hd
 refine wpAny_bind (wpAny_pure (wpAny_bind (wpAny_bind (wpAny_loadPart hx ?_))))
 simp only [hc]
 refine wpAny_bind (Looks.here (s:={ s with toks:=s.toks+1 }) (looks_clsIn X hcd) ?_)
 rw [hd',hdc,hf]
 rw [if_neg (by decide)]
 dsimp only
 rw [if_neg (by simp [typeHasDict])]
 have hx₁:(s.heap.push { cls := .type "dict",data := .dict #[] }).get? x=some ox:=Heap.get?_push_of_some _ hx
 have hxs:x≠s.heap.objs.size:=Nat.ne_of_lt (Heap.lt_size hx)
 refine wpAny_bind (wpAny_alloc' (wpAny_bind (wpAny_update' hx₁ (wpAny_pure ?_))))
 generalize hH:(s.heap.push { cls := .type "dict",data := .dict #[] }).update x (fun o=>{ cls:=o.cls,dict:=some s.heap.objs.size,data:=o.data,slots:=o.slots })=H2
 have hgd:H2.get? s.heap.objs.size=some { cls := .type "dict",data := .dict #[] }:=by
  rw [← hH]
  exact (Heap.get?_update_ne _ _ _ _ hxs.symm).trans (Heap.get?_push_at rfl rfl)
 have hx2:H2.get? x=some { cls:=ox.cls,dict:=some s.heap.objs.size,data:=ox.data,slots:=ox.slots }:=by
  rw [← hH]
  refine Heap.get?_update_self _ hx₁ ?_
  have hfr:=(Heap.get?_some_iff.mp hx).2
  obtain ⟨oc,od,odt,osl⟩:=ox
  cases odt<;>first | rfl | exact hfr
 have hko:∀ b o,b≠x→s.heap.get? b=some o→H2.get? b=some o:=fun b o hb e=>by
  rw [← hH]
  exact (Heap.get?_update_ne _ _ _ _ hb).trans (Heap.get?_push_of_some _ e)
 have hnd:H2.Ns s.heap.objs.size (fun _=>none):=⟨_,#[],_,hgd,rfl,fun e he=>absurd he (by simp),fun _=>rfl⟩
 refine wpAny_bind (wpAny_pure (wpAny_bind ?_))
 refine wpAny_nsSet1 (s:={ s with heap:=H2,toks:=s.toks+1 }) (Heap.Ns1.of_empty hnd) fun h' hn2 hs2=>?_
 obtain ⟨oD,esD,epD,hoD,hdD,hcD⟩:=hn2.count (PySem.Within.cons name v PySem.Within.nil)
 refine wpAny_bind (wpAny_lookBehind hoD (by rw [hdD];exact pastItsLine_dict (Nat.le_trans hcD (by rw [List.length_cons,List.length_nil,sizeLine_eq];omega))) ?_)
 exact wpAny_pure (h _ hn2 ((hs2.2 x hxs).trans hx2) fun b o hb e=>(hs2.2 b (Nat.ne_of_lt (Heap.lt_size e))).trans (hko b o hb e))
end
end PySem.W
namespace PySem.W
open PySem PyProof.Rows
theorem VZ {K:Frag} {h:Heap} {N:Addr} {mg:Str→Option Value} {n:Str} {v:Value} (X:K.In h) (G:h.Ns N mg) (e:nsIn K N n=some (some v)):mg n=some v:=by
 obtain ⟨o,es,ep,ho,hd,_,hf⟩:=G
 unfold nsIn at e
 split at e
 ·rename_i c d es' n' sl q
  have:=X _ _ q
  rw [ho] at this
  cases this
  cases hd
  split at e
  ·rename_i he
   rw [← hf]
   unfold nsFind findBy
   rw [← Array.find?_toList,he]
   cases e
   rfl
  ·split at e<;>cases e
 ·cases e
def excOwn (K:Frag) (C:Addr) (tl:List Value) (nw:String) (f:Addr):Bool:=match K.lookup C with
 | some ⟨.type "type",_,.cls cd,sl⟩=>(match cd.mro,sl.toList with
  | .ref c::bm,[_,_,_,_,some (.builtin n),_]=>(c==C&&n==nw)&&((!cd.hasDel&&tailIn K tl bm)&&(nsOkIn K cd.ns&&nsIn K cd.ns "__init__"==some (some (.ref f))))
  | _,_=>false)
 | _=>false
theorem excOwn_obj {K:Frag} {h:Heap} {C f:Addr} {tl:List Value} {nw:String} (In:K.In h) (q:excOwn K C tl nw f=true) :
  ∃ (bm:List Value) (ns:Addr) (nm qn:Str) (bs:List Value) (hd:Bool) (sn:List Str) (sub:List Value) (ab:Bool) (col:Option Bool) (dd:Option Addr) (k0 k1 k2 k3 k5:Option Value) (mN:Str→Option Value),
   h.get? C=some (excClassObj nm qn C ns bs bm hd sn sub ab col dd k0 k1 k2 k3 k5 nw)∧h.Ns ns mN∧mN "__init__"=some (.ref f)∧OwnTail h tl bm:=by
 unfold excOwn at q
 split at q
 case h_2=>exact absurd q (by decide)
 case h_1 dd cd sl lk =>
  split at q
  case h_2=>exact absurd q (by decide)
  case h_1 c2 bm k0 k1 k2 k3 n k5 em es =>
   simp only [beq_iff_eq,Bool.and_eq_true,Bool.not_eq_true'] at q
   obtain ⟨⟨q1,q2⟩,⟨q3,q4⟩,q5,q6⟩:=q
   obtain ⟨nm,bs,mro,ns,qn,hd,sn,sub,ab,col,del⟩:=cd
   obtain ⟨lst⟩:=sl
   dsimp only at em q3 q5 q6 es
   subst q1 q2 em q3 es
   have hN:h.Ns ns _ := .of_isNs (isNs_of_in In q5)
   exact ⟨bm,ns,nm,qn,bs,hd,sn,sub,ab,col,dd,k0,k1,k2,k3,k5,_,In _ _ lk,hN,VZ In hN q6,tail_of_in In q4⟩
abbrev Xq (a0:Value):Array Value:=#[a0,.none,.none,.none,.bool false,.none]
section
variable {prog:Program} {w:World} {A:Around} {E:Value→Shared→Prop} {h:Heap} {g:Array GenState} {d:Drawn} {t:Nat} {os:OsState}
variable {nm q:Str} {C N:Addr} {bs bm bmB:List Value} {hdct:Bool} {sn:List Str} {sub:List Value} {ab:Bool} {col:Option Bool} {dd:Option Addr} {k0 k1 k2 k3 k5:Option Value} {B newId initId:String}
theorem WK (F:ExcBaseFacts B newId initId bmB) (T:OwnTail h bmB bm) {mN:Str→Option Value} {YA:List Value} {fI:Addr} {oI:Obj} {Q:Fin→Shared→Prop}
  (hC:h.get? C=some (excClassObj nm q C N bs bm hdct sn sub ab col dd k0 k1 k2 k3 k5 newId)) (hn:h.Ns N mN) (hi:mN "__init__"=some (.ref fI))
  (hfI:h.get? fI=some oI) (hfc:oI.cls = .type "function")
  (hq:∀ h' e,Heap.MadeExcOf h h' e (.ref C) YA→e=h.objs.size+1 →
   wpAny (model prog w) A (call (.ref fI) (.ref e::YA)) (fun r s'=>r = .none∧Q (.done (.ret (.ref e))) s') E ⟨h',g,d,t,os⟩) (hrest:YA.length≤sizeLine) :
  wpAny (model prog w) A (Builtin.«type.__call__» ⟨.ref C::YA,[]⟩) Q E ⟨h,g,d,t,os⟩:=by
 repeat (first | with_reducible refine wpAny_loadPart_at hC ?_ | with_reducible refine wpAny_madeBy_exc hC ?_ | wp_step)
 refine codeAny_call_builtin_code (Code.quiet_builtin _ F.quiet) (wpAny_check_new_subT F T hC ?_)
 refine codeAny_exc_new_subT F T hC ?_ hrest
 show wpAny _ _ _ _ _ _
 have keep:∀ b o,h.get? b=some o→((h.push { cls := .type "tuple",data := .seq YA.toArray }).push { cls := .ref C,data := .fields #[.ref h.objs.size,.none,.none,.none,.bool false,.none] }).get? b=some o :=
  fun b o e=>Heap.get?_push_of_some _ (Heap.get?_push_of_some _ e)
 have hget:((h.push { cls := .type "tuple",data := .seq YA.toArray }).push
   { cls := .ref C,data := .fields #[.ref h.objs.size,.none,.none,.none,.bool false,.none] }).get? (h.objs.size+1)=some
   { cls := .ref C,data := .fields #[.ref h.objs.size,.none,.none,.none,.bool false,.none] }:=by heap_get
 have hC₁:=keep _ _ hC
 have hn₁:=hn.keeps keep
 have hcC:(Value.ref C::bm).contains (.ref C)=true:=by simp
 have T₁:=T.keeps keep
 unfold isInstance
 repeat (first | with_reducible refine wpAny_loadPart_at hget ?_ | (with_reducible refine wpAny_isSubtype_exc hC₁ ?_;rw [hcC]) | wp_step)
 show wpAny _ _ (typeLookup (.ref C) _) _ _ _
 refine wpAny_typeLookup_tail hC₁ hn₁ T₁ F.mroIs F.init.lookup ?_
 rw [hi]
 refine wpAny_holding (wpAny_bind ?_)
 unfold bindSpecial
 refine wpAny_bind (wpAny_typeOf (T:="function") ⟨_,keep _ _ hfI,hfc⟩ ?_)
 rw [if_pos (by decide)]
 refine wpAny_pure (wpAny_bind (wpAny_mono (hq _ (h.objs.size+1) ⟨keep,Heap.get?_none_of_le (Nat.le_succ _),h.objs.size,hget,Heap.get?_none_of_le (Nat.le_refl _),?_⟩ rfl) (fun r s' hr=>?_) fun _ _ x=>x))
 ·exact Heap.get?_push_of_some _ (Heap.get?_push_at rfl rfl)
 ·obtain ⟨rfl,hQ⟩:=hr
  wp_walk
  exact hQ
theorem exc_make_call (F:ExcBaseFacts B newId initId bmB) (T:OwnTail h bmB bm) {mN:Str→Option Value} {YA:List Value} {fI:Addr} {oI:Obj} {Q:Value→Shared→Prop}
  (hC:h.get? C=some (excClassObj nm q C N bs bm hdct sn sub ab col dd k0 k1 k2 k3 k5 newId)) (hn:h.Ns N mN) (hi:mN "__init__"=some (.ref fI))
  (hfI:h.get? fI=some oI) (hfc:oI.cls = .type "function")
  (hq:∀ h' e,Heap.MadeExcOf h h' e (.ref C) YA→e=h.objs.size+1 →
   wpAny (model prog w) (A.under (.builtin "type.__call__" ⟨.ref C::YA,[]⟩)) (call (.ref fI) (.ref e::YA)) (fun r s'=>r = .none∧Q (.ref e) s') E ⟨h',g,d,t,os⟩) (hrest:YA.length≤sizeLine) :
  wpAny (model prog w) A (call (.ref C) YA) Q E ⟨h,g,d,t,os⟩:=by
 have f1:=tc_lookup
 have f2:=tc_bind (.ref C)
 have hT:(⟨h,g,d,t,os⟩:Shared).TypeIs (.ref C) "type":=⟨_,hC,rfl⟩
 refine wpAny_call (codeAny_of_tree ?_)
 show wpAny _ _ (callAny (.ref C) _) _ _ _
 repeat (any_goals (first | assumption | with_reducible refine wpAny_loadPart_at hC ?_ | wp_step))
 refine ⟨rfl,?_⟩
 exact codeAny_call_builtin_at (Code.quiet_builtin _ (by decide +kernel)) entry_typeCall (wpAny_check_type_call_sub hC (WK F T hC hn hi hfI hfc (fun h' e hm he=>hq h' e hm he) hrest))
theorem exc_base_init (F:ExcBaseFacts B newId initId bmB) (T:OwnTail h bmB bm) {e:Addr} {dc:Option Addr} {sl:Array (Option Value)} {t0:Addr} {m:Value} {Q:Value→Shared→Prop}
  (hC:h.get? C=some (excClassObj nm q C N bs bm hdct sn sub ab col dd k0 k1 k2 k3 k5 newId)) (he:h.get? e=some ⟨.ref C,dc,.fields (Xq (.ref t0)),sl⟩)
  (hq:∀ h' T,h'.get? e=some ⟨.ref C,dc,.fields (Xq (.ref T)),sl⟩→(∀ b o,b≠e→h.get? b=some o→h'.get? b=some o)→Q .none ⟨h',g,d,t,os⟩) :
  wpAny (model prog w) A (call (.builtin initId) [.ref e,m]) Q E ⟨h,g,d,t,os⟩:=by
 refine wpAny_call (codeAny_call_builtin F.init.plain F.initEntry (wpAny_check_init_subT F T hC he rfl ?_))
 have he1:(h.push { cls := .type "tuple",data := .seq [m].toArray }).get? e=some ⟨.ref C,dc,.fields (Xq (.ref t0)),sl⟩:=Heap.get?_push_of_some _ he
 wp_walk
 refine hq _ h.objs.size ((Heap.get?_update_self _ he1 rfl).trans rfl) fun b o hb eb=>?_
 exact (Heap.get?_update_other _ _ (Ne.symm hb)).trans (Heap.get?_push_of_some _ eb)
end
section
variable {M:Model} {A:Around} {E:Value→Shared→Prop} {env:Env}
variable {nm q:Str} {C N:Addr} {bs bm bmB:List Value} {hdct:Bool} {sn:List Str} {sub:List Value} {ab:Bool} {col:Option Bool} {dd:Option Addr} {k0 k1 k2 k3 k5:Option Value} {B newId initId:String}
theorem XC {s:Shared} {x:Sem Value} {Q:Flow→Shared→Prop} (hbase:bm.contains (.type "BaseException")=true) (hh:A.handled=none)
  (h:wpAny M A x (fun v s₁=>∃ e dc t0 sl,v = .ref e∧s₁.heap.get? C=some (excClassObj nm q C N bs bm hdct sn sub ab col dd k0 k1 k2 k3 k5 newId)∧s₁.heap.get? e=some ⟨.ref C,dc,.fields (Xq (.ref t0)),sl⟩∧E (.ref e) s₁) E s) :
  wpAny M A (raiseStmt env (some x) none) Q E s:=by
 have hcB:(Value.ref C::bm).contains (.type "BaseException")=true:=by rw [List.contains_cons,hbase,Bool.or_true]
 unfold raiseStmt
 refine wpAny_bind (wpAny_mono h (fun v s₁ h₁=>?_) fun _ _ x=>x)
 obtain ⟨e,dc,t0,sl,rfl,hC,he,hE⟩:=h₁
 obtain ⟨hp,g,d,tk,os⟩:=s₁
 repeat (first | with_reducible refine wpAny_loadPart_at he ?_ | with_reducible refine wpAny_loadPart_at hC ?_ | (with_reducible refine wpAny_isSubtype_exc hC ?_;rw [hcB]) | wp_step)
 exact wpAny_raiseNew_none hh hE
end
section
variable {prog:Program} {w:World} {A:Around} {E:Value→Shared→Prop} {s:Shared} {env:Env}
variable {nm q:Str} {C N:Addr} {bs bm bmB:List Value} {hdct:Bool} {sn:List Str} {sub:List Value} {ab:Bool} {col:Option Bool} {dd:Option Addr} {k0 k1 k2 k3 k5:Option Value} {B newId initId:String}
theorem exc_raise_call {x:Str} {np cpos pos:Pos} {args:List Expr} {Q:Flow→Shared→Prop}
  (hbase:bm.contains (.type "BaseException")=true) (hh:A.handled=none) (hplain:(backTo cpos (starEach args env)).any (·.1)=false)
  (h:wpAny (model prog w) A (eval (.Name x np) env) (fun f s₁=>f = .ref C∧wpAny (model prog w) A (evalArgs (.ref C) true (backTo cpos (starEach args env)) [])
   (fun a s₂=>a.kw=[]∧s₂.heap.get? C=some (excClassObj nm q C N bs bm hdct sn sub ab col dd k0 k1 k2 k3 k5 newId) ∧
    wpAny (model prog w) A (call (.ref C) a.pos) (fun v s₃=>∃ e dc t0 sl,v = .ref e∧s₃.heap.get? C=some (excClassObj nm q C N bs bm hdct sn sub ab col dd k0 k1 k2 k3 k5 newId)∧s₃.heap.get? e=some ⟨.ref C,dc,.fields (Xq (.ref t0)),sl⟩∧E (.ref e) s₃) E s₂) E s₁) E s) :
  wpAny (model prog w) A (exec (.Raise (some (.Call (.Name x np) args [] cpos)) none pos) env) Q E s:=by
 rw [arm_exec_Raise]
 first
  | refine wpAny_bind (wpAny_standAt (XC (C:=C) (nm:=nm) (q:=q) (N:=N) (bs:=bs) (bm:=bm) (hdct:=hdct) (sn:=sn) (sub:=sub) (ab:=ab) (col:=col) (dd:=dd) (k0:=k0) (k1:=k1) (k2:=k2) (k3:=k3) (k5:=k5) (newId:=newId) hbase hh (wpAny_bind (wpAny_mono (wpAny_Call_ofName (wpAny_mono h (fun f s₁ h₁=>?_) fun _ _ x=>x)) (fun v s₃ h₃=>wpAny_bind (wpAny_standAt (wpAny_pure h₃))) fun _ _ x=>x))))
  | (refine wpAny_bind (wpAny_standAt (XC (C:=C) (nm:=nm) (q:=q) (N:=N) (bs:=bs) (bm:=bm) (hdct:=hdct) (sn:=sn) (sub:=sub) (ab:=ab) (col:=col) (dd:=dd) (k0:=k0) (k1:=k1) (k2:=k2) (k3:=k3) (k5:=k5) (newId:=newId) hbase hh ?_));refine wpAny_bind (wpAny_mono (wpAny_Call_ofName (wpAny_mono h (fun f s₁ h₁=>?_) fun _ _ x=>x)) (fun v s₃ h₃=>wpAny_bind (wpAny_standAt (wpAny_pure h₃))) fun _ _ x=>x))
 obtain ⟨rfl,h₁⟩:=h₁
 unfold callWith
 refine wpAny_bind (wpAny_holding (wpAny_mono h₁ (fun a s₂ h₂=>wpAny_bind (wpAny_standAt ?_)) fun _ _ x=>x))
 obtain ⟨apos,akw⟩:=a
 obtain ⟨hkw,hC,h₂⟩:=h₂
 obtain rfl:akw=[]:=hkw
 obtain ⟨hp,g,d,tk,os⟩:=s₂
 simp only [hplain]
 refine wpAny_bind (wpAny_keeperOf_exc hC ?_)
 exact wpAny_bind (wpAny_mono h₂ (fun v s₃ h₃=>wpAny_bind (wpAny_holding (wpAny_point (wpAny_pure h₃)))) fun _ _ x=>x)
end
end PySem.W
namespace L2
open PySem PySem.Spec PyProof.Rows
open PySem.W (Xq)
def YO (a:Addr) (cls:Value) (dc:Option Addr):HO := .ext fun h=>∃ t0 sl,h.get? a=some ⟨cls,dc,.fields (Xq (.ref t0)),sl⟩
def del (H:Hp) (a:Addr):Hp:=fun b=>if b=a then none else H b
theorem UX {H:Hp} {a:Addr}:del H a a=none:=by unfold del;rw [if_pos rfl]
theorem Xl {H:Hp} {a b:Addr} (h:b≠a):del H a b=H b:=by unfold del;rw [if_neg h]
theorem Yac {H:Hp} {a b:Addr} {o:HO} (h:del H a b=some o):b≠a∧H b=some o:=by
 unfold del at h
 split at h
 ·cases h
 ·exact ⟨‹_›,h⟩
section
variable {P:Program} {w:World} {H:Hp} {h:Heap} {a t0:Addr} {cls:Value} {dc:Option Addr} {sl:Array (Option Value)}
theorem Wu (q:h.get? a=some ⟨cls,dc,.fields (Xq (.ref t0)),sl⟩):Ys P w H h a (YO a cls dc):=⟨⟨t0,sl,q⟩,⟨_,q⟩,fun h1 h2 ⟨t,sl,p⟩ k=>⟨t,sl,k _ p⟩⟩
end
section
variable {X:Cx} {pins:List (Addr×Obj)} {σ:St} {H:Hp} {s:Shared} {e:Addr} {cls:Value} {M:Model} {A:Around} {Q:Unit→Shared→Prop} {EE:Value→Shared→Prop} {dc:Option Addr}
theorem Inv.leave_excN (I:Inv X pins σ H s) (hs:X.stack=X.env::X.outer) (hf:X.env.frame=some X.env.locals) (hex:X.ex=[]) (hA:A.frames=some (X.env::X.outer)) (he:H e=some (YO e cls dc)) (hnew:X.s₀.heap.get? e=none)
  (hQ:∀ h'' B,Fly X.prog X.w X.outer X.H₀ X.s₀.heap e cls (del H e) h'' B→YM h'' e dc→Q () { s with heap:=h'' }):wpAny M A (leaving X.env (.ref e)) Q EE s:=by
 have nx:∀ b:Addr,b∉X.ex:=by
  rw [hex]
  intro b z
  cases z
 have st:=I.stack
 have sf:=I.stkFree
 rw [hs] at st sf
 obtain ⟨⟨t0,sl,q0⟩,_,_⟩:=I.hok e _ he
 have hne:∀ b o,X.s₀.heap.get? b=some o→b≠e:=fun b o q z=>by rw [z,hnew] at q;cases q
 have hd0:YM s.heap e dc:=⟨_,q0,rfl⟩
 have hstays:(PySem.W.hideAll s.heap (e::frs (X.env::X.outer))).StaysIn s.heap:=fun b o q=>PySem.W.of_hideAll _ q
 refine wpAny_mono (Xj (XT _ _) hd0 (wpAny_leaving_firstW (Q:=fun _ s'=>∃ h'',s'={ s with heap:=h'' }∧Fly X.prog X.w X.outer X.H₀ X.s₀.heap e cls (del H e) h'' (PySem.W.hideAll s.heap (e::frs (X.env::X.outer)))) (a0 := .ref t0) (base:=PySem.W.hideAll s.heap (e::frs (X.env::X.outer))) hA (PySem.W.funFrames_hide st fun env he a ha=>List.mem_cons_of_mem _ (List.mem_filterMap.mpr ⟨env,he,ha⟩)) hf q0 hstays (PySem.W.hideAll_none _ (List.mem_cons_self ..)) rfl rfl rfl fun h'' hL=>⟨h'',rfl,?_⟩)) (fun _ s' z=>by
  obtain ⟨⟨h'',rfl,F⟩,d⟩:=z
  exact hQ h'' _ F d) fun _ _ z=>z.1
 obtain ⟨k1,⟨_,_,k2⟩,k3,k4⟩:=hL
 have notIn:∀ b o,X.s₀.heap.get? b=some o→b∉frs X.outer→b∉e::frs (X.env::X.outer):=fun b o q nb z=>by
  rcases List.mem_cons.mp z with z | z
  ·exact hne b o q z
  ·exact I.notStk hf q nb z
 refine ⟨⟨_,k1,PySem.W.hideAll_none _ (List.mem_cons_self ..),k2,k3⟩,fun b u q=>?_,fun b o q n nb=>PySem.W.hideAll_get _ (I.base.keep b o q n nb (nx b)) (notIn b o q nb),fun b o q n hb=>?_,fun b o q nb=>?_,fun b o q n=>?_,fun b xs q=>?_,fun b o u q=>?_,fun b ps q=>?_⟩
 ·obtain ⟨nb,q⟩:=Yac q
  refine (I.hok b u q).stay (fun c v hc r=>PySem.W.hideAll_get _ r fun z=>?_) (fun c r=>?_) fun c xs r=>?_
  ·rcases List.mem_cons.mp z with z | z
   ·subst z
    rcases hc with hc | hc
    ·exact nb hc.symm
    ·rw [he] at hc;cases hc
   ·have n:=sf c z
    rcases hc with rfl | hc
    ·rw [n] at q;cases q
    ·rw [n] at hc;cases hc
  ·rw [Xl fun z=>by rw [z,he] at r;cases r];exact r
  ·rw [Xl fun z=>by rw [z,he] at r;cases r];exact r
 ·obtain ⟨sl,e1⟩:=I.base.slot b o q n hb (nx b)
  obtain ⟨_,o',e',d⟩:=I.ok.funs.mem hb
  rw [q] at e'
  cases e'
  obtain ⟨sl',e2⟩:=k4 b _ e1 d
  exact ⟨sl',e2⟩
 ·obtain ⟨o',e1⟩:=I.base.there b o q (nx b)
  exact ⟨o',PySem.W.hideAll_get _ e1 (notIn b o q nb)⟩
 ·rw [Xl (hne b o q)];exact I.base.free b o q n (nx b)
 ·have z:=I.base.tups b xs q
  rw [Xl fun y=>by rw [y,he] at z;cases z];exact z
 ·have z:=I.base.frzs b o u q
  rw [Xl fun y=>by rw [y,he] at z;cases z];exact z
 ·obtain ⟨m,z⟩:=I.base.tbls b ps q
  exact ⟨m,by rw [Xl fun y=>by rw [y,he] at z;cases z];exact z⟩
end
def VB (X:Cx) (E:XK):Prop:=∀ (pins:List (Addr×Obj)) (σ:St) (H:Hp) (s:Shared) (e:Addr) (cls:Value) (dc:Option Addr),Inv X pins σ H s→H e=some (YO e cls dc)→(∀ o,X.s₀.heap.get? e=some o→e∈X.ex)→E cls dc (del H e)→X.xe (.ref e) s
section
variable {g:Gx} {N:List Str} {qual:Str} {st:Stmt} {f:Addr} {cdv:Value} {A:Around} {outer:List Env} {s:Shared} {H:Hp} {E:XK}
theorem Yad:VB (g.cxX N qual st f cdv A outer s H E) E:=by
 intro pins σ H1 s1 e cls dc I he hn q
 exact I.leave_excN rfl rfl rfl I.ok.frames he (by
  cases hq:s.heap.get? e with
  | none=>exact hq
  | some o=>exact absurd (hn o hq) (by simp [Xs])) fun h'' B F hd=>⟨e,cls,del H1 e,B,dc,rfl,I.os,I.bare,F,hd,q⟩
end
def Y3 (a:Addr) (fs:List (Str×V)):HO := .ext fun h=>∃ mA,h.Ns1 a mA∧(∀ f,XD (fs.lookup f) (mA f))∧PySem.Within mA (fs.map (·.1))
structure MkX (K:PySem.W.Frag) (C f:Addr):Prop where
 own:PySem.W.excOwn K C Wi "ValueError.__new__" f=true
 fn:PySem.W.isFn K (.ref f)=true
section
variable {X:Cx} {pins:List (Addr×Obj)} {σ:St} {H:Hp} {s:Shared} {C f:Addr} {k:Nat} {fd:FuncData} {ps:List Str} {sp:Sp} {ds:List Value} {dvs:List V} {E:XK} {CX:CXT}
theorem UY {Q:VK} {us:List Value} {vs:List V} (M:MkX X.K C f) (F:FnOk X.prog X.w X.K X.mg X.base CX k f fd ps sp) (hr:Room (k+1) X.A) (hb:YQ X.K fd ps ds) (hd:Yj dvs ds)
  (hx:Xx CX X E) (I:Inv X pins σ H s) (r:Yj vs us) (hz:us.length≤sizeLine)
  (h:∀ x,H x=none→s.heap.get? x=none→sp (.ref x::(vs++dvs)) (upd H x (YO x (.ref C) none)) (fun v H2=>v = .non∧Q (.ref x) H2) E) :
  wpAny (model X.prog X.w) X.A (call (.ref C) us) (EP X pins σ Q) X.xe s:=by
 obtain ⟨bm,ns,nm,qn,bs,hdd,sn,sub,ab,col,dd,k0,k1,k2,k3,k5,mN,hO,hN,hi,T⟩:=PySem.W.excOwn_obj I.kIn M.own
 obtain ⟨oI,ho,hoc⟩:=Option.map_eq_some_iff.mp (beq_iff_eq.mp M.fn)
 obtain ⟨hh,gg,dr,tk,os⟩:=s
 refine PySem.W.exc_make_call PySem.F.excBase_ValueError T hO hN hi (I.kIn _ _ ho) hoc (fun h' x hm ex=>?_) hz
 obtain ⟨t0,he,_,_⟩:=hm.there
 have hq:=h x (I.hok.fresh (by rw [ex];exact Nat.le_succ _)) hm.new
 have I2:Inv X pins σ (upd H x (YO x (.ref C) none)) ⟨h',gg,dr,tk,os⟩:=I.laid (t':=tk) (a:=x) (o:=YO x (.ref C) none) (fun b u q=>hm.keeps b u q) (by rw [ex];exact Nat.le_succ _) (Wu he)
 have r2:Yj (V.ref x::(vs++dvs)) (Value.ref x::(us++ds)) := .cons rfl (r.append hd)
 have hl:(Value.ref x::us++ds).length=ps.length:=by
  have e:=r2.length
  rw [F.len _ _ _ _ hq] at e
  exact e.symm
 refine wpAny_call (codeAny_mono (F.run _ X.stack _ _ ⟨Value.ref x::us,[]⟩ (Value.ref x::(us++ds)) _ _ E (hr.make C us []) (I2.env0.make C us []) (hb _ (Value.ref x::us) I2.kIn hl) r2 hq) fun r s' hq'=>?_)
 cases r with
 | error e=>exact hx pins σ _ _ e s' I2 hq'
 | ok fl =>
  cases fl with
  | ret u =>
   obtain ⟨v,H',I3,rv,ev,q3⟩:=I2.after hq'
   subst ev
   exact ⟨rv,⟨V.ref x,H',I3,rfl,q3⟩⟩
  | next=>exact False.elim hq'
  | brk=>exact False.elim hq'
  | cont=>exact False.elim hq'
end
structure ExFl (K:PySem.W.Frag) (C C':Addr):Prop where
 hd:PySem.W.hasDictIn K C=true
 ln:PySem.W.excLine K C C'=true
 sa:PySem.W.findIn K (.ref C) "__setattr__"=some (some (.builtin "object.__setattr__"))
section
variable {P:Program} {w:World} {H:Hp} {h:Heap} {a:Addr} {fs:List (Str×V)} {mA:Str→Option Value}
theorem VC (n:h.Ns1 a mA) (r:∀ f,XD (fs.lookup f) (mA f)) (wi:PySem.Within mA (fs.map (·.1))):Ys P w H h a (Y3 a fs):=by
 obtain ⟨od,es,ep,e,c⟩:=id n
 exact ⟨⟨mA,n,r,wi⟩,⟨od,e⟩,fun h1 h2 ⟨mB,⟨od,es,ep,e,c⟩,r,wi⟩ k=>⟨mB,⟨od,es,ep,k _ e,c⟩,r,wi⟩⟩
end
section
variable {X:Cx} {pins:List (Addr×Obj)} {σ:St} {H:Hp} {s:Shared} {C C' a d:Addr} {f:Str} {y:V} {u:Value} {Q:Unit→Shared→Prop} {A:Around} {E:Value→Shared→Prop} {fs:List (Str×V)}
theorem UZ (I:Inv X pins σ H s) (c:ExFl X.K C C') (na:PySem.W.findIn X.K (.ref C) f=some none) (e:H a=some (YO a (.ref C) none)) (ry:Ym y u)
  (h:∀ d s',H d=none→d≠a→Inv X pins σ (upd (upd H d (Y3 d [(f,y)])) a (YO a (.ref C) (some d))) s'→Q () s'):wpAny (model X.prog X.w) A (setAttr (.ref a) f u) Q E s:=by
 obtain ⟨⟨t0,sl,q0⟩,_,_⟩:=I.hok a _ e
 refine PySem.W.exset_new I.kIn q0 rfl rfl rfl c.hd c.ln na c.sa fun h' n1 ha hk=>?_
 have hfr:H s.heap.objs.size=none:=I.hok.fresh (Nat.le_refl _)
 have hne:s.heap.objs.size≠a:=fun z=>by rw [z,e] at hfr;cases hfr
 have ned:∀ b o,s.heap.get? b=some o→b≠s.heap.objs.size:=fun b o q=>Nat.ne_of_lt (Heap.lt_size q)
 have nea:∀ b,H b=none→b≠a:=fun b q z=>by rw [z,e] at q;cases q
 have oth:∀ b o,H b=some o→b≠a→(upd (upd H s.heap.objs.size (Y3 s.heap.objs.size [(f,y)])) a (YO a (.ref C) (some s.heap.objs.size))) b=some o:=fun b o q n=>by
  rw [Yg n,Yg (Yv q hfr)];exact q
 refine h _ _ hfr hne (I.un (t':=s.toks+2) ⟨fun b o q n _ _=>hk b o (nea b n) q,fun b o q n _ _=>⟨o.slots,hk b o (nea b n) q⟩,fun b o q n _=>?_,fun b o q _=>?_,fun b xs q=>?_,fun b o u q=>?_,fun b ps q=>?_⟩ fun b o q=>?_)
 ·rw [Yg (nea b n),Yg (ned b o q)];exact n
 ·by_cases z:b=a
  ·subst z;exact ⟨_,ha⟩
  ·exact ⟨o,hk b o z q⟩
 ·exact oth b _ q fun z=>by rw [z,e] at q;cases q
 ·exact oth b _ q fun z=>by rw [z,e] at q;cases q
 ·exact ⟨#[],by rw [Array.append_empty];exact oth b _ q fun z=>by rw [z,e] at q;cases q⟩
 ·by_cases z:b=a
  ·subst z
   rw [Yc] at q
   cases q
   exact Wu ha
  ·rw [Yg z] at q
   by_cases z2:b=s.heap.objs.size
   ·subst z2
    rw [Yc] at q
    cases q
    refine VC n1 (fun g=>?_) fun g hg=>?_
    ·by_cases eg:g=f
     ·subst eg
      rw [if_pos rfl]
      show XD (List.lookup g [(g,y)]) _
      simp only [List.lookup,beq_self_eq_true]
      exact ry
     ·rw [if_neg eg]
      have:(g==f)=false:=by simp [eg]
      simp only [List.lookup,this]
      exact True.intro
    ·by_cases eg:g=f
     ·subst eg;simp
     ·rw [if_neg eg] at hg;exact absurd rfl hg
   ·rw [Yg z2] at q
    refine (I.hok b o q).stay (fun c v hc r=>hk c v (fun zc=>?_) r) (fun c r=>?_) fun c xs r=>?_
    ·subst zc
     rcases hc with hc | hc
     ·exact z hc.symm
     ·rw [e] at hc;cases hc
    ·exact oth c _ r fun zc=>by rw [zc,e] at r;cases r
    ·exact oth c _ r fun zc=>by rw [zc,e] at r;cases r
theorem Ux (I:Inv X pins σ H s) (c:ExFl X.K C C') (na:PySem.W.findIn X.K (.ref C) f=some none) (e:H a=some (YO a (.ref C) (some d))) (ed:H d=some (Y3 d fs)) (hl:fs.length<1000) (hne:d≠a) (ry:Ym y u)
  (h:∀ s',Inv X pins σ (upd H d (Y3 d (Xc f y fs))) s'→Q () s'):wpAny (model X.prog X.w) A (setAttr (.ref a) f u) Q E s:=by
 obtain ⟨⟨t0,sl,q0⟩,_,_⟩:=I.hok a _ e
 obtain ⟨⟨mA,n1,r,wi⟩,_,_⟩:=I.hok d _ ed
 have hz:(fs.map (·.1)).length≤sizeLine:=by rw [List.length_map,sizeLine_eq];omega
 refine PySem.W.exset_more I.kIn q0 rfl rfl rfl n1 hne c.hd c.ln na c.sa wi hz fun h' n2 sb=>?_
 obtain ⟨od,es,ep,eo,co⟩:=id n2
 refine h _ (I.write (t':=s.toks+2) (x:=d) (e:=d) (by rw [ed];exact True.intro) (.inl rfl) (fun b q hb z=>(sb.2 b hb).trans z) ⟨od,eo⟩ (VC n2 (fun g=>?_) fun g hg=>?_))
 ·rw [X2]
  by_cases q:g=f
  ·rw [if_pos q,if_pos q];exact ry
  ·rw [if_neg q,if_neg q];exact r g
 ·by_cases q:g=f
  ·rw [q];exact (XQ f y fs).1
  ·refine (XQ f y fs).2 g (wi g fun z=>hg ?_)
   show (if g=f then some u else mA g)=none
   rw [if_neg q];exact z
end
structure BInit (g:Gx) (x:Str) (B:Addr):Prop where
 bound:g.mg x=some (.ref B)
 ga:PySem.W.specialIn g.K (.ref B) "__getattribute__"=some (some (.builtin "type.__getattribute__"))
 rd:PySem.W.readsIn g.K B (.type "type")=true
 at_:PySem.W.findCls g.K (.ref B) (.type "type") "__init__"=some (.val (.builtin "ValueError.__init__"))
def tBI (C:Addr) (t:TA):TE:=fun σ H Q=>t σ H fun vs H1=>∃ a m dc,vs=[.ref a,m]∧H1 a=some (YO a (.ref C) dc)∧Q .non H1
def sFx (C:Addr) (ta tv:TE) (f:Str):TS:=fun D σ H=>tv σ H fun y H1=>ta σ H1 fun x H2=>∃ a,x = .ref a∧((H2 a=some (YO a (.ref C) none)∧∀ d,H2 d=none→d≠a→D.nx σ (upd (upd H2 d (Y3 d [(f,y)])) a (YO a (.ref C) (some d)))) ∨
 ∃ d fs,H2 a=some (YO a (.ref C) (some d))∧H2 d=some (Y3 d fs)∧fs.length<1000∧d≠a∧D.nx σ (upd H2 d (Y3 d (Xc f y fs))))
def tFx (C:Addr) (ta:TE) (f:Str):TE:=fun σ H Q=>ta σ H fun x H1=>∃ a d fs v,x = .ref a∧H1 a=some (XU a (.ref C) (some d))∧H1 d=some (Y3 d fs)∧fs.lookup f=some v∧Q v H1
def spI (C:Addr) (fs:List Str):Sp:=fun vs H Q _=>∃ e us,vs = .ref e::us∧us.length=fs.length∧H e=some (YO e (.ref C) none)∧∀ d,H d=none→d≠e→Q .non (upd (upd H d (Y3 d (fs.zip us))) e (YO e (.ref C) (some d)))
def Gx.RawX (g:Gx) (x:Str) (C:Addr) (qual:Str) (st:Stmt) (ps:List Str):Prop:=∃ f fd,Fun g.K "__init__" qual st f fd∧YQ g.K fd ps []∧MkX g.K C f∧g.mg x=some (.ref C)
def Gx.MaX (g:Gx) (x:Str) (C:Addr) (ps fs:List Str):Prop:=∃ f fd,FnOk g.P g.w g.K g.mg g.base CX0 1 f fd ps (spI C fs)∧YQ g.K fd ps []∧MkX g.K C f∧g.mg x=some (.ref C)
theorem Gx.RawX.maX {g:Gx} {x qual:Str} {C:Addr} {st:Stmt} {N ps fs:List Str} (R:g.RawX x C qual st ps) (S:FnScope N ps (Yi st)) (len:∀ vs H Q E,spI C fs vs H Q E→vs.length=ps.length) (b:WY g 0 N qual st (spI C fs)):g.MaX x C ps fs:=by
 obtain ⟨f,fd,F,bd,hm,hg⟩:=R
 exact ⟨f,fd,F.ok S len fun cdv A outer s H vs Q E hr h=>b f cdv A outer s H vs Q E hr h,bd,hm,hg⟩
theorem QI {K:PySem.W.Frag} {h:Heap} {mg:Str→Option Value} {f C:Addr} {x qual:Str} {st:Stmt} {oc kV dc pm cd ct:Value} {od an:Option Addr} {sl:Array (Option Value)} (X:K.In h) (G:h.Ns mainGlobals mg) (ps:List Str) (aC:PySem.W.nsIn K mainGlobals x=some (some (.ref C)))
  (a:PySem.W.findIn K (.ref C) "__init__"=some (some (.ref f))) (o:PySem.W.excOwn K C Wi "ValueError.__new__" f=true) (i:PySem.W.isFn K (.ref f)=true) (l:K.lookup f=some ⟨oc,od,.func (PySem.W.fnOf "__init__" qual (YN st) (YF st) (Yi st) .none kV dc pm an cd ct),sl⟩) (c:PySem.W.codeIn K cd qual=true) (k:PySem.W.keepIn K (.ref f)=true)
  (b:∀ (kV doc pm:Value) (an:Option Addr) (cdv ct:Value) (us:List Value),us.length=ps.length→bindArgs (PySem.W.fnOf "__init__" qual (YN st) (YF st) (Yi st) .none kV doc pm an cdv ct) ⟨us,[]⟩=pure (ps.zip us)) :
  ∀ P w base,(Gx.mk P w K mg base).RawX x C qual st ps:=fun P w base =>
 have F:=WX (st:=st) l c k
 ⟨f,_,F,F.binds b,⟨o,i⟩,PySem.W.mg_of X G aC⟩
theorem Gx.RawX.own {g:Gx} {x qual:Str} {C:Addr} {st:Stmt} {ps:List Str} (R:g.RawX x C qual st ps):∃ f,PySem.W.excOwn g.K C Wi "ValueError.__new__" f=true:=by
 obtain ⟨f,_,_,_,M,_⟩:=R
 exact ⟨f,M.own⟩
section
variable {g:Gx} {X:Cx} {k j:Nat} {x m f:Str} {ps:List Str} {sp:Sp} {e o value:Expr} {es:List Expr} {t:TA} {ta tv:TE} {p pos apos pos' np cpos:Pos} {C C' B:Addr} {E:XK} {fs:List Str}
theorem U0 {pl:Sem Bool} (b:BInit g x B) (M:∃ fI,PySem.W.excOwn g.K C Wi "ValueError.__new__" fI=true) (ha:PA X (e::es) t) (hX:X.gx=g:=by rfl) (hg:Gl X x:=by rfl) (hdb:(x==("__debug__":Str))=false:=by decide)
  (hst:starEach (e::es) X.env=(false,eval e X.env)::starEach es X.env:=by rfl) (hpl:(backTo pos (starEach es X.env)).any (·.1)=false:=by rfl)
  (ht:eval (.Call (.Attribute (.Name x p) "__init__" apos) (e::es) [] pos) X.env=(do
   let ov ← eval (.Name x p) X.env
   standAt apos.atName
   let (f,first) ← holding [ov] (getMethod ov "__init__" pl)
   callWith pos f first (backTo pos (starEach (e::es) X.env)) (backToKw pos (keywordEach [] X.env))):=by rfl):PE X (.Call (.Attribute (.Name x p) "__init__" apos) (e::es) [] pos) (tBI C t):=by
 subst hX
 obtain ⟨fI,M⟩:=M
 intro pins s σ H Q I h
 refine PySem.W.methodCall_KW (pl:=pl) (thn (Yaa (g:=X.gx) (pos:=p) b.bound rfl hg hdb pins s σ H (fun v H1=>v = .ref B∧H1=H) I ⟨rfl,rfl⟩) fun u s1 ⟨v,H1,I1,rv,e1,e2⟩=>?_) ht
 subst e1 e2
 obtain rfl:u=Value.ref B:=rv
 refine PySem.W.method_cls I1.kIn b.ga (PySem.W.cls_value I1.kIn b.rd b.at_ rfl ?_)
 have I2:=I1.tok (s1.toks+1)
 refine PyProof.Rows.callWith_builtin1 (thn (ha pos pins _ σ H1 _ I2 h) fun us s2 ⟨vs,H2,I3,r,a,mm,dc,ev,he,q⟩=>?_) hst hpl
 subst ev
 obtain ⟨u1,u2,rfl,r1,r2⟩:=Qg r
 obtain rfl:u1=Value.ref a:=r1
 obtain ⟨bm,ns,nm,qn,bs,hdd,sn,sub,ab,col,dd,k0,k1,k2,k3,k5,mN,hO,hN,hi,T⟩:=PySem.W.excOwn_obj I3.kIn M
 obtain ⟨⟨t0,sl,q0⟩,_,_⟩:=I3.hok a _ he
 obtain ⟨hh,gg,dr,tk,os⟩:=s2
 refine PySem.W.exc_base_init PySem.F.excBase_ValueError T hO q0 fun h' T' e1 hk=>⟨.non,H2,?_,rfl,q⟩
 have I4:=I3.write (t':=tk) (h':=h') (x:=a) (e:=a) (o:=YO a (.ref C) dc) (by rw [he];exact True.intro) (.inl rfl) (fun b u hb z=>hk b u hb z) ⟨_,e1⟩ (Wu e1)
 rw [Q3 he] at I4
 exact I4
theorem QJ (c:ExFl g.K C C') (na:PySem.W.findIn g.K (.ref C) f=some none) (ha:PE X o ta) (hv:PE X value tv) (hX:X.gx=g:=by rfl) (hs:swapsWith value (some (.Attribute o f pos')) pos.line X.env=pure false:=by rfl):PS X (.Assign [.Attribute o f pos'] value pos) (sFx C ta tv f):=by
 subst hX
 intro pins s σ H D I h
 refine plainObj_wpAny_Assign_Attribute (thn (hv pins s σ H _ I h) fun u s1 ⟨y,H1,I1,ry,q⟩=>thn (ha pins s1 σ H1 _ I1 q) fun ov s2 ⟨x,H2,I2,rx,a,ex,q2⟩=>?_) hs
 subst ex
 obtain rfl:ov=Value.ref a:=rx
 rcases q2 with ⟨e0,q2⟩ | ⟨d,fs,e0,e1,l,ne,q2⟩
 ·exact UZ I2 c na e0 ry fun d s3 n1 n2 I3=>⟨σ,_,I3,q2 d n1 n2⟩
 ·exact Ux I2 c na e0 e1 l ne ry fun s3 I3=>⟨σ,_,I3,q2⟩
theorem pe_fx (T:ExcT g.K C) (na:PySem.W.findIn g.K (.ref C) f=some none) (he:PE X e ta) (hX:X.gx=g) (hb:attributeBase e f X.env (eval e X.env)=eval e X.env):PE X (.Attribute e f pos) (tFx C ta f):=by
 subst hX
 intro pins s σ H Q I h
 refine Qs hb (thn (he pins s σ H _ I h) fun u s1 ⟨x,H1,I1,rx,a,d,fs,v,ex,ea,ed,l,q⟩=>?_)
 subst ex
 obtain rfl:u=Value.ref a:=rx
 obtain ⟨⟨o,vs,h1,h2,h3,h4⟩,_⟩:=(show Ys X.prog X.w H1 s1.heap a (XU a (.ref C) (some d)) from I1.hok a _ ea)
 obtain ⟨⟨mA,n1,r,wi⟩,_⟩:=(show Ys X.prog X.w H1 s1.heap d (Y3 d fs) from I1.hok d _ ed)
 obtain ⟨u,hu,ru⟩:=XD.some_of (v:=v) (o:=mA f) (by rw [← l];exact r f)
 obtain ⟨hh,gg,dr,tk,os⟩:=s1
 exact PySem.W.exatt_attr I1.kIn T.hd h1 h2 (fun c z=>by rw [h3] at z;cases z) h4 n1.ns hu (PySem.W.handedOut_of (Ug ru)) T.hb na T.hga T.hgt ⟨v,H1,I1.tok _,ru,q⟩
def QK (C:Addr) (fs:List Str) (E:XK) (t:TA):TS:=fun _ σ H=>t σ H fun vs H1=>vs.length=fs.length∧vs.length≤1000∧∀ d,H1 d=none→E (.ref C) (some d) (upd H1 d (Y3 d (fs.zip vs)))
theorem Uy (F:g.MaX x C ps fs) (hr:Room k X.A) (hR:VB X E) (ha:PA X (e::es) t) (hj:2≤k) (hc:X.calm=true) (hX:X.gx=g) (hg:Gl X x) (hdb:(x==("__debug__":Str))=false)
  (he:starEach (e::es) X.env=(false,eval e X.env)::starEach es X.env) (hpl:(backTo cpos (starEach es X.env)).any (·.1)=false) :
  PS X (.Raise (some (.Call (.Name x np) (e::es) [] cpos)) none pos) (QK C fs E t):=by
 subst hX
 obtain ⟨f,fd,F,bd,M,hm⟩:=F
 intro pins s σ H D I h
 obtain ⟨bm,ns,nm,qn,bs,hd,sn,sub,ab,col,dd,k0,k1,k2,k3,k5,mN,hO,hN,hi,T⟩:=PySem.W.excOwn_obj I.mod.kin M.own
 refine PySem.W.exc_raise_call (C:=C) (nm:=nm) (q:=qn) (N:=ns) (bs:=bs) (bm:=bm) (hdct:=hd) (sn:=sn) (sub:=sub) (ab:=ab) (col:=col) (dd:=dd) (k0:=k0) (k1:=k1) (k2:=k2) (k3:=k3) (k5:=k5) (newId:="ValueError.__new__")
  (T.hasType PySem.F.excBase_ValueError.hasBase) (I.ok.hd hc) ?_ (Xw I hg hm ⟨rfl,?_⟩ hdb)
 ·rw [he]
  show (false||(backTo cpos (starEach es X.env)).any (·.1))=false
  rw [hpl];rfl
 ·have a1:=ha cpos pins s σ H _ I h
  rw [he] at a1 ⊢
  refine Calls.evalArgs_plain (wpAny_mono a1 (fun us s2 hz=>?_) fun _ _ y=>y)
  obtain ⟨vs,H2,I2,r,q0,q1,q2⟩:=hz
  refine ⟨rfl,I2.bk _ _ hO,wpAny_mono (UY (Q:=fun v H3=>∃ e dc,v = .ref e∧(∀ o,X.s₀.heap.get? e=some o→e∈X.ex)∧H3 e=some (YO e (.ref C) dc)∧E (.ref C) dc (del H3 e)) (dvs:=[]) M F (hr.mono hj) bd .nil VQ I2 r (by rw [← r.length,sizeLine_eq];omega) fun e n1 n2=>?_) (fun v s3 z=>?_) fun _ _ y=>y⟩
  ·have hs0:∀ o,X.s₀.heap.get? e=some o→e∈X.ex:=fun o hq=>Classical.byContradiction fun z=>by
    obtain ⟨o',z⟩:=I2.base.there e o hq z
    rw [n2] at z
    cases z
   refine ⟨e,vs,by rw [List.append_nil],q0,Yc,fun d m1 m2=>⟨rfl,e,some d,rfl,hs0,Yc,?_⟩⟩
   rw [Yg m2] at m1
   have:=q2 d m1
   refine Eq.mp (congrArg (E (.ref C) (some d)) (funext fun b=>?_)) this
   by_cases hb:b=e
   ·subst hb
    rw [UX,Yg (Ne.symm m2)]
    exact n1
   ·rw [Xl hb,Yg hb]
    by_cases hbd:b=d
    ·subst hbd;rw [Yc,Yc]
    ·rw [Yg hbd,Yg hbd,Yg hb]
  ·obtain ⟨v',H3,I3,rv,e,dc,ev,hs0,he3,q3⟩:=z
   subst ev
   obtain rfl:v=Value.ref e:=rv
   obtain ⟨⟨t0,sl,q5⟩,_,_⟩:=I3.hok e _ he3
   exact ⟨e,dc,t0,sl,rfl,I3.bk _ _ hO,q5,hR pins σ H3 s3 e _ dc I3 he3 hs0 q3⟩
end
theorem QL {C:Addr} {fs ps:List Str} {vs:List V} {H:Hp} {Q:VK} {E:XK} (h:spI C fs vs H Q E) (hp:ps.length=fs.length+1:=by rfl):vs.length=ps.length:=by
 obtain ⟨e,us,rfl,l,_⟩:=h
 rw [hp,List.length_cons,l]
theorem spI_1 {C:Addr} {f n0 n1 m:Str} {vs:List V} {H:Hp} {Q:VK} {E:XK} (h:spI C [f] vs H Q E) :
  X4 (VG (tBI C (WN (Wo 0) (WN (tC (.str m)) tNil)))) (sFx C (Wo 0) (Wo 1) f) { nx:=fun _ H'=>Q .non H',rt:=Q } (YZ [n0,n1] vs) H:=by
 obtain ⟨e,us,rfl,l,he,q⟩:=h
 obtain ⟨u,rfl⟩:∃ u,us=[u]:=by
  match us,l with
  | [u],_=>exact ⟨u,rfl⟩
 refine ⟨_,rfl,e,_,_,rfl,he,?_⟩
 refine ⟨_,rfl,_,rfl,e,rfl,.inl ⟨he,fun d m1 m2=>q d m1 m2⟩⟩
end L2
namespace L2
open PySem PySem.Spec PyProof.Rows
mutual
theorem Den.noDict {K:PySem.W.Frag} {H:Hp}:∀ {v:V} {d:PyData},Den K H v d→d.hasDict=false
 | _,_,.non=>rfl
 | _,_,.bl _=>rfl
 | _,_,.int _=>rfl
 | _,_,.str _ _=>rfl
 | _,_,.lst _ hs=>hs.noDict
 | _,_,.tup _ hs=>hs.noDict
theorem Dens.noDict {K:PySem.W.Frag} {H:Hp}:∀ {vs:List V} {ds:List PyData},Dens K H vs ds→PyData.hasDictAll ds=false
 | _,_,.nil=>rfl
 | _,_,.cons h hs=>by
  show (_||_)=false
  rw [h.noDict,hs.noDict]
  rfl
end
section
variable {X:Cx} {k:Nat}
theorem Uz (hr:Room k X.A):YY X (.builtin "repr") (fun xs H Q=>∃ a d,xs=[.ref a]∧Den X.K H (.ref a) d∧d.showable=true∧d.depth≤100∧d.shown.length≤sizeLine∧Q (.str d.shown) H):=by
 intro pins s σ H xs us Q I r h
 obtain ⟨a,d,rfl,hd,hs,dp,hz,q⟩:=h
 obtain ⟨u,rfl,ru⟩:=Wc r
 cases (show u=Value.ref a from ru)
 obtain ⟨as,ra⟩:=hd.reads I ru
 have hn:=hd.noDict
 have hun:=hr.un
 exact repr_of_reads' ra hs (fun z=>by rw [hn] at z;cases z) hr.gd (by omega) (fun _ _ e=>e) (fun h' u tk hk=>⟨.str d.shown,H,I.kept hk,⟨_,rfl⟩,q⟩) hz
theorem Wl {K:PySem.W.Frag} (hr:Room k X.A) (h:X.K=K:=by rfl):YY X (.builtin "repr") (fun xs H Q=>∃ a d,xs=[.ref a]∧Den K H (.ref a) d∧d.showable=true∧d.depth≤100∧d.shown.length≤sizeLine∧Q (.str d.shown) H):=by subst h;exact Uz hr
end
theorem U1 {K:PySem.W.Frag} {h:Heap} {mg:Str→Option Value} {x:Str} {B:Addr} (X:K.In h) (G:h.Ns mainGlobals mg) (a:PySem.W.nsIn K mainGlobals x=some (some (.ref B))) (ga:PySem.W.specialIn K (.ref B) "__getattribute__"=some (some (.builtin "type.__getattribute__"))) (rd:PySem.W.readsIn K B (.type "type")=true) (at_:PySem.W.findCls K (.ref B) (.type "type") "__init__"=some (.val (.builtin "ValueError.__init__"))) :
  ∀ P w base,BInit (Gx.mk P w K mg base) x B:=fun _ _ _=>⟨PySem.W.mg_of X G a,ga,rd,at_⟩
end L2
set_option maxHeartbeats 8000000
namespace KW
open PySem L2
def top (i:Nat):Stmt:=PySem.Challenge.pw_countgen_k54_each_said.main.body.getD i (.Pass ⟨0,0,0,0⟩)
abbrev X9:Stmt:=top 1
theorem UA:FnScope ["thing"] ["thing"] (Yi X9):=⟨rfl,rfl,rfl,by decide +kernel,rfl,by decide +kernel,by decide +kernel⟩
abbrev Zg:Stmt:=top 6
theorem ZO:FnScope ["thing"] ["thing"] (Yi Zg):=⟨rfl,rfl,rfl,by decide +kernel,rfl,by decide +kernel,by decide +kernel⟩
abbrev ZD:Stmt:=top 10
theorem Vh:FnScope ["thing"] ["thing"] (Yi ZD):=⟨rfl,rfl,rfl,by decide +kernel,rfl,by decide +kernel,by decide +kernel⟩
abbrev Ze:Stmt:=top 13
theorem ZM:FnScope ["thing"] ["thing"] (Yi Ze):=⟨rfl,rfl,rfl,by decide +kernel,rfl,by decide +kernel,by decide +kernel⟩
abbrev Z6:Stmt:=top 15
theorem Zw:FnScope ["thing"] ["thing"] (Yi Z6):=⟨rfl,rfl,rfl,by decide +kernel,rfl,by decide +kernel,by decide +kernel⟩
abbrev Wv:Stmt:=top 17
theorem W4:FnScope ["mark","term","thing","can_take","found"] ["mark","term","thing","can_take"] (Yi Wv):=⟨rfl,rfl,rfl,by decide +kernel,rfl,by decide +kernel,by decide +kernel⟩
abbrev Zo:Stmt:=top 19
theorem Zm:FnScope ["mark","body","thing","one","other"] ["mark","body","thing"] (Yi Zo):=⟨rfl,rfl,rfl,by decide +kernel,rfl,by decide +kernel,by decide +kernel⟩
abbrev ZA:Stmt:=top 23
theorem ZP:FnScope ["body","thing","inner"] ["body","thing"] (Yi ZA):=⟨rfl,rfl,rfl,by decide +kernel,rfl,by decide +kernel,by decide +kernel⟩
abbrev W5:Stmt:=top 25
theorem Ww:FnScope ["term","thing","mark","body"] ["term","thing"] (Yi W5):=⟨rfl,rfl,rfl,by decide +kernel,rfl,by decide +kernel,by decide +kernel⟩
abbrev W6:Stmt:=top 26
theorem QM:FnScope ["term","thing"] ["term","thing"] (Yi W6):=⟨rfl,rfl,rfl,by decide +kernel,rfl,by decide +kernel,by decide +kernel⟩
abbrev Zr:Stmt:=top 28
theorem Z09:FnScope ["_law_script","_law_k"] ["_law_script","_law_k"] (Yi Zr):=⟨rfl,rfl,rfl,by decide +kernel,rfl,by decide +kernel,by decide +kernel⟩
abbrev ZE:Stmt:=top 29
theorem Zj:FnScope ["_law_script","_law_rows_here","_law_row","_law_cell"] ["_law_script"] (Yi ZE):=⟨rfl,rfl,rfl,by decide +kernel,rfl,by decide +kernel,by decide +kernel⟩
abbrev ZQ:Stmt:=top 30
theorem ZF:FnScope ["_law_rows_here","_law_bound","_law_most","_law_row","_law_number"] ["_law_rows_here","_law_bound","_law_most"] (Yi ZQ):=⟨rfl,rfl,rfl,by decide +kernel,rfl,by decide +kernel,by decide +kernel⟩
abbrev ZG:Stmt:=top 31
theorem ZB:FnScope ["_law_term","_law_thing","_law_found","e"] ["_law_term","_law_thing"] (Yi ZG):=⟨rfl,rfl,rfl,by decide +kernel,rfl,by decide +kernel,by decide +kernel⟩
abbrev WQ:Stmt:=top 32
theorem YD:FnScope ["_law_script","_law_bound","_law_rows_here","_law_at","_law_thing","_law_kept","_law_here","_law_inner","_law_fewer","_law_due_here","_law_terms","_law_k","_law_found"] ["_law_script"] (Yi WQ):=⟨rfl,rfl,rfl,by decide +kernel,rfl,by decide +kernel,by decide +kernel⟩
abbrev Zh:Stmt:=Qw (top 4) 0
theorem ZR:FnScope ["self","mark"] ["self","mark"] (Yi Zh):=⟨rfl,rfl,rfl,by decide +kernel,rfl,by decide +kernel,by decide +kernel⟩
theorem ZS {g:Gx} {C B:Addr} (R:g.RawX "Astray" C "Astray.__init__" Zh ["self","mark"]) (b:BInit g "CountError" B) (xf:ExFl g.K C B) (xn_mark:PySem.W.findIn g.K (.ref C) "mark"=some none):g.MaX "Astray" C ["self","mark"] ["mark"]:=by
 refine R.maX ZR (fun vs H Q E h=>QL h) fun f_ cdv A outer s H vs Q E hr h=>?_
 refine ⟨_,Ye (XX (U0 b R.own (Ya (pv 0) (Ya Yn Yb)))) (Yf (QJ xf xn_mark (pv 0) (pv 1))),?_⟩
 exact spI_1 h
variable {g:Gx}
local macro_rules | `(tactic| walk_at "sd")=>`(tactic| simp (config:={ failIfUnchanged:=false,maxSteps:=10000000 }) only [l_num,l_here,l_count,l_sum,l_not,l_turned,l_plus,l_times,l_less,l_same,l_both,l_each,l_joined,l_part,l_when,ms_inj,in_cons,in_nil,Bool.or_false,Bool.false_or,Bool.or_self,Bool.true_or,Bool.or_true,reduceCtorEq,V.str.injEq,List.mem_cons,List.not_mem_nil,or_false,false_or,or_true,true_or,or_self,not_true_eq_false,not_false_eq_true,if_true,if_false,ite_true,ite_false,decide_true,decide_false,Bool.false_eq_true,and_true,true_and,and_false,false_and,false_implies,true_implies])
local macro_rules | `(tactic| walk_at "rd")=>`(tactic| simp (config:={ failIfUnchanged:=false,maxSteps:=10000000 }) only [L2.YZ,Q4,nox_K,List.map_cons,List.map_nil,List.length_cons,List.length_nil,List.cons_append,List.nil_append,List.replicate_succ,List.replicate_zero,Nat.zero_add,Nat.reduceAdd,Nat.reduceSub,Nat.sub_self,X4,tIfS,Qf,tOp,tC,Wo,rI0,rI,rU,tUn,tRet,tRetN,VG,Qb,QX,tCont,tAsg,YX,Wp,Xa,WN,tNil,tCB,WO,tTry,Uv,Q9,sFld,tFld,tMake,tMeth,Ends.gone,UR,tB,tAnd,tOr,tNot,U9,tOrV,Qa,tIf,Q0,Vu,Qi,tSl,V6,tAug,rIxL,rIxT,rSlL,tLst,tTup,Wq,tRev,tLZ,tConT,Q7,rBits,rFind,rIn,tBM,tBM0,Vx,UK,rEq,rNe,Qz,QA,rCat,rSetL,gSub,ipI,YK,List.getD_cons_zero,List.getD_cons_succ,decide_true,not_true_eq_false,not_false_eq_true,
 exists_eq_left',exists_eq_left,exists_eq',exists_eq,exists_and_left,and_assoc,Option.some.injEq,V.int.injEq,V.bl.injEq,V.ref.injEq,V.str.injEq,List.getElem?_cons_zero,List.getElem?_cons_succ,List.set_cons_zero,List.set_cons_succ,List.cons.injEq,and_true,true_and,List.append_nil,decide_eq_true_eq,Bool.not_eq_true',decide_eq_false_iff_not,Bool.not_not,Bool.not_true,Bool.not_false,Bool.true_eq_false,Bool.false_eq_true,if_true,if_false,ite_true,ite_false])
theorem cm {i j:Int} {m n:Nat} (h1:i.natAbs<2^m) (h2:j.natAbs<2^n) (h:m+n≤100000000:=by decide):WP i j:=⟨m,n,h1,h2,h⟩
theorem W7 {i j:Int} (h:0≤j∧j≤1000000∧i.natAbs<2^64:=by decide):CPow i j:=h
inductive Res where
 | ok (v:V)
 | no (mk:Str)
inductive Alls (R:V→Res→Prop):List V→Res→Prop
 | nil:Alls R [] (.ok (.bl true))
 | go {x:V} {xs:List V} {res:Res}:R x (.ok (.bl true))→Alls R xs res→Alls R (x::xs) res
 | stop {x:V} {xs:List V}:R x (.ok (.bl false))→Alls R (x::xs) (.ok (.bl false))
 | no {x:V} {xs:List V} {mk:Str}:R x (.no mk)→Alls R (x::xs) (.no mk)
def Sq (K:PySem.W.Frag) (H:Hp) (v:V) (xs:List V):Prop:=∃ a,v = .ref a∧(H a=some (.lst xs)∨H a=some (.tup xs))
def Fl (v:V):Prop:=v = .int 7∨v = .bl true∨v = .non
def Ev (K:PySem.W.Frag) (H:Hp):Nat→V→V→Res→Prop
 | 0,_,_,_=>False
 | n+1,v,th,res=>∃ a,v = .ref a ∧
   ((∃ i,H a=some (.tup [.str "num",.int i])∧res = .ok (.int i)) ∨
   (∃ r,H a=some (.tup [.str "here",r])∧res = .ok th) ∨
   (∃ u x,H a=some (.tup [.str "count",u])∧Ev K H n u th (.ok x)∧((∃ xs,Sq K H x xs∧res = .ok (.int xs.length))∨(Fl x∧res = .no "count"))) ∨
   (∃ p v1 v2,H a=some (.tup [.str "less",.ref p])∧H p=some (.tup [v1,v2])∧((∃ i j,Ev K H n v1 th (.ok (.int i))∧Ev K H n v2 th (.ok (.int j))∧res = .ok (.bl (decide (i<j))))∨∃ mk,Ev K H n v1 th (.no mk)∧res = .no mk)) ∨
   (∃ p v1 v2 x,H a=some (.tup [.str "each",.ref p])∧H p=some (.tup [v1,v2])∧Ev K H n v1 th (.ok x)∧((∃ xs,Sq K H x xs∧Alls (Ev K H n v2) xs res)∨(Fl x∧res = .no "each"))))
theorem Sq.keep {K:PySem.W.Frag} {H H':Hp} {v:V} {xs:List V} (s:Yd H H') (h:Sq K H v xs):Sq K H' v xs:=by
 obtain ⟨a,rfl,h⟩:=h
 exact ⟨a,rfl,h.imp (fun z=>s _ _ z) fun z=>s _ _ z⟩
theorem Alls.imp {R R':V→Res→Prop} (h:∀ x res,R x res→R' x res) {xs:List V} {res:Res} (a:Alls R xs res):Alls R' xs res:=by
 induction a with
 | nil=>exact .nil
 | go z _ ih=>exact .go (h _ _ z) ih
 | stop z=>exact .stop (h _ _ z)
 | no z=>exact .no (h _ _ z)
theorem Ev.keep {K:PySem.W.Frag} {H H':Hp} (s:Yd H H'):∀ {n:Nat} {v th:V} {res:Res},Ev K H n v th res→Ev K H' n v th res
 | 0,_,_,_,h=>h
 | n+1,v,th,res,h=>by
  obtain ⟨a,rfl,h⟩:=h
  refine ⟨a,rfl,?_⟩
  rcases h with ⟨i,h,rfl⟩ | ⟨r,h,rfl⟩ | ⟨u,x,h,e,hz⟩ | ⟨p,v1,v2,h,hp,hz⟩ | ⟨p,v1,v2,x,h,hp,e,hz⟩
  ·exact .inl ⟨i,s _ _ h,rfl⟩
  ·exact .inr (.inl ⟨r,s _ _ h,rfl⟩)
  ·refine .inr (.inr (.inl ⟨u,x,s _ _ h,e.keep s,hz.imp (fun z=>?_) fun z=>z⟩))
   obtain ⟨xs,z,e⟩:=z
   exact ⟨xs,z.keep s,e⟩
  ·refine .inr (.inr (.inr (.inl ⟨p,v1,v2,s _ _ h,s _ _ hp,hz.imp (fun z=>?_) fun z=>?_⟩)))
   ·obtain ⟨i,j,z1,z2,e⟩:=z
    exact ⟨i,j,z1.keep s,z2.keep s,e⟩
   ·obtain ⟨mk,z,e⟩:=z
    exact ⟨mk,z.keep s,e⟩
  ·refine .inr (.inr (.inr (.inr ⟨p,v1,v2,x,s _ _ h,s _ _ hp,e.keep s,hz.imp (fun z=>?_) fun z=>z⟩)))
   obtain ⟨xs,z,e⟩:=z
   exact ⟨xs,z.keep s,e.imp fun _ _ y=>y.keep s⟩
def Out (C:Addr) (H:Hp) (Q:VK) (E:XK):Res→Prop
 | .ok r=>∀ H',Yd H H'→Q r H'
 | .no mk=>∀ H' d,Yd H H'→H' d=none→E (.ref C) (some d) (upd H' d (Y3 d [("mark",.str mk)]))
theorem Out.keep {C:Addr} {H H':Hp} {Q:VK} {E:XK} (s:Yd H H') {res:Res} (h:Out C H Q E res):Out C H' Q E res:=by
 cases res with
 | ok r=>exact fun H2 s2=>h H2 (s.trans s2)
 | no mk=>exact fun H2 d s2 hd=>h H2 d (s.trans s2) hd
def WF:Sp:=fun vs H Q _=>∃ b:Bool,vs=[.bl b]∧Q (.bl b) H
theorem UB {Z0 Z1:Addr} (R:g.Raw "copied" "copied" X9 ["thing"]) (b_dict:g.mg "dict"=none) (Z2:g.mg "isinstance"=none) (b_list:g.mg "list"=none) (Z3:g.mg "tuple"=none):g.Fn (1) "copied" ["thing"] (WF):=by
 refine R.fn UA (fun vs H Q E h=>by obtain ⟨b,rfl,q⟩:=h;rfl) fun f_ cdv A outer s H vs Q E hr h=>?_
 obtain ⟨b,rfl,q⟩:=h
 refine ⟨_,(@Ye _ _ _ _ _ (@Yt _ _ _ _ _ _ _ _ (@Xf _ _ _ (@YG _ _ _ _ _ _ _ _ _ _ Z2 YJ (@Ya _ _ _ _ _ (pv 0) (@Ya _ _ _ _ _ (@YR _ _ _ _ ("list") b_list (by decide +kernel) (by rfl) (by rfl) (by decide) (by decide)) Yb (by rfl)) (by rfl)) (by decide +kernel) (by rfl) (by rfl) (by decide) (by decide) (by rfl) (by rfl)) (by intro _;rfl)) (@Yf _ _ _ YB) Yk) (@Ye _ _ _ _ _ (@Yt _ _ _ _ _ _ _ _ (@Xf _ _ _ (@YG _ _ _ _ _ _ _ _ _ _ Z2 YJ (@Ya _ _ _ _ _ (pv 0) (@Ya _ _ _ _ _ (@YR _ _ _ _ ("tuple") Z3 (by decide +kernel) (by rfl) (by rfl) (by decide) (by decide)) Yb (by rfl)) (by rfl)) (by decide +kernel) (by rfl) (by rfl) (by decide) (by decide) (by rfl) (by rfl)) (by intro _;rfl)) (@Yf _ _ _ YB) Yk) (@Ye _ _ _ _ _ (@Yt _ _ _ _ _ _ _ _ (@Xf _ _ _ (@YG _ _ _ _ _ _ _ _ _ _ Z2 YJ (@Ya _ _ _ _ _ (pv 0) (@Ya _ _ _ _ _ (@YR _ _ _ _ ("dict") b_dict (by decide +kernel) (by rfl) (by rfl) (by decide) (by decide)) Yb (by rfl)) (by rfl)) (by decide +kernel) (by rfl) (by rfl) (by decide) (by decide) (by rfl) (by rfl)) (by intro _;rfl)) (@Yf _ _ _ YB) Yk) (@Yf _ _ _ (@Yu _ _ _ _ (pv 0)))))),?_⟩
 walk_at "rd"
 exact ⟨_,rfl,_,.bl b,false,rfl,iteF ⟨_,rfl,_,.bl b,false,rfl,iteF ⟨_,rfl,_,.bl b,false,rfl,iteF q⟩⟩⟩
def Zp:Sp:=fun vs H Q _=>∃ (i:Int),vs=[.int i]∧Q (.bl true) H
theorem ZT {Z0 Z1:Addr} (R:g.Raw "is_whole_number" "is_whole_number" Zg ["thing"]) (b_bool:g.mg "bool"=none) (b_int:g.mg "int"=none) (Z2:g.mg "isinstance"=none):g.Fn (1) "is_whole_number" ["thing"] (Zp):=by
 refine R.fn ZO (fun vs H Q E h=>by obtain ⟨i,rfl,q⟩:=h;rfl) fun f_ cdv A outer s H vs Q E hr h=>?_
 obtain ⟨i,rfl,q⟩:=h
 refine ⟨_,(@Yf _ _ _ (@Yu _ _ _ _ (@QV _ _ _ _ _ _ _ (@YG _ _ _ _ _ _ _ _ _ _ Z2 YJ (@Ya _ _ _ _ _ (pv 0) (@Ya _ _ _ _ _ (@YR _ _ _ _ ("int") b_int (by decide +kernel) (by rfl) (by rfl) (by decide) (by decide)) Yb (by rfl)) (by rfl)) (by decide +kernel) (by rfl) (by rfl) (by decide) (by decide) (by rfl) (by rfl)) (@QU _ _ _ _ _ (@QW _ _ _ _ (@YG _ _ _ _ _ _ _ _ _ _ Z2 YJ (@Ya _ _ _ _ _ (pv 0) (@Ya _ _ _ _ _ (@YR _ _ _ _ ("bool") b_bool (by decide +kernel) (by rfl) (by rfl) (by decide) (by decide)) Yb (by rfl)) (by rfl)) (by decide +kernel) (by rfl) (by rfl) (by decide) (by decide) (by rfl) (by rfl))))))),?_⟩
 walk_at "rd"
 exact ⟨_,rfl,_,.int i,true,rfl,iteT ⟨_,rfl,_,.int i,false,rfl,q⟩⟩
def Z01:Sp:=fun vs H Q _=>∃ (b:Bool),vs=[.bl b]∧Q (.bl true) H
theorem Vi {Z0 Z1:Addr} (R:g.Raw "is_truth" "is_truth" ZD ["thing"]) (b_bool:g.mg "bool"=none) (Z2:g.mg "isinstance"=none):g.Fn (1) "is_truth" ["thing"] (Z01):=by
 refine R.fn Vh (fun vs H Q E h=>by obtain ⟨b,rfl,q⟩:=h;rfl) fun f_ cdv A outer s H vs Q E hr h=>?_
 obtain ⟨b,rfl,q⟩:=h
 refine ⟨_,(@Yf _ _ _ (@Yu _ _ _ _ (@YG _ _ _ _ _ _ _ _ _ _ Z2 YJ (@Ya _ _ _ _ _ (pv 0) (@Ya _ _ _ _ _ (@YR _ _ _ _ ("bool") b_bool (by decide +kernel) (by rfl) (by rfl) (by decide) (by decide)) Yb (by rfl)) (by rfl)) (by decide +kernel) (by rfl) (by rfl) (by decide) (by decide) (by rfl) (by rfl)))),?_⟩
 walk_at "rd"
 exact ⟨_,rfl,_,.bl b,true,rfl,q⟩
def Wm (K:PySem.W.Frag):Sp:=fun vs H Q _=>∃ v,vs=[v]∧((∃ xs,Sq K H v xs∧∀ H',Yd H H'→Q (.bl true) H')∨(Fl v∧∀ H',Yd H H'→Q (.bl false) H'))
theorem ZN {Z0 Z1:Addr} (R:g.Raw "is_list_or_tuple" "is_list_or_tuple" Ze ["thing"]) (Z2:g.mg "isinstance"=none) (b_list:g.mg "list"=none) (Z3:g.mg "tuple"=none):g.Fn (1) "is_list_or_tuple" ["thing"] (Wm g.K):=by
 refine R.fn ZM (fun vs H Q E h=>by obtain ⟨v,rfl,q⟩:=h;rfl) fun f_ cdv A outer s H vs Q E hr h=>?_
 obtain ⟨v,rfl,q⟩:=h
 refine ⟨_,(@Yf _ _ _ (@Yu _ _ _ _ (@YG _ _ _ _ _ _ _ _ _ _ Z2 Xk (@Ya _ _ _ _ _ (pv 0) (@Ya _ _ _ _ _ (@Yx _ _ _ _ _ (@Ya _ _ _ _ _ (@YR _ _ _ _ ("list") b_list (by decide +kernel) (by rfl) (by rfl) (by decide) (by decide)) (@Ya _ _ _ _ _ (@YR _ _ _ _ ("tuple") Z3 (by decide +kernel) (by rfl) (by rfl) (by decide) (by decide)) Yb (by rfl)) (by rfl))) Yb (Yy _ _ _ _ _)) (by rfl)) (by decide +kernel) (by rfl) (by rfl) (by decide) (by decide) (by rfl) (by rfl)))),?_⟩
 walk_at "rd"
 refine ⟨by decide,fun p hp=>⟨["list","tuple"],Yc,?_⟩⟩
 have s:=Yd.upd_new hp (HO.tup [V.ty "list",V.ty "tuple"])
 rcases q with ⟨xs,⟨a,rfl,z | z⟩,q⟩ | ⟨rfl | rfl | rfl,q⟩
 ·exact ⟨_,.lst (s _ _ z),true,rfl,q _ s⟩
 ·exact ⟨_,.tup (s _ _ z),true,rfl,q _ s⟩
 ·exact ⟨_,.int 7,false,rfl,q _ s⟩
 ·exact ⟨_,.bl true,false,rfl,q _ s⟩
 ·exact ⟨_,.non,false,rfl,q _ s⟩
theorem Zx {Z0 Z1:Addr} (R:g.Raw "is_list_tuple_or_text" "is_list_tuple_or_text" Z6 ["thing"]) (Z2:g.mg "isinstance"=none) (b_list:g.mg "list"=none) (b_str:g.mg "str"=none) (Z3:g.mg "tuple"=none):g.Fn (1) "is_list_tuple_or_text" ["thing"] (Wm g.K):=by
 refine R.fn Zw (fun vs H Q E h=>by obtain ⟨v,rfl,q⟩:=h;rfl) fun f_ cdv A outer s H vs Q E hr h=>?_
 obtain ⟨v,rfl,q⟩:=h
 refine ⟨_,(@Yf _ _ _ (@Yu _ _ _ _ (@YG _ _ _ _ _ _ _ _ _ _ Z2 Xk (@Ya _ _ _ _ _ (pv 0) (@Ya _ _ _ _ _ (@Yx _ _ _ _ _ (@Ya _ _ _ _ _ (@YR _ _ _ _ ("list") b_list (by decide +kernel) (by rfl) (by rfl) (by decide) (by decide)) (@Ya _ _ _ _ _ (@YR _ _ _ _ ("tuple") Z3 (by decide +kernel) (by rfl) (by rfl) (by decide) (by decide)) (@Ya _ _ _ _ _ (@YR _ _ _ _ ("str") b_str (by decide +kernel) (by rfl) (by rfl) (by decide) (by decide)) Yb (by rfl)) (by rfl)) (by rfl))) Yb (Yy _ _ _ _ _)) (by rfl)) (by decide +kernel) (by rfl) (by rfl) (by decide) (by decide) (by rfl) (by rfl)))),?_⟩
 walk_at "rd"
 refine ⟨by decide,fun p hp=>⟨["list","tuple","str"],Yc,?_⟩⟩
 have s:=Yd.upd_new hp (HO.tup [V.ty "list",V.ty "tuple",V.ty "str"])
 rcases q with ⟨xs,⟨a,rfl,z | z⟩,q⟩ | ⟨rfl | rfl | rfl,q⟩
 ·exact ⟨_,.lst (s _ _ z),true,rfl,q _ s⟩
 ·exact ⟨_,.tup (s _ _ z),true,rfl,q _ s⟩
 ·exact ⟨_,.int 7,false,rfl,q _ s⟩
 ·exact ⟨_,.bl true,false,rfl,q _ s⟩
 ·exact ⟨_,.non,false,rfl,q _ s⟩
 variable {m:Nat}
def X0 (K:PySem.W.Frag) (C:Addr) (m:Nat):Sp:=fun vs H Q E=>∃ v th res,vs=[v,th]∧Ev K H m v th res∧Out C H Q E res
theorem QN {K:PySem.W.Frag} {C:Addr} {vs:List V} {H:Hp} {Q:VK} {E:XK} (h:X0 K C 0 vs H Q E):False:=by
 obtain ⟨_,_,_,_,h,_⟩:=h
 exact h
def Takes (g:Gx) (H:Hp) (f:Addr) (r:V) (b:Bool):Prop:=∃ ps sp,g.FnV 2 f ps sp∧∀ (H1:Hp) (Q':VK),Yd H H1→(∀ H',Yd H1 H'→Q' (.bl b) H')→sp [r] H1 Q' E0
def ZH (g:Gx) (C:Addr) (m:Nat):Sp:=fun vs H Q E=>∃ (mk:Str) (v th:V) (f:Addr) (res:Res),vs=[.str mk,v,th,.ref f]∧Ev g.K H m v th res ∧
 ((∃ mk',res = .no mk'∧Out C H Q E (.no mk'))∨∃ r b,res = .ok r∧Takes g H f r b∧Out C H Q E (if b then .ok r else .no mk))
theorem ZI {k:Nat} {Z0 Z1:Addr} (R:g.Raw "taken" "taken" Wv ["mark","term","thing","can_take"]) (F_told:g.FnX k "told" ["term","thing"] (X0 g.K Z1 m)) (hkv:2≤k) (Z00:g.MaX "Astray" Z1 ["self","mark"] ["mark"]) (hki:2≤k):g.FnX (k+1) "taken" ["mark","term","thing","can_take"] (ZH g Z1 m):=by
 refine R.fnX W4 (fun vs H Q E h=>by obtain ⟨mk,v,th,f,res,rfl,hE,hq⟩:=h;rfl) fun f_ cdv A outer s H vs Q E hr h=>?_
 obtain ⟨mk,v,th,f,res,rfl,hE,hq⟩:=h
 refine ⟨_,(@Ye _ _ _ _ _ (@Yw _ _ (4) _ _ _ _ W4.nd rfl (.inl rfl) (@YW _ _ _ _ _ _ _ _ _ _ _ _ _ F_told hr Xb (@Ya _ _ _ _ _ (pv 1) (@Ya _ _ _ _ _ (pv 2) Yb (by rfl)) (by rfl)) (by omega) (by rfl) (by rfl) (by decide) (by rfl) (by rfl)) (by rfl) (by first | exact .inl rfl | exact .inr rfl | assumption)) (@Ye _ _ _ _ _ (@Yt _ _ _ _ _ _ _ _ (@Wb _ _ _ _ (@Xf _ _ _ (@US _ (g) _ (2) _ _ _ _ _ _ 3 hr (@Ya _ _ _ _ _ (pv 4) Yb (by rfl)) (by omega) (by rfl) (by rfl) (by first | exact .inl rfl | exact .inr (.inl rfl) | exact .inr (.inr rfl)) (by decide) (by decide) (by rfl) (by rfl)) (by intro _;rfl))) (@Yf _ _ _ (@Uy _ _ _ _ _ _ _ _ _ _ _ _ _ _ Z00 hr Yad (@Ya _ _ _ _ _ (pv 0) Yb (by rfl)) (by omega) (by rfl) (by rfl) (by rfl) (by decide) (by rfl) (by rfl))) Yk) (@Yf _ _ _ (PS.nox (@Yu _ _ _ _ (pv 4)))))),?_⟩
 walk_at "rd"
 rcases hq with ⟨mk',rfl,q⟩ | ⟨r,b,rfl,⟨ps,sp,hF,hs⟩,q⟩
 ·exact ⟨v,th,_,rfl,hE,q⟩
 ·refine ⟨v,th,_,rfl,hE,fun H1 s1=>⟨f,ps,sp,rfl,hF,?_⟩⟩
  walk_at "rd"
  refine hs H1 _ s1 fun H2 s2=>⟨b,rfl,?_⟩
  cases b with
  | true=>exact YT (by decide) (q H2 (s1.trans s2))
  | false=>exact XR rfl ⟨_,rfl,rfl,by show (1:Nat)≤1000;omega,fun d hd=>q H2 d (s1.trans s2) hd⟩
def Zz (K:PySem.W.Frag) (C:Addr) (m:Nat):Sp:=fun vs H Q E=>∃ (p:Addr) (v1 v2 th:V) (res:Res),vs=[.str "less",.ref p,th]∧H p=some (.tup [v1,v2])∧((∃ i j,Ev K H m v1 th (.ok (.int i))∧Ev K H m v2 th (.ok (.int j))∧res = .ok (.bl (decide (i<j))))∨∃ mk,Ev K H m v1 th (.no mk)∧res = .no mk)∧Out C H Q E res
theorem Zd {k:Nat} {Z0 Z1:Addr} (R:g.Raw "numbers_told" "numbers_told" Zo ["mark","body","thing"]) (Zt:g.Fn 2 "is_whole_number" ["thing"] (Zp)) (Zl:g.FnX k "taken" ["mark","term","thing","can_take"] (ZH g Z1 m)) (hkv:2≤k):g.FnX (k+1) "numbers_told" ["mark","body","thing"] (Zz g.K Z1 m):=by
 refine R.fnX Zm (fun vs H Q E h=>by obtain ⟨p,v1,v2,th,res,rfl,hp,hz,q⟩:=h;rfl) fun f_ cdv A outer s H vs Q E hr h=>?_
 obtain ⟨p,v1,v2,th,res,rfl,hp,hz,q⟩:=h
 refine ⟨_,(@Ye _ _ _ _ _ (@Yw _ _ (3) _ _ _ _ Zm.nd rfl (.inl rfl) (@YW _ _ _ _ _ _ _ _ _ _ _ _ _ Zl hr Xb (@Ya _ _ _ _ _ (pv 0) (@Ya _ _ _ _ _ (@YH _ _ _ _ _ _ _ YV (pv 1) Yh (fun _ _=>rfl)) (@Ya _ _ _ _ _ (pv 2) (@Ya _ _ _ _ _ (@Y7 _ _ _ _ _ _ _ Zt (by rfl) (by rfl) (by decide)) Yb (by rfl)) (by rfl)) (by rfl)) (by rfl)) (by omega) (by rfl) (by rfl) (by decide) (by rfl) (by rfl)) (by rfl) (by first | exact .inl rfl | exact .inr rfl | assumption)) (@Ye _ _ _ _ _ (@Yw _ _ (4) _ _ _ _ Zm.nd rfl (.inl rfl) (@YW _ _ _ _ _ _ _ _ _ _ _ _ _ Zl hr Xb (@Ya _ _ _ _ _ (pv 0) (@Ya _ _ _ _ _ (@YH _ _ _ _ _ _ _ YV (pv 1) Yh (fun _ _=>rfl)) (@Ya _ _ _ _ _ (pv 2) (@Ya _ _ _ _ _ (@Y7 _ _ _ _ _ _ _ Zt (by rfl) (by rfl) (by decide)) Yb (by rfl)) (by rfl)) (by rfl)) (by rfl)) (by omega) (by rfl) (by rfl) (by decide) (by rfl) (by rfl)) (by rfl) (by first | exact .inl rfl | exact .inr rfl | assumption)) (@Ye _ _ _ _ _ (PS.nox (@Yt _ _ _ _ _ _ _ _ (@Yo _ _ _ _ _ _ _ _ YE (pv 0) Yn (Yq _)) (@Yf _ _ _ YB) Yk)) (@Ye _ _ _ _ _ (PS.nox (@Yt _ _ _ _ _ _ _ _ (@Yo _ _ _ _ _ _ _ _ YE (pv 0) Yn (Yq _)) (@Yf _ _ _ YB) Yk)) (@Yf _ _ _ (PS.nox (@Yu _ _ _ _ (@Vr _ _ _ _ _ _ _ _ WM (pv 3) (pv 4) (Yq _))))))))),?_⟩
 walk_at "rd"
 rcases hz with ⟨i,j,e1,e2,rfl⟩ | ⟨mk,e1,rfl⟩
 ·refine ⟨_,SqT.of hp,_,rfl,fun f1 hf1=>⟨_,v1,th,f1,_,rfl,e1,.inr ⟨_,true,rfl,⟨_,_,hf1,fun H1 Q' s1 h=>⟨i,rfl,h _ (.refl _)⟩⟩,fun H2 s2=>?_⟩⟩⟩
  refine ⟨_,SqT.of (s2 _ _ hp),_,rfl,fun f2 hf2=>⟨_,v2,th,f2,_,rfl,e2.keep s2,.inr ⟨_,true,rfl,⟨_,_,hf2,fun H1 Q' s1 h=>⟨j,rfl,h _ (.refl _)⟩⟩,fun H3 s3=>?_⟩⟩⟩
  exact YT (by decide) (YT (by decide) ⟨_,rfl,_,rfl,q _ (s2.trans s3)⟩)
 ·exact ⟨_,SqT.of hp,_,rfl,fun f1 hf1=>⟨_,v1,th,f1,_,rfl,e1,.inl ⟨mk,rfl,q⟩⟩⟩
theorem UC {K:PySem.W.Frag} {tl:TE} {g:TG} {tb:TS} {D:Ends} {σ:St} {H:Hp} {xs:List V} (Pv:Addr→Nat→St→Hp→Prop) (ha:∀ R:V→Hp→Prop,(∀ c H1,Pv c 0 σ H1→R (.ref c) H1)→tl σ H R) (hl:∀ c i σ H,i≤xs.length→Pv c i σ H→SqT K H c xs)
  (hs:∀ c (i:Nat) x σ H,xs[i]?=some x→Pv c i σ H→g x σ H fun σ2 H2=>tb { D with nx:=Pv c (i+1),ct:=Pv c (i+1),bk:=D.nx } σ2 H2) (hd:∀ c σ H,Pv c xs.length σ H→D.nx σ H):Xg (iTup K tl) g tb D σ H:=by
 refine ha _ fun c H1 h0=>⟨c,rfl,⟨xs,hl c 0 σ H1 (Nat.zero_le _) h0⟩,?_⟩
 exact Vn (Pv c) h0 (hl c) (hs c) (hd c)
def ZU (K:PySem.W.Frag) (C:Addr) (m:Nat):Sp:=fun vs H Q E=>∃ (p:Addr) (v1 v2 th x:V) (res:Res),vs=[.ref p,th]∧H p=some (.tup [v1,v2])∧Ev K H m v1 th (.ok x)∧((∃ xs,Sq K H x xs∧Alls (Ev K H m v2) xs res)∨(Fl x∧res = .no "each"))∧Out C H Q E res
theorem Zn {k:Nat} {Z0 Z1:Addr} (R:g.Raw "each_told" "each_told" ZA ["body","thing"]) (F_is_truth:g.Fn 2 "is_truth" ["thing"] (Z01)) (Zq:g.Fn 2 "is_list_or_tuple" ["thing"] (Wm g.K)) (Zl:g.FnX k "taken" ["mark","term","thing","can_take"] (ZH g Z1 m)) (hkv:2≤k):g.FnX (k+1) "each_told" ["body","thing"] (ZU g.K Z1 m):=by
 refine R.fnX ZP (fun vs H Q E h=>by obtain ⟨p,v1,v2,th,x,res,rfl,hp,e1,hz,q⟩:=h;rfl) fun f_ cdv A outer s H vs Q E hr h=>?_
 obtain ⟨p,v1,v2,th,x,res,rfl,hp,e1,hz,q⟩:=h
 refine ⟨_,(@Ye _ _ _ _ _ (@XN _ _ _ _ _ _ _ _ PassesOwn.leaving rfl (@Qn _ _ _ _ _ (@XY _ _ _ _ (@YW _ _ _ _ _ _ _ _ _ _ _ _ _ Zl hr Xb (@Ya _ _ _ _ _ Yn (@Ya _ _ _ _ _ (@YH _ _ _ _ _ _ _ YV (pv 0) Yh (fun _ _=>rfl)) (@Ya _ _ _ _ _ (pv 1) (@Ya _ _ _ _ _ (@Y7 _ _ _ _ _ _ _ Zq (by rfl) (by rfl) (by decide)) Yb (by rfl)) (by rfl)) (by rfl)) (by rfl)) (by omega) (by rfl) (by rfl) (by decide) (by rfl) (by rfl))) (@V8 _ _ _ _ (@YW _ _ _ _ _ _ _ _ _ _ _ _ _ Zl hr Xb (@Ya _ _ _ _ _ Yn (@Ya _ _ _ _ _ (@YH _ _ _ _ _ _ _ YV (pv 0) Yh (fun _ _=>rfl)) (@Ya _ _ _ _ _ (pv 1) (@Ya _ _ _ _ _ (@Y7 _ _ _ _ _ _ _ Zq (by rfl) (by rfl) (by decide)) Yb (by rfl)) (by rfl)) (by rfl)) (by rfl)) (by omega) (by rfl) (by rfl) (by decide) (by rfl) (by rfl)))) (@Y4 _ _ (2) _ ZP.nd rfl (.inl rfl) (by first | exact .inl rfl | exact .inr rfl | assumption)) (@Yf _ _ _ (@Yt _ _ _ _ _ _ _ _ (@Wb _ _ _ _ (@Xf _ _ _ (@YW _ _ _ _ _ _ _ _ _ _ _ _ _ Zl hr Xb (@Ya _ _ _ _ _ Yn (@Ya _ _ _ _ _ (@YH _ _ _ _ _ _ _ YV (pv 0) Yh (fun _ _=>rfl)) (@Ya _ _ _ _ _ (pv 2) (@Ya _ _ _ _ _ (@Y7 _ _ _ _ _ _ _ F_is_truth (by rfl) (by rfl) (by decide)) Yb (by rfl)) (by rfl)) (by rfl)) (by rfl)) (by omega) (by rfl) (by rfl) (by decide) (by rfl) (by rfl)) (by intro _;rfl))) (@Yf _ _ _ (PS.nox (@Yu _ _ _ _ Xn))) Yk)) (by intro _;rfl)) (@Yf _ _ _ (PS.nox (@Yu _ _ _ _ Xn)))),?_⟩
 walk_at "rd"
 rcases hz with ⟨xs,⟨a,rfl,hs⟩,hA⟩ | ⟨hf,rfl⟩
 ·rcases hs with hs | hs
  ·refine X8 (Wf (xs:=xs) (fun c i σ H'=>c=a∧Yd H H'∧(∃ w,σ=[some (.ref p),some th,w])∧Alls (Ev g.K H m v2) (xs.drop i) res) (fun R hR=>?_) (fun c i σ H' _ z=>by obtain ⟨rfl,s,_⟩:=z;exact SqL.of (s _ _ hs)) (fun c i x σ H' hx z=>?_) fun c σ H' z=>?_)
   ·walk_at "rd"
    refine ⟨_,SqT.of hp,_,rfl,fun f1 hf1=>⟨_,v1,th,f1,_,rfl,e1,.inr ⟨_,true,rfl,⟨_,_,hf1,fun H1 Q' s1 h=>⟨_,rfl,.inl ⟨xs,⟨a,rfl,.inl (s1 _ _ hs)⟩,h⟩⟩⟩,fun H2 s2=>hR a H2 ⟨rfl,s2,⟨none,rfl⟩,hA⟩⟩⟩⟩
   ·obtain ⟨rfl,s,⟨w,rfl⟩,hA⟩:=z
    obtain ⟨hi,ei⟩:=List.getElem?_eq_some_iff.mp hx
    have ed:xs.drop i=x::xs.drop (i+1):=by rw [← ei];exact List.drop_eq_getElem_cons hi
    rw [ed] at hA
    walk_at "rd"
    refine ⟨_,SqT.of (s _ _ hp),_,rfl,fun f2 hf2=>?_⟩
    cases hA with
    | go h1 h2=>exact ⟨_,v2,x,f2,_,rfl,h1.keep s,.inr ⟨_,true,rfl,⟨_,_,hf2,fun H1 Q' s1 h=>⟨true,rfl,h _ (.refl _)⟩⟩,fun H2 s2=>⟨true,rfl,YT (by decide) ⟨s.trans s2,h2⟩⟩⟩⟩
    | stop h1=>exact ⟨_,v2,x,f2,_,rfl,h1.keep s,.inr ⟨_,true,rfl,⟨_,_,hf2,fun H1 Q' s1 h=>⟨false,rfl,h _ (.refl _)⟩⟩,fun H2 s2=>⟨false,rfl,XR rfl (q _ (s.trans s2))⟩⟩⟩
    | no h1=>exact ⟨_,v2,x,f2,_,rfl,h1.keep s,.inl ⟨_,rfl,q.keep s⟩⟩
   ·obtain ⟨rfl,s,⟨w,rfl⟩,hA⟩:=z
    rw [List.drop_length] at hA
    cases hA
    exact q _ s
  ·refine W1 (UC (xs:=xs) (fun c i σ H'=>c=a∧Yd H H'∧(∃ w,σ=[some (.ref p),some th,w])∧Alls (Ev g.K H m v2) (xs.drop i) res) (fun R hR=>?_) (fun c i σ H' _ z=>by obtain ⟨rfl,s,_⟩:=z;exact SqT.of (s _ _ hs)) (fun c i x σ H' hx z=>?_) fun c σ H' z=>?_)
   ·walk_at "rd"
    refine ⟨_,SqT.of hp,_,rfl,fun f1 hf1=>⟨_,v1,th,f1,_,rfl,e1,.inr ⟨_,true,rfl,⟨_,_,hf1,fun H1 Q' s1 h=>⟨_,rfl,.inl ⟨xs,⟨a,rfl,.inr (s1 _ _ hs)⟩,h⟩⟩⟩,fun H2 s2=>hR a H2 ⟨rfl,s2,⟨none,rfl⟩,hA⟩⟩⟩⟩
   ·obtain ⟨rfl,s,⟨w,rfl⟩,hA⟩:=z
    obtain ⟨hi,ei⟩:=List.getElem?_eq_some_iff.mp hx
    have ed:xs.drop i=x::xs.drop (i+1):=by rw [← ei];exact List.drop_eq_getElem_cons hi
    rw [ed] at hA
    walk_at "rd"
    refine ⟨_,SqT.of (s _ _ hp),_,rfl,fun f2 hf2=>?_⟩
    cases hA with
    | go h1 h2=>exact ⟨_,v2,x,f2,_,rfl,h1.keep s,.inr ⟨_,true,rfl,⟨_,_,hf2,fun H1 Q' s1 h=>⟨true,rfl,h _ (.refl _)⟩⟩,fun H2 s2=>⟨true,rfl,YT (by decide) ⟨s.trans s2,h2⟩⟩⟩⟩
    | stop h1=>exact ⟨_,v2,x,f2,_,rfl,h1.keep s,.inr ⟨_,true,rfl,⟨_,_,hf2,fun H1 Q' s1 h=>⟨false,rfl,h _ (.refl _)⟩⟩,fun H2 s2=>⟨false,rfl,XR rfl (q _ (s.trans s2))⟩⟩⟩
    | no h1=>exact ⟨_,v2,x,f2,_,rfl,h1.keep s,.inl ⟨_,rfl,q.keep s⟩⟩
   ·obtain ⟨rfl,s,⟨w,rfl⟩,hA⟩:=z
    rw [List.drop_length] at hA
    cases hA
    exact q _ s
 ·refine X8 ?_
  unfold Xg WL
  walk_at "rd"
  refine ⟨_,SqT.of hp,_,rfl,fun f1 hf1=>⟨_,v1,th,f1,_,rfl,e1,.inr ⟨_,false,rfl,⟨_,_,hf1,fun H1 Q' s1 h=>⟨_,rfl,.inr ⟨hf,h⟩⟩⟩,q⟩⟩⟩
theorem X1 {k:Nat} {Z0 Z1:Addr} (R:g.Raw "told" "told" W5 ["term","thing"]) (Zy:g.Fn 2 "is_list_tuple_or_text" ["thing"] (Wm g.K)) (Zl:g.FnX k "taken" ["mark","term","thing","can_take"] (ZH g Z1 m)) (Z0a:g.FnX k "numbers_told" ["mark","body","thing"] (Zz g.K Z1 m)) (F_each_told:g.FnX k "each_told" ["body","thing"] (ZU g.K Z1 m)) (hkv:2≤k) (b_len:g.mg "len"=none):g.FnX (k+1) "told" ["term","thing"] (X0 g.K Z1 (m+1)):=by
 refine R.fnX Ww (fun vs H Q E h=>by obtain ⟨v,th,res,rfl,hE,q⟩:=h;rfl) fun f_ cdv A outer s H vs Q E hr h=>?_
 obtain ⟨v,th,res,rfl,hE,q⟩:=h
 refine ⟨_,(@Ye _ _ _ _ _ (PS.nox (@Yw _ _ (2) _ _ _ _ Ww.nd rfl (.inl rfl) (@YH _ _ _ _ _ _ _ YV (pv 0) Yh (fun _ _=>rfl)) (by rfl) (by first | exact .inl rfl | exact .inr rfl | assumption))) (@Ye _ _ _ _ _ (PS.nox (@Yw _ _ (3) _ _ _ _ Ww.nd rfl (.inl rfl) (@YH _ _ _ _ _ _ _ YV (pv 0) Yh (fun _ _=>rfl)) (by rfl) (by first | exact .inl rfl | exact .inr rfl | assumption))) (@Ye _ _ _ _ _ (PS.nox (@Yt _ _ _ _ _ _ _ _ (@Yo _ _ _ _ _ _ _ _ YE (pv 2) Yn (Yq _)) (@Yf _ _ _ (@Yu _ _ _ _ (pv 3))) Yk)) (@Ye _ _ _ _ _ (PS.nox (@Yt _ _ _ _ _ _ _ _ (@Yo _ _ _ _ _ _ _ _ YE (pv 2) Yn (Yq _)) (@Yf _ _ _ (@Yu _ _ _ _ (pv 1))) Yk)) (@Ye _ _ _ _ _ (PS.nox (@Yt _ _ _ _ _ _ _ _ (@Yo _ _ _ _ _ _ _ _ YE (pv 2) Yn (Yq _)) (@Yf _ _ _ YB) Yk)) (@Ye _ _ _ _ _ (@Yt _ _ _ _ _ _ _ _ (@Yo _ _ _ _ _ _ _ _ YE (pv 2) Yn (Yq _)) (@Yf _ _ _ (@Yu _ _ _ _ (@YG _ _ _ _ _ _ _ _ _ _ b_len YL (@Ya _ _ _ _ _ (@YW _ _ _ _ _ _ _ _ _ _ _ _ _ Zl hr Xb (@Ya _ _ _ _ _ (pv 2) (@Ya _ _ _ _ _ (pv 3) (@Ya _ _ _ _ _ (pv 1) (@Ya _ _ _ _ _ (@Y7 _ _ _ _ _ _ _ Zy (by rfl) (by rfl) (by decide)) Yb (by rfl)) (by rfl)) (by rfl)) (by rfl)) (by omega) (by rfl) (by rfl) (by decide) (by rfl) (by rfl)) Yb (by rfl)) (by decide +kernel) (by rfl) (by rfl) (by decide) (by decide) (by rfl) (by rfl)))) Yk) (@Ye _ _ _ _ _ (@Yt _ _ _ _ _ _ _ _ (@Yo _ _ _ _ _ _ _ _ YE (pv 2) Yn (Yq _)) (@Yf _ _ _ YB) Yk) (@Ye _ _ _ _ _ (@Yt _ _ _ _ _ _ _ _ (@Yo _ _ _ _ _ _ _ _ YE (pv 2) Yn (Yq _)) (@Yf _ _ _ YB) Yk) (@Ye _ _ _ _ _ (@Yt _ _ _ _ _ _ _ _ (@Yo _ _ _ _ _ _ _ _ YE (pv 2) Yn (Yq _)) (@Yf _ _ _ YB) Yk) (@Ye _ _ _ _ _ (PS.nox (@Yt _ _ _ _ _ _ _ _ (@Yo _ _ _ _ _ _ _ _ YE (pv 2) Yn (Yq _)) (@Yf _ _ _ YB) Yk)) (@Ye _ _ _ _ _ (PS.nox (@Yt _ _ _ _ _ _ _ _ (@Yo _ _ _ _ _ _ _ _ YE (pv 2) Yn (Yq _)) (@Yf _ _ _ YB) Yk)) (@Ye _ _ _ _ _ (PS.nox (@Yt _ _ _ _ _ _ _ _ (@Yo _ _ _ _ _ _ _ _ YE (pv 2) Yn (Yq _)) (@Yf _ _ _ YB) Yk)) (@Ye _ _ _ _ _ (@Yt _ _ _ _ _ _ _ _ (@Yo _ _ _ _ _ _ _ _ YE (pv 2) Yn (Yq _)) (@Yf _ _ _ (@Yu _ _ _ _ (@YW _ _ _ _ _ _ _ _ _ _ _ _ _ F_each_told hr Xb (@Ya _ _ _ _ _ (pv 3) (@Ya _ _ _ _ _ (pv 1) Yb (by rfl)) (by rfl)) (by omega) (by rfl) (by rfl) (by decide) (by rfl) (by rfl)))) Yk) (@Ye _ _ _ _ _ (PS.nox (@Yt _ _ _ _ _ _ _ _ (@Yo _ _ _ _ _ _ _ _ YE (pv 2) Yn (Yq _)) (@Yf _ _ _ YB) Yk)) (@Yf _ _ _ (@Yu _ _ _ _ (@YW _ _ _ _ _ _ _ _ _ _ _ _ _ Z0a hr Xb (@Ya _ _ _ _ _ (pv 2) (@Ya _ _ _ _ _ (pv 3) (@Ya _ _ _ _ _ (pv 1) Yb (by rfl)) (by rfl)) (by rfl)) (by omega) (by rfl) (by rfl) (by decide) (by rfl) (by rfl)))))))))))))))))),?_⟩
 obtain ⟨a,rfl,hE⟩:=hE
 rcases hE with ⟨i,h,rfl⟩ | ⟨r,h,rfl⟩ | ⟨u,x,h,e,hz⟩ | ⟨p,v1,v2,h,hp,hz⟩ | ⟨p,v1,v2,x,h,hp,e,hz⟩
 ·walk_at "rd"
  refine ⟨_,SqT.of h,_,rfl,?_⟩
  walk_at "rd"
  exact ⟨_,SqT.of h,_,rfl,q _ (.refl _)⟩
 ·walk_at "rd"
  refine ⟨_,SqT.of h,_,rfl,?_⟩
  walk_at "rd"
  refine ⟨_,SqT.of h,_,rfl,?_⟩
  repeat refine YT (by decide) ?_
  exact q _ (.refl _)
 ·walk_at "rd"
  refine ⟨_,SqT.of h,_,rfl,?_⟩
  walk_at "rd"
  refine ⟨_,SqT.of h,_,rfl,?_⟩
  repeat refine YT (by decide) ?_
  walk_at "rd"
  rcases hz with ⟨xs,⟨b,rfl,hs⟩,rfl⟩ | ⟨hf,rfl⟩
  ·exact fun f1 hf1=>⟨_,u,th,f1,_,rfl,e,.inr ⟨_,true,rfl,⟨_,_,hf1,fun H1 Q' s1 h=>⟨_,rfl,.inl ⟨xs,Sq.keep s1 ⟨b,rfl,hs⟩,h⟩⟩⟩,fun H2 s2=>⟨b,rfl,xs,hs.imp (fun z=>SqL.of (s2 _ _ z)) fun z=>SqT.of (s2 _ _ z),q _ s2⟩⟩⟩
  ·exact fun f1 hf1=>⟨_,u,th,f1,_,rfl,e,.inr ⟨_,false,rfl,⟨_,_,hf1,fun H1 Q' s1 h=>⟨_,rfl,.inr ⟨hf,h⟩⟩⟩,q⟩⟩
 ·walk_at "rd"
  refine ⟨_,SqT.of h,_,rfl,?_⟩
  walk_at "rd"
  refine ⟨_,SqT.of h,_,rfl,?_⟩
  repeat refine YT (by decide) ?_
  exact ⟨p,v1,v2,th,res,rfl,hp,hz,q⟩
 ·walk_at "rd"
  refine ⟨_,SqT.of h,_,rfl,?_⟩
  walk_at "rd"
  refine ⟨_,SqT.of h,_,rfl,?_⟩
  repeat refine YT (by decide) ?_
  exact ⟨p,v1,v2,th,x,res,rfl,hp,e,hz,q⟩
def VD (K:PySem.W.Frag) (C:Addr):Sp:=fun vs H Q E=>∃ v th res,vs=[v,th]∧Ev K H 4 v th res∧(∀ r,res = .ok r→∃ b,r = .bl b)∧Out C H Q E res
theorem QO {k:Nat} {Z0 Z1:Addr} (R:g.Raw "said" "said" W6 ["term","thing"]) (F_copied:g.Fn k "copied" ["thing"] (WF)) (F_told:g.FnX k "told" ["term","thing"] (X0 g.K Z1 4)):g.FnX (k+1) "said" ["term","thing"] (VD g.K Z1):=by
 refine R.fnX QM (fun vs H Q E h=>by obtain ⟨v,th,res,rfl,hE,hb,q⟩:=h;rfl) fun f_ cdv A outer s H vs Q E hr h=>?_
 obtain ⟨v,th,res,rfl,hE,hb,q⟩:=h
 refine ⟨_,(@Yf _ _ _ (@Yu _ _ _ _ (@Y2 _ _ _ _ _ _ _ _ _ _ _ _ F_copied hr (@Ya _ _ _ _ _ (@YW _ _ _ _ _ _ _ _ _ _ _ _ _ F_told hr Xb (@Ya _ _ _ _ _ (pv 0) (@Ya _ _ _ _ _ (pv 1) Yb (by rfl)) (by rfl)) (by omega) (by rfl) (by rfl) (by decide) (by rfl) (by rfl)) Yb (by rfl)) (by omega) (by rfl) (by rfl) (by decide) (by rfl) (by rfl)))),?_⟩
 walk_at "rd"
 refine ⟨v,th,res,rfl,hE,?_⟩
 cases res with
 | ok r =>
  intro H' s'
  obtain ⟨b,rfl⟩:=hb r rfl
  exact ⟨b,rfl,q _ s'⟩
 | no mk=>exact q
def Wx (K:PySem.W.Frag):Sp:=fun vs H Q _=>∃ (a:Addr) (ns:List Int) (k:Nat),vs=[.ref a,.int k]∧SqL K H a (ns.map V.int)∧ns.length≤63∧Q (.int (ns.getD k 0)) H
theorem Z0b {Z0 Z1:Addr} (R:g.Raw "_law_cell_at" "_law_cell_at" Zr ["_law_script","_law_k"]) (b_len:g.mg "len"=none):g.Fn (1) "_law_cell_at" ["_law_script","_law_k"] (Wx g.K):=by
 refine R.fn Z09 (fun vs H Q E h=>by obtain ⟨a,ns,k,rfl,hS,hl,q⟩:=h;rfl) fun f_ cdv A outer s H vs Q E hr h=>?_
 obtain ⟨a,ns,k,rfl,hS,hl,q⟩:=h
 refine ⟨_,(@Ye _ _ _ _ _ (@Yt _ _ _ _ _ _ _ _ (@Yo _ _ _ _ _ _ _ _ WM (pv 1) (@YG _ _ _ _ _ _ _ _ _ _ b_len YL (@Ya _ _ _ _ _ (pv 0) Yb (by rfl)) (by decide +kernel) (by rfl) (by rfl) (by decide) (by decide) (by rfl) (by rfl)) (Yq _)) (@Yf _ _ _ (@Yu _ _ _ _ (@YH _ _ _ _ _ _ _ Y5 (pv 0) (pv 1) (fun _ _=>rfl)))) Yk) (@Yf _ _ _ (@Yu _ _ _ _ Yh))),?_⟩
 walk_at "rd"
 refine ⟨_,.inl hS,Xt (fun c=>?_) fun c=>?_⟩
 ·rw [List.length_map] at c
  have hk:k<ns.length:=by omega
  have e:ns.getD k 0=ns[k]:=by simp [List.getD_eq_getElem?_getD,List.getElem?_eq_getElem hk]
  rw [e] at q
  exact ⟨_,hS,_,Xy (by rw [List.getElem?_map,List.getElem?_eq_getElem hk];rfl),q⟩
 ·rw [List.length_map] at c
  have hk:ns.length≤k:=by omega
  have e:ns.getD k 0=0:=by simp [List.getD_eq_getElem?_getD,List.getElem?_eq_none hk]
  rw [e] at q
  exact q
def XH (ns:List Int):Prop:=ns.length≤4∧∀ i∈ns,i.natAbs≤10^30
inductive Its (K:PySem.W.Frag) (H:Hp):List V→List (Option (List Int))→Prop
 | nil:Its K H [] []
 | row {v:V} {ns:List Int} {vs:List V} {ds:List (Option (List Int))}:Sq K H v (ns.map V.int)→XH ns→Its K H vs ds→Its K H (v::vs) (some ns::ds)
 | fl {v:V} {vs:List V} {ds:List (Option (List Int))}:Fl v→Its K H vs ds→Its K H (v::vs) (none::ds)
def du (p:List Int→Bool):List (Option (List Int))→Option Bool
 | []=>some true
 | none::_=>none
 | some ns::r=>if p ns then du p r else some false
def oV:Option Bool→V
 | none => .non
 | some b => .bl b
def oR (mk:Str):Option Bool→Res
 | none => .no mk
 | some b => .ok (.bl b)
def p1 (bd:Int) (ns:List Int):Bool:=ns.all fun i=>decide (i<bd)
def p2 (ns:List Int):Bool:=decide (ns.length<4)
theorem Its.keep {K:PySem.W.Frag} {H H':Hp} (s:Yd H H') {vs:List V} {ds:List (Option (List Int))} (h:Its K H vs ds):Its K H' vs ds:=by
 induction h with
 | nil=>exact .nil
 | row a b _ ih=>exact .row (a.keep s) b ih
 | fl a _ ih=>exact .fl a ih
theorem Its.length {K:PySem.W.Frag} {H:Hp} {vs:List V} {ds:List (Option (List Int))} (h:Its K H vs ds):vs.length=ds.length:=by
 induction h with
 | nil=>rfl
 | row _ _ _ ih=>simp [ih]
 | fl _ _ ih=>simp [ih]
theorem Its.alls {K:PySem.W.Frag} {H:Hp} {vs:List V} {ds:List (Option (List Int))} {R:V→Res→Prop} {p:List Int→Bool} {mk:Str} (h:Its K H vs ds) (hr:∀ v ns,Sq K H v (ns.map V.int)→R v (.ok (.bl (p ns)))) (hf:∀ v,Fl v→R v (.no mk)):Alls R vs (oR mk (du p ds)):=by
 induction h with
 | nil=>exact .nil
 | @row v ns vs ds a b _ ih =>
  have z:=hr v ns a
  unfold du
  by_cases c:p ns=true
  ·rw [if_pos c]
   rw [c] at z
   exact .go z ih
  ·rw [if_neg c]
   rw [Bool.eq_false_iff.mpr c] at z
   exact .stop z
 | fl a _ ih=>exact .no (hf _ a)
theorem WG {K:PySem.W.Frag} {H:Hp} {n:Nat} {v:V} {bd:Int} (h:∀ i:Int,Ev K H n v (.int i) (.ok (.bl (decide (i<bd))))):∀ ns:List Int,Alls (Ev K H n v) (ns.map V.int) (.ok (.bl (p1 bd ns)))
 | [] => .nil
 | i::ns=>by
  have z:=h i
  unfold p1
  rw [List.all_cons]
  by_cases c:i<bd
  ·rw [decide_eq_true c] at z ⊢
   exact .go z (WG h ns)
  ·rw [decide_eq_false c] at z ⊢
   exact .stop z
def Z08 (K:PySem.W.Frag):Sp:=fun vs H Q _=>∃ (a:Addr) (xs:List V) (ds:List (Option (List Int))) (bd:Int) (mo:V) (p:List Int→Bool),vs=[.ref a,.int bd,mo]∧SqL K H a xs∧Its K H xs ds∧((mo = .non∧p=p1 bd)∨(mo = .int 4∧p=p2))∧∀ H',Yd H H'→Q (oV (du p ds)) H'
theorem VE {bd i:Int} {ns:List Int}:p1 bd (i::ns)=(decide (i<bd)&&p1 bd ns):=rfl
theorem V0 {Z0 Z1:Addr} (R:g.Raw "_law_due" "_law_due" ZQ ["_law_rows_here","_law_bound","_law_most"]) (Z2:g.mg "isinstance"=none) (b_len:g.mg "len"=none) (b_list:g.mg "list"=none) (Z3:g.mg "tuple"=none):g.Fn (1) "_law_due" ["_law_rows_here","_law_bound","_law_most"] (Z08 g.K):=by
 refine R.fn ZF (fun vs H Q E h=>by obtain ⟨a,xs,ds,bd,mo,p,rfl,hS,hI,hm,q⟩:=h;rfl) fun f_ cdv A outer s H vs Q E hr h=>?_
 obtain ⟨a,xs,ds,bd,mo,p,rfl,hS,hI,hm,q⟩:=h
 refine ⟨_,(@Ye _ _ _ _ _ (@XN _ _ _ _ _ _ _ _ PassesOwn.never rfl (@XY _ _ _ _ (pv 0)) (@Y4 _ _ (3) _ ZF.nd rfl (.inl rfl) (by first | exact .inl rfl | exact .inr rfl | assumption)) (@Ye _ _ _ _ _ (@Yt _ _ _ _ _ _ _ _ (@Wb _ _ _ _ (@Xf _ _ _ (@YG _ _ _ _ _ _ _ _ _ _ Z2 Xk (@Ya _ _ _ _ _ (pv 3) (@Ya _ _ _ _ _ (@Yx _ _ _ _ _ (@Ya _ _ _ _ _ (@YR _ _ _ _ ("list") b_list (by decide +kernel) (by rfl) (by rfl) (by decide) (by decide)) (@Ya _ _ _ _ _ (@YR _ _ _ _ ("tuple") Z3 (by decide +kernel) (by rfl) (by rfl) (by decide) (by decide)) Yb (by rfl)) (by rfl))) Yb (Yy _ _ _ _ _)) (by rfl)) (by decide +kernel) (by rfl) (by rfl) (by decide) (by decide) (by rfl) (by rfl)) (by intro _;rfl))) (@Yf _ _ _ (@Yu _ _ _ _ Xv)) Yk) (@Yf _ _ _ (@Yt _ _ _ _ _ _ _ _ (@Yo _ _ _ _ _ _ _ _ Ue (pv 2) Xv (Yq _)) (@Yf _ _ _ (@XN _ _ _ _ _ _ _ _ PassesOwn.never rfl (@Qn _ _ _ _ _ (@XY _ _ _ _ (pv 3)) (@V8 _ _ _ _ (pv 3))) (@Y4 _ _ (4) _ ZF.nd rfl (.inl rfl) (by first | exact .inl rfl | exact .inr rfl | assumption)) (@Yf _ _ _ (@Yt _ _ _ _ _ _ _ _ (@Yo _ _ _ _ _ _ _ _ Qe (pv 4) (pv 1) (Yq _)) (@Yf _ _ _ (@Yu _ _ _ _ Xn)) Yk)) (by intro _;rfl))) (@Yf _ _ _ (@Yt _ _ _ _ _ _ _ _ (@Yo _ _ _ _ _ _ _ _ Qe (@YG _ _ _ _ _ _ _ _ _ _ b_len YL (@Ya _ _ _ _ _ (pv 3) Yb (by rfl)) (by decide +kernel) (by rfl) (by rfl) (by decide) (by decide) (by rfl) (by rfl)) (pv 2) (Yq _)) (@Yf _ _ _ (@Yu _ _ _ _ Xn)) Yk))))) (by intro _;rfl)) (@Yf _ _ _ (@Yu _ _ _ _ Xn))),?_⟩
 walk_at "rd"
 refine WE (a:=a) (xs:=xs) (fun i σ H'=>Yd H H'∧(∃ w1 w2,σ=[some (.ref a),some (.int bd),some mo,w1,w2])∧∃ es,Its g.K H' (xs.drop i) es∧du p es=du p ds) (fun R hR=>⟨_,rfl,hR⟩) ⟨.refl _,⟨_,_,rfl⟩,ds,hI,rfl⟩ (fun i σ H' _ z=>z.1.seq hS) (fun i x σ H' hx z=>?_) fun σ H' z=>?_
 ·obtain ⟨s,⟨w1,w2,rfl⟩,es,hI,hd⟩:=z
  obtain ⟨hi,ei⟩:=List.getElem?_eq_some_iff.mp hx
  have ed:xs.drop i=x::xs.drop (i+1):=by rw [← ei];exact List.drop_eq_getElem_cons hi
  rw [ed] at hI
  walk_at "rd"
  refine ⟨by decide,fun c hc=>⟨["list","tuple"],Yc,?_⟩⟩
  have s2:=Yd.upd_new hc (HO.tup [V.ty "list",V.ty "tuple"])
  generalize upd H' c (HO.tup [V.ty "list",V.ty "tuple"])=H2 at s2 ⊢
  have s3:=s.trans s2
  cases hI with
  | fl hf _ =>
   have qn:Q .non H2:=by
    have:=q _ s3
    rw [← hd] at this
    exact this
   rcases hf with rfl | rfl | rfl
   ·exact ⟨_,.int 7,false,rfl,XR rfl qn⟩
   ·exact ⟨_,.bl true,false,rfl,XR rfl qn⟩
   ·exact ⟨_,.non,false,rfl,XR rfl qn⟩
  | @row _ ns _ es' hsq ok hI' =>
   have hI2:=hI'.keep s2
   obtain ⟨r,rfl,hsr⟩:=hsq.keep s2
   obtain ⟨tv,ty,kt⟩:∃ tv,TyOf g.K H2 (.ref r) tv∧PySem.W.kitAny g.K tv (List.map Value.type ["list","tuple"])=some true:=by
    rcases hsr with z | z
    ·exact ⟨_,.lst z,rfl⟩
    ·exact ⟨_,.tup z,rfl⟩
   refine ⟨tv,ty,true,kt,YT (by decide) ?_⟩
   have dcons:du p (some ns::es')=if p ns then du p es' else some false:=rfl
   have no:p ns=false→Q (.bl false) H2:=fun e=>by
    have:=q _ s3
    rw [← hd,dcons,if_neg (by rw [e];decide)] at this
    exact this
   rcases hm with ⟨rfl,rfl⟩ | ⟨rfl,rfl⟩
   ·refine XR rfl ?_
    rcases hsr with z | z
    ·refine X8 (WE (a:=r) (xs:=ns.map V.int) (fun j σ H3=>H3=H2∧(∃ w,σ=[some (.ref a),some (.int bd),some .non,some (.ref r),w])∧p1 bd (ns.drop j)=p1 bd ns) (fun R hR=>⟨_,rfl,hR⟩) ⟨rfl,⟨_,rfl⟩,rfl⟩ (fun j σ H3 _ y=>by obtain ⟨rfl,_⟩:=y;exact SqL.of z) (fun j y σ H3 hy zz=>?_) fun σ H3 zz=>?_)
     ·obtain ⟨rfl,⟨w,rfl⟩,e⟩:=zz
      obtain ⟨k,hk,rfl⟩:=getI hy
      obtain ⟨hj,ej⟩:=List.getElem?_eq_some_iff.mp hk
      have dj:ns.drop j=k::ns.drop (j+1):=by rw [← ej];exact List.drop_eq_getElem_cons hj
      rw [dj,VE] at e
      walk_at "rd"
      refine Xt (fun c=>?_) fun c=>?_
      ·rw [decide_eq_false (by omega),Bool.false_and] at e
       exact no e.symm
      ·rw [decide_eq_true (by omega),Bool.true_and] at e
       first | exact e | exact ⟨rfl,⟨_,rfl⟩,e⟩
     ·obtain ⟨rfl,⟨w,rfl⟩,e⟩:=zz
      rw [List.length_map,List.drop_length] at e
      exact ⟨s3,⟨_,_,rfl⟩,es',hI2,by rw [← hd,dcons,if_pos (show p1 bd ns=true from e.symm)]⟩
    ·refine W1 (UT (a:=r) (xs:=ns.map V.int) (fun j σ H3=>H3=H2∧(∃ w,σ=[some (.ref a),some (.int bd),some .non,some (.ref r),w])∧p1 bd (ns.drop j)=p1 bd ns) (fun R hR=>⟨_,rfl,hR⟩) ⟨rfl,⟨_,rfl⟩,rfl⟩ (fun j σ H3 _ y=>by obtain ⟨rfl,_⟩:=y;exact SqT.of z) (fun j y σ H3 hy zz=>?_) fun σ H3 zz=>?_)
     ·obtain ⟨rfl,⟨w,rfl⟩,e⟩:=zz
      obtain ⟨k,hk,rfl⟩:=getI hy
      obtain ⟨hj,ej⟩:=List.getElem?_eq_some_iff.mp hk
      have dj:ns.drop j=k::ns.drop (j+1):=by rw [← ej];exact List.drop_eq_getElem_cons hj
      rw [dj,VE] at e
      walk_at "rd"
      refine Xt (fun c=>?_) fun c=>?_
      ·rw [decide_eq_false (by omega),Bool.false_and] at e
       exact no e.symm
      ·rw [decide_eq_true (by omega),Bool.true_and] at e
       first | exact e | exact ⟨rfl,⟨_,rfl⟩,e⟩
     ·obtain ⟨rfl,⟨w,rfl⟩,e⟩:=zz
      rw [List.length_map,List.drop_length] at e
      exact ⟨s3,⟨_,_,rfl⟩,es',hI2,by rw [← hd,dcons,if_pos (show p1 bd ns=true from e.symm)]⟩
   ·refine YT (by intro z;cases z) ⟨r,rfl,ns.map V.int,hsr.imp SqL.of SqT.of,4,rfl,?_⟩
    rw [List.length_map]
    refine Xt (fun c=>no (decide_eq_false (by omega))) fun c=>⟨s3,es',hI2,by rw [← hd,dcons,if_pos (show p2 ns=true from decide_eq_true (by omega))]⟩
 ·obtain ⟨s,⟨w1,w2,rfl⟩,es,hI,hd⟩:=z
  rw [List.drop_length] at hI
  cases hI
  have:=q _ s
  rw [← hd] at this
  exact this
def Z02 (K:PySem.W.Frag) (C:Addr):Sp:=fun vs H Q _=>∃ (v th:V) (mk:Str) (ob:Option Bool),vs=[v,th]∧Ev K H 4 v th (oR mk ob)∧∀ p H',Yd H H'→H' p=some (.tup (match ob with | none=>[.str "astray",.str mk] | some b=>[.str "said",.bl b]))→Q (.ref p) H'
theorem Vj {k:Nat} {Z0 Z1:Addr} (R:g.Raw "_law_said" "_law_said" ZG ["_law_term","_law_thing"]) (F_said:g.FnX k "said" ["term","thing"] (VD g.K Z1)) (xn_Astray_mark:PySem.W.findIn g.K (.ref Z1) "mark"=some none) (x_Astray:g.mg "Astray"=some (.ref Z1)) (t_Astray:ExcT g.K Z1) (m_Astray_Astray:PySem.W.exmOne g.K (.ref Z1) (.ref Z1)=some true):g.Fn (k+1) "_law_said" ["_law_term","_law_thing"] (Z02 g.K Z1):=by
 refine R.fn ZB (fun vs H Q E h=>by obtain ⟨v,th,mk,ob,rfl,hE,q⟩:=h;rfl) fun f_ cdv A outer s H vs Q E hr h=>?_
 obtain ⟨v,th,mk,ob,rfl,hE,q⟩:=h
 refine ⟨_,(@Ye _ _ _ _ _ (@Yw _ _ (2) _ _ _ _ ZB.nd rfl (.inl rfl) Xv (by rfl) (by first | exact .inl rfl | exact .inr rfl | assumption)) (@Ye _ _ _ _ _ (@UQ _ _ _ _ (2) (3) _ _ _ _ _ _ _ _ _ _ _ _ _ _ _ _ _ _ _ _ F_said hr ZB.nd rfl (.inl rfl) rfl rfl (@Ya _ _ _ _ _ (pv 0) (@Ya _ _ _ _ _ (pv 1) Yb (by rfl)) (by rfl)) x_Astray (fun _=>(@Yf _ _ _ (@Yu _ _ _ _ (@Yx _ _ _ _ _ (@Ya _ _ _ _ _ Yn (@Ya _ _ _ _ _ (@pe_fx _ _ _ _ _ _ _ t_Astray xn_Astray_mark (pv 3) (by rfl) (by rfl)) Yb (by rfl)) (by rfl)))))) (by omega) (by rfl) (by rfl) (by rfl) (by rfl) (by rfl) (by decide) (by decide) (by rfl) (by rfl) (by rfl) (by first | exact .inl rfl | exact .inr rfl)) (@Yf _ _ _ (@Yu _ _ _ _ (@Yx _ _ _ _ _ (@Ya _ _ _ _ _ Yn (@Ya _ _ _ _ _ (pv 2) Yb (by rfl)) (by rfl))))))),?_⟩
 walk_at "rd"
 refine ⟨v,th,_,rfl,hE,(fun r h=>?_),?_⟩
 ·cases ob with
  | none=>cases h
  | some b=>cases h;exact ⟨b,rfl⟩
 ·cases ob with
  | none =>
   intro H1 d s1 hd
   refine ⟨m_Astray_Astray,fun a ha=>?_⟩
   have n1:d≠a:=fun z=>by
    rw [← z,Yc] at ha
    cases ha
   have s2:=Yd.upd_new hd (Y3 d [("mark",.str mk)])
   have s3:=Yd.upd_new ha (XU a (.ref Z1) (some d))
   refine ⟨_,rfl,a,d,_,_,rfl,Yc,(Yg n1).trans Yc,rfl,by decide,fun p hp=>q p _ (((s1.trans s2).trans s3).trans (Yd.upd_new hp _)) Yc⟩
  | some b =>
   intro H1 s1
   exact ⟨by decide,fun p hp=>q p _ (s1.trans (Yd.upd_new hp _)) Yc⟩
def Z03 (K:PySem.W.Frag):Sp:=fun vs H Q _=>∃ (a:Addr) (ns:List Int),vs=[.ref a]∧SqL K H a (ns.map V.int)∧ns.length≤63∧∀ L xs ds H',Yd H H'→H' L=some (.lst xs)→Its K H' xs ds→xs.length≤64→Q (.ref L) H'
theorem U2 {K:PySem.W.Frag} {a:Addr} {xs:List V} {src:List (Option Nat)} {te:TE} {σ:St} {H1:Hp} {Q:VK} {D:Addr} (Rl:V→Hp→Prop) (st:∀ y H H',Rl y H→Yd H H'→Rl y H') (su:∀ y H zs zs',Rl y H→H D=some (.lst zs)→Rl y (upd H D (.lst zs'))) (hS:SqL K H1 a xs) (hD:H1 D=none) (hlen:xs.length≤100000)
  (step:∀ (i:Nat) x H' zs,xs[i]?=some x→Yd H1 H'→H' D=some (.lst zs)→∀ R:VK,(∀ y H'',Yd H' H''→Rl y H''→R y H'')→te (some (.int i)::some x::YK src σ) H' R)
  (fin:∀ ys H',Yd H1 H'→H' D=some (.lst ys)→ys.length=xs.length→(∀ y∈ys,Rl y H')→Q (.ref D) H'):LC (none::none::src) (Ite fun H xs=>SqL K H a xs) (Wq K 2 (Xa (YX 0) (Xa (YX 1) Wp))) VS te σ H1 Q D:=by
 have h6:100000<sizeLine:=by decide
 refine Ur (J:=Ite fun H xs=>SqL K H a xs) (n:=xs.length) (P:=fun H'=>Yd H1 H') (fun i H' sm hi=>⟨xs,xs[i],sm.seq hS,List.getElem?_eq_getElem hi⟩) (fun H' sm=>⟨xs,sm.seq hS,Nat.le_refl _⟩)
  (fun i zs σ' H'=>zs.length=i∧(∃ o o',σ'=o::o'::YK src σ)∧Yd H1 H'∧H' D=some (.lst zs)∧∀ y∈zs,Rl y H') ⟨rfl,⟨none,none,rfl⟩,.upd_new hD _,Yc,fun y h=>nomatch h⟩ (fun i zs σ' H' p=>⟨p.2.2.1,p.2.2.2.1⟩) (Ve K 0 1) ?_ ?_
 ·rintro i zs σ' H' hi ⟨rfl,⟨o,o',rfl⟩,sm,hd,hz⟩ x H3 ⟨T,rfl,hT,heq⟩
  have hx:xs[zs.length]?=some xs[zs.length]:=List.getElem?_eq_getElem hi
  have e3:=heq xs _ (sm.seq hS) hx
  subst e3
  have s3:Yd H' (upd H' T (.tup [.int zs.length,xs[zs.length]])) := .upd_new hT _
  refine ⟨T,_,rfl,SqT.of Yc,rfl,_,_,rfl,_,_,rfl,rfl,?_⟩
  show te (some (.int zs.length)::some xs[zs.length]::YK src σ) _ _
  refine step _ _ _ zs hx (sm.trans s3) (s3 _ _ hd) _ fun y H'' s2 hy=>⟨s2 _ _ (s3 _ _ hd),by omega,by simp,⟨_,_,rfl⟩,.upd_over hD ((sm.trans s3).trans s2) _,Yc,fun z hz'=>su _ _ _ _ ?_ (s2 _ _ (s3 _ _ hd))⟩
  rcases List.mem_append.mp hz' with h | h
  ·exact st _ _ _ (hz z h) (s3.trans s2)
  ·rw [List.mem_singleton.mp h];exact hy
 ·rintro zs σ' H' ⟨hn,_,sm,hd,hz⟩
  exact fin zs H' sm hd hn hz
def Mk54 (H H':Hp) (c L r:Addr) (ms:List Int) (n:Nat):Prop:=∃ (as:List Addr) (ks:List Int),Yd H H'∧H' c=some (.lst (ms.map V.int))∧H' L=some (.lst (as.map V.ref))∧(∀ x∈as,x≠r∧x≠L∧∃ js:List Int,H' x=some (.lst (js.map V.int))∧XH js)∧H' r=some (.lst (ks.map V.int))∧XH ks∧H L=none∧H r=none∧L≠r∧c≠L∧c≠r∧as.length≤n
theorem UD {K:PySem.W.Frag} {H:Hp}:∀ xs:List V,(∀ y∈xs,∃ ns:List Int,Sq K H y (ns.map V.int)∧XH ns)→∃ ds,Its K H xs ds
 | [],_=>⟨[],.nil⟩
 | x::xs,h=>by
  obtain ⟨ds,hd⟩:=UD xs fun y hy=>h y (List.mem_cons_of_mem _ hy)
  obtain ⟨ns,a,b⟩:=h x (List.mem_cons_self ..)
  exact ⟨_,.row a b hd⟩
theorem Vk {Z0 Z1:Addr} (R:g.Raw "_law_rows" "_law_rows" ZE ["_law_script"]) (Zk:g.mg "enumerate"=none) (b_len:g.mg "len"=none) (Z3:g.mg "tuple"=none):g.Fn (1) "_law_rows" ["_law_script"] (Z03 g.K):=by
 refine R.fn Zj (fun vs H Q E h=>by obtain ⟨a,ns,rfl,hS,hl,q⟩:=h;rfl) fun f_ cdv A outer s H vs Q E hr h=>?_
 obtain ⟨a,ns,rfl,hS,hl,q⟩:=h
 refine ⟨_,(@Ye _ _ _ _ _ (@Yw _ _ (1) _ _ _ _ Zj.nd rfl (.inl rfl) (@YU _ _ _ _ Yb) (by rfl) (by first | exact .inl rfl | exact .inr rfl | assumption)) (@Ye _ _ _ _ _ (@Yw _ _ (2) _ _ _ _ Zj.nd rfl (.inl rfl) (@YU _ _ _ _ Yb) (by rfl) (by first | exact .inl rfl | exact .inr rfl | assumption)) (@Ye _ _ _ _ _ (@XN _ _ _ _ _ _ _ _ PassesOwn.never rfl (@XY _ _ _ _ (@X5 _ _ _ _ _ _ _ _ _ _ Wr (pv 0) (@XZ _ _ _ Yh) (@XZ _ _ _ Yh))) (@Y4 _ _ (3) _ Zj.nd rfl (.inl rfl) (by first | exact .inl rfl | exact .inr rfl | assumption)) (@Yf _ _ _ (@Yt _ _ _ _ _ _ _ _ (@Yo _ _ _ _ _ _ _ _ YE (@Yz _ _ _ _ _ _ _ _ Y1 (pv 3) Yh) Yh (Yq _)) (@Ye _ _ _ _ _ (@XX _ _ _ _ (@VP _ _ _ _ _ _ _ _ _ _ _ _ PySem.F.plainAttrs_list PySem.F.slot_list_append PySem.F.type_list_append Xo (pv 1) (@Ya _ _ _ _ _ (pv 2) Yb (by rfl)) (by rfl) (by rfl) (by rfl) (by rfl) (by rfl)) (by rfl)) (@Yf _ _ _ (@Yw _ _ (2) _ _ _ _ Zj.nd rfl (.inl rfl) (@YU _ _ _ _ Yb) (by rfl) (by first | exact .inl rfl | exact .inr rfl | assumption)))) (@Yf _ _ _ (@Yt _ _ _ _ _ _ _ _ (@Yo _ _ _ _ _ _ _ _ WM (@YG _ _ _ _ _ _ _ _ _ _ b_len YL (@Ya _ _ _ _ _ (pv 2) Yb (by rfl)) (by decide +kernel) (by rfl) (by rfl) (by decide) (by decide) (by rfl) (by rfl)) Yh (Yq _)) (@Yf _ _ _ (@XX _ _ _ _ (@VP _ _ _ _ _ _ _ _ _ _ _ _ PySem.F.plainAttrs_list PySem.F.slot_list_append PySem.F.type_list_append Xo (pv 2) (@Ya _ _ _ _ _ (@Yz _ _ _ _ _ _ _ _ Uc (@Yz _ _ _ _ _ _ _ _ Y1 (@Yz _ _ _ _ _ _ _ _ X6 (pv 3) Yh) (@Yz _ _ _ _ _ _ _ _ Vz Yh (@Yz _ _ _ _ _ _ _ _ XO Yh Yh))) (@Yz _ _ _ _ _ _ _ _ XO Yh Yh)) Yb (by rfl)) (by rfl) (by rfl) (by rfl) (by rfl) (by rfl)) (by rfl))) Yk)))) (by intro _;rfl)) (@Ye _ _ _ _ _ (@XX _ _ _ _ (@VP _ _ _ _ _ _ _ _ _ _ _ _ PySem.F.plainAttrs_list PySem.F.slot_list_append PySem.F.type_list_append Xo (pv 1) (@Ya _ _ _ _ _ (pv 2) Yb (by rfl)) (by rfl) (by rfl) (by rfl) (by rfl) (by rfl)) (by rfl)) (@Yf _ _ _ (@Yu _ _ _ _ (@pe_lc _ _ _ _ _ _ _ ([none,none]) ((["_law_k","_law_row"]:List Str)) _ (Wq g.K 2 (Xa (YX 0) (Xa (YX 1) Wp))) _ _ (.own (.own .nil)) rfl (@UN _ _ _ _ _ _ _ _ rfl Zk (@Ya _ _ _ _ _ (pv 1) Yb (by rfl)) (by rfl)) (fun cl C s₀ H₀ fp pn=>(@QY _ _ _ _ _ (2) rfl (@WR _ _ _ _ _ (@Y4 _ _ (0) _ (show List.Nodup (["_law_k","_law_row"]:List Str) by decide +kernel) rfl (.inl rfl) (.inr rfl)) (@WR _ _ _ _ _ (@Y4 _ _ (1) _ (show List.Nodup (["_law_k","_law_row"]:List Str) by decide +kernel) rfl (.inl rfl) (.inr rfl)) Qr (by rfl)) (by rfl)) (by rfl) (by rfl))) (fun cl C s₀ H₀ fp pn=>Qx) (fun cl C s₀ H₀ fp pn=>(@YH _ _ _ _ _ _ _ (UO (K:=g.K)) (@YU _ _ _ _ (@Ya _ _ _ _ _ (pv 1) (@Ya _ _ _ _ _ (@VU _ _ _ _ _ _ _ _ _ _ Z3 (Wt (K:=g.K)) (@Ya _ _ _ _ _ (pv 1) Yb (by rfl)) (by decide +kernel) (by rfl) (by rfl) (by decide) (by decide) (by rfl) (by rfl)) Yb (by rfl)) (by rfl))) (@Yz _ _ _ _ _ _ _ _ Y1 (pv 0) Yh) (fun _ _=>rfl))) (by intro x hx;simp at hx) (by rfl) (by decide) (by decide +kernel) (by intro _;rfl)))))))),?_⟩
 walk_at "rd"
 have tyl:∀ {H':Hp} {xs:List V} {D:Addr},H' D=some (.lst xs)→tyV g.K "list" (.ref D) H':=fun h => .inl ⟨rfl,_,SqL.of h⟩
 refine ⟨by decide,fun L hL=>⟨by decide,fun r hr=>?_⟩⟩
 have n1:L≠r:=fun z=>by
  rw [← z,Yc] at hr
  cases hr
 have hr0:H r=none:=by rwa [Yg (Ne.symm n1)] at hr
 have s1:=Yd.upd_new hL (HO.lst [])
 have s2:=Yd.upd_new hr (HO.lst [])
 have hle:((ns.drop 3).take 117).length≤60:=by rw [List.length_take,List.length_drop];omega
 generalize hms:(ns.drop 3).take 117=ms at hle
 have ec:Xh (ns.map V.int) (some 3) (some 120)=ms.map V.int:=by
  have e1:=QB (ns.map V.int) 3 120
  rw [← hms,List.map_take,List.map_drop]
  exact e1
 refine Wf (xs:=ms.map V.int) (fun c i σ H'=>(∃ r' w,σ=[some (.ref a),some (.ref L),some (.ref r'),w]∧Mk54 H H' c L r' ms i)) (fun R hR=>?_) (fun c i σ H' _ z=>?_) (fun c i x σ H' hx z=>?_) fun c σ H' z=>?_
 ·walk_at "rd"
  refine ⟨_,(s1.trans s2).seq hS,fun p hp=>?_⟩
  rw [ec]
  have m1:p≠r:=fun z=>by rw [z,Yc] at hp;cases hp
  have m2:p≠L:=fun z=>by rw [z,Yg n1,Yc] at hp;cases hp
  exact hR p _ ⟨r,none,rfl,[],[],(s1.trans s2).trans (Yd.upd_new hp _),Yc,by rw [Yg (Ne.symm m2),Yg n1];exact Yc,fun x hx=>(nomatch hx),by rw [Yg (Ne.symm m1)];exact Yc,⟨by decide,fun i hi=>nomatch hi⟩,hL,hr0,n1,m2,m1,Nat.le_refl _⟩
 ·obtain ⟨r',w,rfl,as,ks,_,h,_⟩:=z
  exact SqL.of h
 ·obtain ⟨r',w,rfl,as,ks,s,hc,hLs,hx',hr',ok,e1,e2,e3,e4,e5,e6⟩:=z
  obtain ⟨k,hk,rfl⟩:=getI hx
  obtain ⟨hi,_⟩:=List.getElem?_eq_some_iff.mp hx
  rw [List.length_map] at hi
  walk_at "rd"
  refine ⟨by decide,Xt (fun c0=>⟨tyl hLs,_,hLs,?_,by decide,fun p hp=>?_⟩) fun c0=>⟨_,.inl (SqL.of hr'),Xt (fun c1=>⟨tyl hr',⟨by decide,by decide +kernel⟩,W7,.inl (cm (m:=2) (n:=200) (by decide) (by decide +kernel)),by decide +kernel,W7,_,hr',?_,?_⟩) fun c1=>⟨as,ks,s,hc,hLs,hx',hr',ok,e1,e2,e3,e4,e5,by omega⟩⟩⟩
  ·rw [List.length_map,sizeLine_eq];omega
  ·have m1:p≠L:=fun z=>by rw [z,Yc] at hp;cases hp
   rw [Yg m1] at hp
   have no:∀ {b:Addr} {o:HO},H' b=some o→b≠p:=fun q z=>by rw [z,hp] at q;cases q
   have hold:∀ {b:Addr} {o:HO},b≠L→H' b=some o→upd (upd H' L (.lst (as.map V.ref++[V.ref r']))) p (.lst []) b=some o:=fun nb q=>by rw [Yg (no q),Yg nb];exact q
   have hpn:H p=none:=s.free hp
   refine ⟨as++[r'],[],fun b o q=>hold (fun z=>by rw [z,e1] at q;cases q) (s b o q),hold e4 hc,?_,fun x hx=>?_,Yc,⟨by decide,fun i hi=>nomatch hi⟩,e1,hpn,Ne.symm m1,e4,no hc,by simp;omega⟩
   ·rw [Yg (Ne.symm m1),Yc,List.map_append];rfl
   ·rcases List.mem_append.mp hx with h | h
    ·obtain ⟨_,y2,js,y3,y4⟩:=hx' x h
     exact ⟨no y3,y2,js,hold y2 y3,y4⟩
    ·rw [List.mem_singleton.mp h]
     exact ⟨no hr',Ne.symm e3,ks,hold (Ne.symm e3) hr',ok⟩
  ·rw [List.length_map,sizeLine_eq];have:=ok.1;omega
  ·have hold:∀ {b:Addr} {o:HO},b≠r'→H' b=some o→upd H' r' (.lst (ks.map V.int++[V.int (k / 3%(2*10^Int.toNat 30) - 10^Int.toNat 30)])) b=some o:=fun nb q=>by rw [Yg nb];exact q
   refine ⟨as,ks++[k / 3%(2*10^Int.toNat 30) - 10^Int.toNat 30],fun b o q=>hold (fun z=>by rw [z,e2] at q;cases q) (s b o q),hold e5 hc,hold e3 hLs,fun x hx=>?_,?_,⟨?_,fun i hi=>?_⟩,e1,e2,e3,e4,e5,by omega⟩
   ·obtain ⟨y1,y2,js,y3,y4⟩:=hx' x hx
    exact ⟨y1,y2,js,hold y1 y3,y4⟩
   ·rw [Yc,List.map_append];rfl
   ·rw [List.length_append]
    rw [List.length_map] at c1
    simp
    omega
   ·rcases List.mem_append.mp hi with h | h
    ·exact ok.2 i h
    ·rw [List.mem_singleton.mp h]
     have h1:=Int.emod_nonneg (k / 3) (show (2*10^Int.toNat 30:Int)≠0 by decide)
     have h2:=Int.emod_lt_of_pos (k / 3) (show (0:Int)<2*10^Int.toNat 30 by decide)
     have e:(10:Int)^Int.toNat 30=1000000000000000000000000000000:=by decide +kernel
     have e':(10:Nat)^30=1000000000000000000000000000000:=by decide +kernel
     rw [e] at h1 h2 ⊢
     rw [e']
     omega
 ·obtain ⟨r',w,rfl,as,ks,s,hc,hLs,hx',hr',ok,e1,e2,e3,e4,e5,e6⟩:=z
  rw [List.length_map] at e6
  walk_at "rd"
  refine ⟨tyl hLs,_,hLs,by rw [List.length_map,sizeLine_eq];omega,?_⟩
  have hold:∀ {b:Addr} {o:HO},b≠L→H' b=some o→upd H' L (.lst (as.map V.ref++[V.ref r'])) b=some o:=fun nb q=>by rw [Yg nb];exact q
  have s3:Yd H (upd H' L (.lst (as.map V.ref++[V.ref r']))):=fun b o q=>hold (fun z=>by rw [z,e1] at q;cases q) (s b o q)
  have hL3:upd H' L (.lst (as.map V.ref++[V.ref r'])) L=some (.lst ((as++[r']).map V.ref)):=by rw [Yc,List.map_append];rfl
  have hrow:∀ x∈as++[r'],∃ js:List Int,upd H' L (.lst (as.map V.ref++[V.ref r'])) x=some (.lst (js.map V.int))∧XH js:=fun x hx=>by
   rcases List.mem_append.mp hx with h | h
   ·obtain ⟨_,y2,js,y3,y4⟩:=hx' x h
    exact ⟨js,hold y2 y3,y4⟩
   ·rw [List.mem_singleton.mp h]
    exact ⟨ks,hold (Ne.symm e3) hr',ok⟩
  generalize upd H' L (.lst (as.map V.ref++[V.ref r']))=H3 at s3 hL3 hrow ⊢
  have hll:(as++[r']).length≤61:=by simp;omega
  generalize as++[r']=bs at hL3 hrow hll
  refine ⟨_,rfl,L,_,rfl,SqL.of hL3,fun D hD=>U2 (fun y H4=>∃ (b:Addr) (js:List Int),y = .ref b∧b≠D∧(H4 b=some (.lst (js.map V.int))∨H4 b=some (.tup (js.map V.int)))∧XH js) (fun y H4 H5 z s=>?_) (fun y H4 zs zs' z hz=>?_) (SqL.of hL3) hD (by rw [List.length_map];omega) (fun i x H4 zs hx s4 hd R hR=>?_) fun ys H4 s4 hd hly hz=>?_⟩
  ·obtain ⟨b,js,y1,y2,y3,y4⟩:=z
   exact ⟨b,js,y1,y2,y3.imp (s _ _) (s _ _),y4⟩
  ·obtain ⟨b,js,y1,y2,y3,y4⟩:=z
   exact ⟨b,js,y1,y2,by rw [Yg y2];exact y3,y4⟩
  ·rw [List.getElem?_map] at hx
   obtain ⟨b,hb,rfl⟩:=Option.map_eq_some_iff.mp hx
   obtain ⟨js,hj,okj⟩:=hrow b (List.mem_of_getElem? hb)
   walk_at "rd"
   refine ⟨js.map V.int,.inl ⟨SqL.of (s4 _ _ hj),fun l hl=>⟨by decide,fun p hp=>⟨by decide,_,SqL.of Yc,?_⟩⟩⟩⟩
   have s5:=Yd.upd_new hl (HO.tup (js.map V.int))
   have s6:=Yd.upd_new hp (HO.lst [V.ref b,V.ref l])
   rcases (show (i:Int)%2=0∨(i:Int)%2=1 by omega) with e | e
   ·rw [e]
    exact ⟨.ref b,rfl,hR _ _ (s5.trans s6) ⟨b,js,rfl,(fun z=>by rw [z,hD] at hj;cases hj),.inl (s6 _ _ (s5 _ _ (s4 _ _ hj))),okj⟩⟩
   ·rw [e]
    exact ⟨.ref l,rfl,hR _ _ (s5.trans s6) ⟨l,js,rfl,(fun z=>by rw [z,hd] at hl;cases hl),.inr (s6 _ _ Yc),okj⟩⟩
  ·obtain ⟨ds,hI⟩:=UD (K:=g.K) (H:=H4) ys fun y hy=>by
    obtain ⟨b,js,y1,y2,y3,y4⟩:=hz y hy
    exact ⟨js,⟨b,y1,y3⟩,y4⟩
   exact q D ys ds H4 (s3.trans s4) hd hI (by rw [hly,List.length_map];omega)
theorem UE {i:Int} (h:i.natAbs≤10^30):(PyData.shown (.int i)).length≤32∧PyData.showable (.int i)=true:=by
 constructor
 ·have z:=int_text_length_le10 (a:=i) (k:=31) (by decide) (Nat.lt_of_le_of_lt h (by decide))
  show (Str.ofString (toString i)).length≤32
  rw [ofString_length]
  exact z
 ·show decide (i.natAbs.log2<1920)=true
  refine decide_eq_true ?_
  by_cases c:i.natAbs=0
  ·rw [c];decide
  ·refine (Nat.log2_lt c).mpr (Nat.lt_of_le_of_lt h ?_)
   exact Nat.lt_of_lt_of_le (by decide:10^30<2^100) (Nat.pow_le_pow_right (by decide) (by decide))
theorem Wn:∀ ns:List Int,(∀ i∈ns,i.natAbs≤10^30)→((PyData.shownAll (ns.map .int)).map (·.length)).sum≤32*ns.length∧PyData.showableAll (ns.map .int)=true∧PyData.depthAll (ns.map .int)=0
 | [],_=>⟨by decide,rfl,rfl⟩
 | i::ns,h=>by
  obtain ⟨a,b,c⟩:=Wn ns fun j hj=>h j (List.mem_cons_of_mem _ hj)
  obtain ⟨d,e⟩:=UE (h i (List.mem_cons_self ..))
  refine ⟨?_,?_,?_⟩
  ·simp only [List.map_cons,PyData.shownAll,List.sum_cons,List.length_cons]
   omega
  ·show (_&&_)=true
   rw [e]
   exact b
  ·show max 0 _=0
   have:PyData.depthAll (List.map PyData.int ns)=0:=c
   rw [this]
   rfl
theorem Wa {K:PySem.W.Frag} {H:Hp}:∀ ns:List Int,Dens K H (ns.map V.int) (ns.map .int)
 | [] => .nil
 | i::ns => .cons (.int i) (Wa ns)
theorem Xm:∀ es:List PyData,(PyData.shownAll es).length=es.length
 | []=>rfl
 | e::es=>by simp only [PyData.shownAll,List.length_cons,Xm es]
theorem UF {K:PySem.W.Frag} {H:Hp} {v:V} {ns:List Int} (h:Sq K H v (ns.map V.int)) (ok:XH ns):∃ d,Den K H v d∧d.showable=true∧d.depth≤1∧d.shown.length≤200:=by
 obtain ⟨a,b,c⟩:=Wn ns ok.2
 obtain ⟨p,rfl,h⟩:=h
 have l:=Xm (ns.map PyData.int)
 rw [List.length_map] at l
 have l4:=ok.1
 rcases h with h | h
 ·refine ⟨.list (ns.map .int),.lst (SqL.of h) (Wa ns),b,?_,?_⟩
  ·show PyData.depthAll _+1≤1
   rw [c]
   exact Nat.le_refl _
  ·have z:=listText_len_le (PyData.shownAll (ns.map PyData.int))
   show (listText (PyData.shownAll (ns.map PyData.int))).length≤200
   omega
 ·refine ⟨.tuple (ns.map .int),.tup (SqT.of h) (Wa ns),b,?_,?_⟩
  ·show PyData.depthAll _+1≤1
   rw [c]
   exact Nat.le_refl _
  ·have z:=tupleText_len_le (PyData.shownAll (ns.map PyData.int))
   show (tupleText (PyData.shownAll (ns.map PyData.int))).length≤200
   omega
theorem U3 {K:PySem.W.Frag} {H:Hp} {v:V} (h:Fl v):∃ d,Den K H v d∧d.showable=true∧d.depth≤1∧d.shown.length≤200:=by
 rcases h with rfl | rfl | rfl
 ·exact ⟨_,.int 7,by decide +kernel,by decide +kernel,by decide +kernel⟩
 ·exact ⟨_,.bl true,rfl,by decide +kernel,by decide +kernel⟩
 ·exact ⟨_,.non,rfl,by decide +kernel,by decide +kernel⟩
theorem UG {K:PySem.W.Frag} {H:Hp} {vs:List V} {ds:List (Option (List Int))} (h:Its K H vs ds):∃ es,Dens K H vs es∧PyData.showableAll es=true∧PyData.depthAll es≤1∧((PyData.shownAll es).map (·.length)).sum≤200*vs.length∧es.length=vs.length:=by
 have go:∀ {v:V} {vs:List V},(∃ d,Den K H v d∧d.showable=true∧d.depth≤1∧d.shown.length≤200)→(∃ es,Dens K H vs es∧PyData.showableAll es=true∧PyData.depthAll es≤1∧((PyData.shownAll es).map (·.length)).sum≤200*vs.length∧es.length=vs.length) →
   ∃ es,Dens K H (v::vs) es∧PyData.showableAll es=true∧PyData.depthAll es≤1∧((PyData.shownAll es).map (·.length)).sum≤200*(v::vs).length∧es.length=(v::vs).length:=by
  rintro v vs ⟨d,a1,a2,a3,a4⟩ ⟨es,b1,b2,b3,b4,b5⟩
  refine ⟨d::es,.cons a1 b1,?_,?_,?_,by simp [b5]⟩
  ·show (_&&_)=true
   rw [a2,b2]
   rfl
  ·show max _ _≤1
   exact Nat.max_le.mpr ⟨a3,b3⟩
  ·simp only [PyData.shownAll,List.map_cons,List.sum_cons,List.length_cons]
   omega
 induction h with
 | nil=>exact ⟨[],.nil,rfl,by decide,by decide,rfl⟩
 | row a b _ ih=>exact go (UF a b) ih
 | fl a _ ih=>exact go (U3 a) ih
theorem Vl {K:PySem.W.Frag} {H:Hp} {a:Addr} {vs:List V} {ds:List (Option (List Int))} (l:Bool) (hs:if l then H a=some (.lst vs) else H a=some (.tup vs)) (h:Its K H vs ds) (hl:vs.length≤65):∃ d,Den K H (.ref a) d∧d.showable=true∧d.depth≤100∧d.shown.length≤sizeLine:=by
 obtain ⟨es,b1,b2,b3,b4,b5⟩:=UG h
 have l2:=Xm es
 rw [sizeLine_eq]
 cases l with
 | true =>
  refine ⟨.list es,.lst (SqL.of hs) b1,b2,?_,?_⟩
  ·show PyData.depthAll _+1≤100
   omega
  ·have z:=listText_len_le (PyData.shownAll es)
   show (listText (PyData.shownAll es)).length≤_
   omega
 | false =>
  refine ⟨.tuple es,.tup (SqT.of hs) b1,b2,?_,?_⟩
  ·show PyData.depthAll _+1≤100
   omega
  ·have z:=tupleText_len_le (PyData.shownAll es)
   show (tupleText (PyData.shownAll es)).length≤_
   omega
theorem VF {K:PySem.W.Frag} {H:Hp} {xs ys:List V} {ds es:List (Option (List Int))} (a:Its K H xs ds) (b:Its K H ys es):Its K H (xs++ys) (ds++es):=by
 induction a with
 | nil=>exact b
 | row x y _ ih=>exact .row x y ih
 | fl x _ ih=>exact .fl x ih
theorem U4 {K:PySem.W.Frag} {H:Hp} {xs:List V} {ds:List (Option (List Int))} (a:Its K H xs ds) (n:Nat):Its K H (xs.take n) (ds.take n):=by
 induction a generalizing n with
 | nil=>rw [List.take_nil,List.take_nil];exact .nil
 | row x y _ ih=>cases n with
  | zero=>exact .nil
  | succ n=>exact .row x y (ih n)
 | fl x _ ih=>cases n with
  | zero=>exact .nil
  | succ n=>exact .fl x (ih n)
theorem U5 {K:PySem.W.Frag} {H:Hp} {xs:List V} {ds:List (Option (List Int))} (a:Its K H xs ds) (n:Nat):Its K H (xs.drop n) (ds.drop n):=by
 induction a generalizing n with
 | nil=>rw [List.drop_nil,List.drop_nil];exact .nil
 | row x y h ih=>cases n with
  | zero=>exact .row x y h
  | succ n=>exact ih n
 | fl x h ih=>cases n with
  | zero=>exact .fl x h
  | succ n=>exact ih n
def W8 (H:Hp) (h:Addr) (bd:Int) (i:Addr):Prop:=∃ e l q n:Addr,H i=some (.tup [.str "each",.ref e])∧H e=some (.tup [.ref h,.ref l])∧H l=some (.tup [.str "less",.ref q])∧H q=some (.tup [.ref h,.ref n])∧H n=some (.tup [.str "num",.int bd])
def W9 (H:Hp) (h:Addr) (f:Addr):Prop:=∃ q c n:Addr,H f=some (.tup [.str "less",.ref q])∧H q=some (.tup [.ref c,.ref n])∧H c=some (.tup [.str "count",.ref h])∧H n=some (.tup [.str "num",.int 4])
theorem W8.keep {H H':Hp} {h i:Addr} {bd:Int} (s:Yd H H') (z:W8 H h bd i):W8 H' h bd i:=by
 obtain ⟨e,l,q,n,a,b,c,d,f⟩:=z
 exact ⟨e,l,q,n,s _ _ a,s _ _ b,s _ _ c,s _ _ d,s _ _ f⟩
theorem W9.keep {H H':Hp} {h i:Addr} (s:Yd H H') (z:W9 H h i):W9 H' h i:=by
 obtain ⟨q,c,n,a,b,d,f⟩:=z
 exact ⟨q,c,n,s _ _ a,s _ _ b,s _ _ d,s _ _ f⟩
theorem Y9 {K:PySem.W.Frag} {H:Hp} {h p:Addr} {th:V} {n:Nat} (z:H h=some (.tup [.str "here",.ref p])):Ev K H (n+1) (.ref h) th (.ok th):=⟨h,rfl,.inr (.inl ⟨_,z,rfl⟩)⟩
theorem Yae {K:PySem.W.Frag} {H:Hp} {h p i t b T:Addr} {bd:Int} {xs:List V} {ds:List (Option (List Int))} (hh:H h=some (.tup [.str "here",.ref p])) (hi:W8 H h bd i) (ht:H t=some (.tup [.str "each",.ref b])) (hb:H b=some (.tup [.ref h,.ref i])) (hT:Sq K H (.ref T) xs) (hI:Its K H xs ds):Ev K H 4 (.ref t) (.ref T) (oR "each" (du (p1 bd) ds)):=by
 obtain ⟨e,l,q,n,a1,a2,a3,a4,a5⟩:=hi
 have less:∀ j:Int,Ev K H 2 (.ref l) (.int j) (.ok (.bl (decide (j<bd)))):=fun j=>⟨l,rfl,.inr (.inr (.inr (.inl ⟨q,_,_,a3,a4,.inl ⟨j,bd,Y9 hh,⟨n,rfl,.inl ⟨bd,a5,rfl⟩⟩,rfl⟩⟩)))⟩
 refine ⟨t,rfl,.inr (.inr (.inr (.inr ⟨b,_,_,_,ht,hb,Y9 hh,.inl ⟨xs,hT,hI.alls (fun v ns hv=>?_) fun v hf=>?_⟩⟩)))⟩
 ·exact ⟨i,rfl,.inr (.inr (.inr (.inr ⟨e,_,_,v,a1,a2,Y9 hh,.inl ⟨_,hv,WG less ns⟩⟩)))⟩
 ·exact ⟨i,rfl,.inr (.inr (.inr (.inr ⟨e,_,_,v,a1,a2,Y9 hh,.inr ⟨hf,rfl⟩⟩)))⟩
theorem Yaf {K:PySem.W.Frag} {H:Hp} {h p f t b T:Addr} {xs:List V} {ds:List (Option (List Int))} (hh:H h=some (.tup [.str "here",.ref p])) (hf:W9 H h f) (ht:H t=some (.tup [.str "each",.ref b])) (hb:H b=some (.tup [.ref h,.ref f])) (hT:Sq K H (.ref T) xs) (hI:Its K H xs ds):Ev K H 4 (.ref t) (.ref T) (oR "count" (du p2 ds)):=by
 obtain ⟨q,c,n,a1,a2,a3,a4⟩:=hf
 refine ⟨t,rfl,.inr (.inr (.inr (.inr ⟨b,_,_,_,ht,hb,Y9 hh,.inl ⟨xs,hT,hI.alls (fun v ns hv=>?_) fun v hf=>?_⟩⟩)))⟩
 ·refine ⟨f,rfl,.inr (.inr (.inr (.inl ⟨q,_,_,a1,a2,.inl ⟨ns.length,4,⟨c,rfl,.inr (.inr (.inl ⟨_,v,a3,Y9 hh,.inl ⟨_,hv,by rw [List.length_map]⟩⟩))⟩,⟨n,rfl,.inl ⟨4,a4,rfl⟩⟩,?_⟩⟩)))⟩
  have e:p2 ns=decide ((ns.length:Int)<4):=by
   unfold p2
   by_cases c:ns.length<4
   ·rw [decide_eq_true c,decide_eq_true (by omega)]
   ·rw [decide_eq_false c,decide_eq_false (by omega)]
  rw [e]
 ·exact ⟨f,rfl,.inr (.inr (.inr (.inl ⟨q,_,_,a1,a2,.inr ⟨_,⟨c,rfl,.inr (.inr (.inl ⟨_,v,a3,Y9 hh,.inr ⟨hf,rfl⟩⟩))⟩,rfl⟩⟩)))⟩
theorem U6 {k:Nat} {Z0 Z1:Addr} (Z8:g.Fn k "_law_cell_at" ["_law_script","_law_k"] (Wx g.K)) (F_law_rows:g.Fn k "_law_rows" ["_law_script"] (Z03 g.K)) (F_law_due:g.Fn k "_law_due" ["_law_rows_here","_law_bound","_law_most"] (Z08 g.K)) (F_law_said:g.Fn k "_law_said" ["_law_term","_law_thing"] (Z02 g.K Z1)) (b_bool:g.mg "bool"=none) (Z2:g.mg "isinstance"=none) (b_len:g.mg "len"=none) (b_list:g.mg "list"=none) (ZC:g.mg "range"=none) (b_repr:g.mg "repr"=none) (Z3:g.mg "tuple"=none):WY g k ["_law_script","_law_bound","_law_rows_here","_law_at","_law_thing","_law_kept","_law_here","_law_inner","_law_fewer","_law_due_here","_law_terms","_law_k","_law_found"] "law" WQ (We g.K):=by
 refine fun f_ cdv A outer s H vs Q E hr h=>?_
 obtain ⟨a,ns,rfl,hS,hl,hQ⟩:=h
 refine ⟨_,(@Ye _ _ _ _ _ (@Yw _ _ (1) _ _ _ _ YD.nd rfl (.inl rfl) (@Yz _ _ _ _ _ _ _ _ Uc (@Yz _ _ _ _ _ _ _ _ Y1 (@Y2 _ _ _ _ _ _ _ _ _ _ _ _ Z8 hr (@Ya _ _ _ _ _ (pv 0) (@Ya _ _ _ _ _ Yh Yb (by rfl)) (by rfl)) (by omega) (by rfl) (by rfl) (by decide) (by rfl) (by rfl)) (@Yz _ _ _ _ _ _ _ _ Vz Yh (@Yz _ _ _ _ _ _ _ _ XO Yh Yh))) (@Yz _ _ _ _ _ _ _ _ XO Yh Yh)) (by rfl) (by first | exact .inl rfl | exact .inr rfl | assumption)) (@Ye _ _ _ _ _ (@Yt _ _ _ _ _ _ _ _ (@Yo _ _ _ _ _ _ _ _ YE (@Yz _ _ _ _ _ _ _ _ Y1 (@Y2 _ _ _ _ _ _ _ _ _ _ _ _ Z8 hr (@Ya _ _ _ _ _ (pv 0) (@Ya _ _ _ _ _ Yh Yb (by rfl)) (by rfl)) (by omega) (by rfl) (by rfl) (by decide) (by rfl) (by rfl)) Yh) Yh (Yq _)) (@Yf _ _ _ (@Yw _ _ (1) _ _ _ _ YD.nd rfl (.inl rfl) (@Yz _ _ _ _ _ _ _ _ XO Yh Yh) (by rfl) (by first | exact .inl rfl | exact .inr rfl | assumption))) Yk) (@Ye _ _ _ _ _ (@Yw _ _ (2) _ _ _ _ YD.nd rfl (.inl rfl) (@Y2 _ _ _ _ _ _ _ _ _ _ _ _ F_law_rows hr (@Ya _ _ _ _ _ (pv 0) Yb (by rfl)) (by omega) (by rfl) (by rfl) (by decide) (by rfl) (by rfl)) (by rfl) (by first | exact .inl rfl | exact .inr rfl | assumption)) (@Ye _ _ _ _ _ (@Yt _ _ _ _ _ _ _ _ (@Yo _ _ _ _ _ _ _ _ YE (@Yz _ _ _ _ _ _ _ _ Y1 (@Y2 _ _ _ _ _ _ _ _ _ _ _ _ Z8 hr (@Ya _ _ _ _ _ (pv 0) (@Ya _ _ _ _ _ Yh Yb (by rfl)) (by rfl)) (by omega) (by rfl) (by rfl) (by decide) (by rfl) (by rfl)) Yh) Yh (Yq _)) (@Ye _ _ _ _ _ (@Yw _ _ (3) _ _ _ _ YD.nd rfl (.inl rfl) (@Yz _ _ _ _ _ _ _ _ Y1 (@Yz _ _ _ _ _ _ _ _ X6 (@Y2 _ _ _ _ _ _ _ _ _ _ _ _ Z8 hr (@Ya _ _ _ _ _ (pv 0) (@Ya _ _ _ _ _ Yh Yb (by rfl)) (by rfl)) (by omega) (by rfl) (by rfl) (by decide) (by rfl) (by rfl)) Yh) (@Yz _ _ _ _ _ _ _ _ QZ (@YG _ _ _ _ _ _ _ _ _ _ b_len YL (@Ya _ _ _ _ _ (pv 2) Yb (by rfl)) (by decide +kernel) (by rfl) (by rfl) (by decide) (by decide) (by rfl) (by rfl)) Yh)) (by rfl) (by first | exact .inl rfl | exact .inr rfl | assumption)) (@Yf _ _ _ (@Yw _ _ (2) _ _ _ _ YD.nd rfl (.inl rfl) (@Yz _ _ _ _ _ _ _ _ Um (@Yz _ _ _ _ _ _ _ _ Um (@X5 _ _ _ _ _ _ _ _ _ _ Wr (pv 2) Vv (@XZ _ _ _ (pv 3))) (@YU _ _ _ _ (@Ya _ _ _ _ _ (@YH _ _ _ _ _ _ _ Y5 (@YU _ _ _ _ (@Ya _ _ _ _ _ Yh (@Ya _ _ _ _ _ Xv (@Ya _ _ _ _ _ Xn Yb (by rfl)) (by rfl)) (by rfl))) (@Yz _ _ _ _ _ _ _ _ Y1 (@Yz _ _ _ _ _ _ _ _ X6 (@Y2 _ _ _ _ _ _ _ _ _ _ _ _ Z8 hr (@Ya _ _ _ _ _ (pv 0) (@Ya _ _ _ _ _ Yh Yb (by rfl)) (by rfl)) (by omega) (by rfl) (by rfl) (by decide) (by rfl) (by rfl)) Yh) Yh) (fun _ _=>rfl)) Yb (by rfl)))) (@X5 _ _ _ _ _ _ _ _ _ _ Wr (pv 2) (@XZ _ _ _ (pv 3)) Vv)) (by rfl) (by first | exact .inl rfl | exact .inr rfl | assumption)))) Yk) (@Ye _ _ _ _ _ (@Yt _ _ _ _ _ _ _ _ (@Yo _ _ _ _ _ _ _ _ WM (@YG _ _ _ _ _ _ _ _ _ _ b_len YL (@Ya _ _ _ _ _ (pv 0) Yb (by rfl)) (by decide +kernel) (by rfl) (by rfl) (by decide) (by decide) (by rfl) (by rfl)) Yh (Yq _)) (@Yf _ _ _ (@Yw _ _ (2) _ _ _ _ YD.nd rfl (.inl rfl) (@YU _ _ _ _ Yb) (by rfl) (by first | exact .inl rfl | exact .inr rfl | assumption))) Yk) (@Ye _ _ _ _ _ (@Yw _ _ (4) _ _ _ _ YD.nd rfl (.inl rfl) (@VU _ _ _ _ _ _ _ _ _ _ b_list WW (@Ya _ _ _ _ _ (pv 2) Yb (by rfl)) (by decide +kernel) (by rfl) (by rfl) (by decide) (by decide) (by rfl) (by rfl)) (by rfl) (by first | exact .inl rfl | exact .inr rfl | assumption)) (@Ye _ _ _ _ _ (@Yt _ _ _ _ _ _ _ _ (@Yo _ _ _ _ _ _ _ _ YE (@Yz _ _ _ _ _ _ _ _ Y1 (@Y2 _ _ _ _ _ _ _ _ _ _ _ _ Z8 hr (@Ya _ _ _ _ _ (pv 0) (@Ya _ _ _ _ _ Yh Yb (by rfl)) (by rfl)) (by omega) (by rfl) (by rfl) (by decide) (by rfl) (by rfl)) Yh) Yh (Yq _)) (@Yf _ _ _ (@Yw _ _ (4) _ _ _ _ YD.nd rfl (.inl rfl) (@VU _ _ _ _ _ _ _ _ _ _ Z3 XI (@Ya _ _ _ _ _ (pv 2) Yb (by rfl)) (by decide +kernel) (by rfl) (by rfl) (by decide) (by decide) (by rfl) (by rfl)) (by rfl) (by first | exact .inl rfl | exact .inr rfl | assumption))) Yk) (@Ye _ _ _ _ _ (@Yw _ _ (5) _ _ _ _ YD.nd rfl (.inl rfl) (@YG _ _ _ _ _ _ _ _ _ _ b_repr (Wl (K:=g.K) hr) (@Ya _ _ _ _ _ (pv 4) Yb (by rfl)) (by decide +kernel) (by rfl) (by rfl) (by decide) (by decide) (by rfl) (by rfl)) (by rfl) (by first | exact .inl rfl | exact .inr rfl | assumption)) (@Ye _ _ _ _ _ (@Yw _ _ (6) _ _ _ _ YD.nd rfl (.inl rfl) (@Yx _ _ _ _ _ (@Ya _ _ _ _ _ Yn (@Ya _ _ _ _ _ (@Yx _ _ _ _ _ Yb) Yb (Yy _ _ _ _ _)) (by rfl))) (by rfl) (by first | exact .inl rfl | exact .inr rfl | assumption)) (@Ye _ _ _ _ _ (@Yw _ _ (7) _ _ _ _ YD.nd rfl (.inl rfl) (@Yx _ _ _ _ _ (@Ya _ _ _ _ _ Yn (@Ya _ _ _ _ _ (@Yx _ _ _ _ _ (@Ya _ _ _ _ _ (pv 6) (@Ya _ _ _ _ _ (@Yx _ _ _ _ _ (@Ya _ _ _ _ _ Yn (@Ya _ _ _ _ _ (@Yx _ _ _ _ _ (@Ya _ _ _ _ _ (pv 6) (@Ya _ _ _ _ _ (@Yx _ _ _ _ _ (@Ya _ _ _ _ _ Yn (@Ya _ _ _ _ _ (pv 1) Yb (by rfl)) (by rfl))) Yb (Yy _ _ _ _ _)) (by rfl))) Yb (Yy _ _ _ _ _)) (by rfl))) Yb (Yy _ _ _ _ _)) (by rfl))) Yb (Yy _ _ _ _ _)) (by rfl))) (by rfl) (by first | exact .inl rfl | exact .inr rfl | assumption)) (@Ye _ _ _ _ _ (@Yw _ _ (8) _ _ _ _ YD.nd rfl (.inl rfl) (@Yx _ _ _ _ _ (@Ya _ _ _ _ _ Yn (@Ya _ _ _ _ _ (@Yx _ _ _ _ _ (@Ya _ _ _ _ _ (@Yx _ _ _ _ _ (@Ya _ _ _ _ _ Yn (@Ya _ _ _ _ _ (pv 6) Yb (by rfl)) (by rfl))) (@Ya _ _ _ _ _ (@Yx _ _ _ _ _ (@Ya _ _ _ _ _ Yn (@Ya _ _ _ _ _ Yh Yb (by rfl)) (by rfl))) Yb (Yy _ _ _ _ _)) (Yy _ _ _ _ _))) Yb (Yy _ _ _ _ _)) (by rfl))) (by rfl) (by first | exact .inl rfl | exact .inr rfl | assumption)) (@Ye _ _ _ _ _ (@Yw _ _ (9) _ _ _ _ YD.nd rfl (.inl rfl) (@YU _ _ _ _ (@Ya _ _ _ _ _ (@Y2 _ _ _ _ _ _ _ _ _ _ _ _ F_law_due hr (@Ya _ _ _ _ _ (pv 2) (@Ya _ _ _ _ _ (pv 1) (@Ya _ _ _ _ _ Xv Yb (by rfl)) (by rfl)) (by rfl)) (by omega) (by rfl) (by rfl) (by decide) (by rfl) (by rfl)) (@Ya _ _ _ _ _ (@Y2 _ _ _ _ _ _ _ _ _ _ _ _ F_law_due hr (@Ya _ _ _ _ _ (pv 2) (@Ya _ _ _ _ _ (pv 1) (@Ya _ _ _ _ _ Yh Yb (by rfl)) (by rfl)) (by rfl)) (by omega) (by rfl) (by rfl) (by decide) (by rfl) (by rfl)) Yb (by rfl)) (by rfl))) (by rfl) (by first | exact .inl rfl | exact .inr rfl | assumption)) (@Ye _ _ _ _ _ (@Yw _ _ (10) _ _ _ _ YD.nd rfl (.inl rfl) (@YU _ _ _ _ (@Ya _ _ _ _ _ (@Yx _ _ _ _ _ (@Ya _ _ _ _ _ Yn (@Ya _ _ _ _ _ (@Yx _ _ _ _ _ (@Ya _ _ _ _ _ (pv 6) (@Ya _ _ _ _ _ (pv 7) Yb (by rfl)) (by rfl))) Yb (Yy _ _ _ _ _)) (by rfl))) (@Ya _ _ _ _ _ (@Yx _ _ _ _ _ (@Ya _ _ _ _ _ Yn (@Ya _ _ _ _ _ (@Yx _ _ _ _ _ (@Ya _ _ _ _ _ (pv 6) (@Ya _ _ _ _ _ (pv 8) Yb (by rfl)) (by rfl))) Yb (Yy _ _ _ _ _)) (by rfl))) Yb (Yy _ _ _ _ _)) (Yy _ _ _ _ _))) (by rfl) (by first | exact .inl rfl | exact .inr rfl | assumption)) (@Ye _ _ _ _ _ (@XN _ _ _ _ _ _ _ _ PassesOwn.never rfl (@V9 _ _ _ _ _ _ rfl ZC (@Ya _ _ _ _ _ Yh Yb (by rfl)) (by rfl)) (@Y4 _ _ (11) _ YD.nd rfl (.inl rfl) (by first | exact .inl rfl | exact .inr rfl | assumption)) (@Ye _ _ _ _ _ (@Yw _ _ (12) _ _ _ _ YD.nd rfl (.inl rfl) (@Y2 _ _ _ _ _ _ _ _ _ _ _ _ F_law_said hr (@Ya _ _ _ _ _ (@YH _ _ _ _ _ _ _ Y5 (pv 10) (pv 11) (fun _ _=>rfl)) (@Ya _ _ _ _ _ (pv 4) Yb (by rfl)) (by rfl)) (by omega) (by rfl) (by rfl) (by decide) (by rfl) (by rfl)) (by rfl) (by first | exact .inl rfl | exact .inr rfl | assumption)) (@Yf _ _ _ (@Yt _ _ _ _ _ _ _ _ (@Yo _ _ _ _ _ _ _ _ Ue (@YH _ _ _ _ _ _ _ Y5 (pv 9) (pv 11) (fun _ _=>rfl)) Xv (Yq _)) (@Yf _ _ _ (@Yt _ _ _ _ _ _ _ _ (@Yo _ _ _ _ _ _ _ _ (Q6 hr.units) (pv 12) (@Yx _ _ _ _ _ (@Ya _ _ _ _ _ Yn (@Ya _ _ _ _ _ (@YH _ _ _ _ _ _ _ Y5 (@YU _ _ _ _ (@Ya _ _ _ _ _ Yn (@Ya _ _ _ _ _ Yn Yb (by rfl)) (by rfl))) (pv 11) (fun _ _=>rfl)) Yb (by rfl)) (by rfl))) (Yq _)) (@Yf _ _ _ (@Yu _ _ _ _ Xn)) Yk)) (@Yf _ _ _ (@Yt _ _ _ _ _ _ _ _ (@U8 _ _ _ _ _ _ _ (@Yo _ _ _ _ _ _ _ _ Qd (@YH _ _ _ _ _ _ _ YV (pv 12) Yh (fun _ _=>rfl)) Yn (Yq _)) (@U8 _ _ _ _ _ _ _ (@Wb _ _ _ _ (@Xf _ _ _ (@YG _ _ _ _ _ _ _ _ _ _ Z2 YJ (@Ya _ _ _ _ _ (@YH _ _ _ _ _ _ _ YV (pv 12) Yh (fun _ _=>rfl)) (@Ya _ _ _ _ _ (@YR _ _ _ _ ("bool") b_bool (by decide +kernel) (by rfl) (by rfl) (by decide) (by decide)) Yb (by rfl)) (by rfl)) (by decide +kernel) (by rfl) (by rfl) (by decide) (by decide) (by rfl) (by rfl)) (by intro _;rfl))) (@QT _ _ _ _ (@Yo _ _ _ _ _ _ _ _ Qd (@YH _ _ _ _ _ _ _ YV (pv 12) Yh (fun _ _=>rfl)) (@YH _ _ _ _ _ _ _ Y5 (pv 9) (pv 11) (fun _ _=>rfl)) (Yq _))))).pt (@Yf _ _ _ (@Yu _ _ _ _ Xn)) Yk))))) (by intro _;rfl)) (@Yf _ _ _ (@Yu _ _ _ _ (@Vr _ _ _ _ _ _ _ _ YE (@YG _ _ _ _ _ _ _ _ _ _ b_repr (Wl (K:=g.K) hr) (@Ya _ _ _ _ _ (pv 4) Yb (by rfl)) (by decide +kernel) (by rfl) (by rfl) (by decide) (by decide) (by rfl) (by rfl)) (pv 5) (Yq _)))))))))))))))))),?_⟩
 refine cut2 (fun σ H'=>H'=H∧∃ bd:Int,σ=[some (.ref a),some (.int bd),none,none,none,none,none,none,none,none,none,none,none]) ?_ ?_
 rotate_left
 ·intro N hN
  walk_at "rd"
  have cmm:Qm 2 (10^Int.toNat 30) := .inl (cm (m:=2) (n:=200) (by decide) (by decide +kernel))
  exact ⟨a,ns,1,rfl,hS,hl,W7,cmm,_,rfl,by decide +kernel,W7,a,ns,1,rfl,hS,hl,_,rfl,by decide,Xt (fun c=>⟨W7,hN _ _ ⟨rfl,_,rfl⟩⟩) fun c=>hN _ _ ⟨rfl,_,rfl⟩⟩
 rintro σ H0 ⟨rfl,bd,rfl⟩
 refine Xu (fun σ H1=>Yd H0 H1∧∃ L xs ds,σ=[some (.ref a),some (.int bd),some (.ref L),none,none,none,none,none,none,none,none,none,none]∧H1 L=some (.lst xs)∧Its g.K H1 xs ds∧xs.length≤64) ?_ ?_
 rotate_left
 ·intro N hN
  walk_at "rd"
  exact ⟨a,ns,rfl,hS,hl,fun L xs ds H1 s hL hI hx=>hN _ _ ⟨s,L,xs,ds,rfl,hL,hI,hx⟩⟩
 rintro σ H1 ⟨s1,L,xs,ds,rfl,hL,hI,hn⟩
 refine Xu (fun σ H2=>Yd H1 H2∧∃ L xs ds o,σ=[some (.ref a),some (.int bd),some (.ref L),o,none,none,none,none,none,none,none,none,none]∧H2 L=some (.lst xs)∧Its g.K H2 xs ds∧xs.length≤65) ?_ ?_
 rotate_left
 ·intro N hN
  walk_at "rd"
  have e2:∀ {H':Hp},Yd H1 H'→∀ (R:VK),R (.int (ns.getD 2 0)) H'→Wx g.K [V.ref a,V.int 2] H' R E0:=fun s R r=>⟨a,ns,2,rfl,(s1.trans s).seq hS,hl,r⟩
  generalize ns.getD 2 0=z at e2
  have e63:∃ v,atI [V.int 7,V.non,V.bl true] (z / 63%3)=some v∧Fl v:=by
   rcases (show z / 63%3=0∨z / 63%3=1∨z / 63%3=2 by omega) with e | e | e
   ·rw [e];exact ⟨.int 7,rfl,.inl rfl⟩
   ·rw [e];exact ⟨.non,rfl,.inr (.inr rfl)⟩
   ·rw [e];exact ⟨.bl true,rfl,.inr (.inl rfl)⟩
  obtain ⟨k,hk,hkl⟩:∃ k:Nat,z / 3%((xs.length:Int)+1)=k∧k≤xs.length:=by
   have h1:=Int.emod_nonneg (z / 3) (show ((xs.length:Int)+1)≠0 by omega)
   have h2:=Int.emod_lt_of_pos (z / 3) (show (0:Int)<(xs.length:Int)+1 by omega)
   exact ⟨(z / 3%((xs.length:Int)+1)).toNat,by omega,by omega⟩
  refine e2 (.refl _) _ ⟨_,rfl,by decide,Xt (fun c=>e2 (.refl _) _ ⟨_,rfl,WD (by decide) (by decide),xs,.inl (SqL.of hL),by omega,xs,SqL.of hL,fun p hp=>⟨by decide,fun p1 hp1=>?_⟩⟩) fun c=>hN _ _ ⟨.refl _,L,xs,ds,none,rfl,hL,hI,by omega⟩⟩
  obtain ⟨v,hv,fv⟩:=e63
  rw [hk] at hp1 ⊢
  rw [QC] at hp1 ⊢
  have t1:=Yd.upd_new hp1 (HO.lst [V.int 7,V.non,V.bl true])
  have t0:=Yd.upd_new hp (HO.lst (xs.take k))
  refine e2 (t0.trans t1) _ ⟨_,rfl,WD (by decide) (by decide),by decide,_,SqL.of Yc,v,hv,by decide,fun p2 hp2=>?_⟩
  have t2:=Yd.upd_new hp2 (HO.lst [v])
  refine ⟨_,t2 _ _ (t1 _ _ Yc),[v],Yc,?_,fun p3 hp3=>?_⟩
  ·rw [sizeLine_eq,List.length_take]
   simp
   omega
  ·have t3:=Yd.upd_new hp3 (HO.lst (xs.take k++[v]))
   have sL:=((t0.trans t1).trans t2).trans t3
   refine ⟨xs,SqL.of (sL _ _ hL),fun p4 hp4=>?_⟩
   rw [QD]
   have t4:=Yd.upd_new hp4 (HO.lst (xs.drop k))
   refine ⟨_,t4 _ _ Yc,_,Yc,?_,fun p5 hp5=>hN _ _ ⟨sL.trans (t4.trans (Yd.upd_new hp5 _)),p5,_,_,_,rfl,Yc,(VF (VF (U4 hI k) (.fl fv .nil)) (U5 hI k)).keep (sL.trans (t4.trans (Yd.upd_new hp5 _))),?_⟩⟩
   ·rw [sizeLine_eq]
    simp
    omega
   ·simp
    omega
 rintro σ H2 ⟨s2,L,xs,ds,o,rfl,hL,hI,hn⟩
 refine Xu (fun σ H3=>Yd H2 H3∧∃ L xs ds,σ=[some (.ref a),some (.int bd),some (.ref L),o,none,none,none,none,none,none,none,none,none]∧H3 L=some (.lst xs)∧Its g.K H3 xs ds∧xs.length≤65) ?_ ?_
 rotate_left
 ·intro N hN
  walk_at "rd"
  refine ⟨_,.inl (((s1.trans s2)).seq hS),Xt (fun c=>⟨by decide,fun p hp=>hN _ _ ⟨Yd.upd_new hp _,p,[],[],rfl,Yc,.nil,by decide⟩⟩) fun c=>hN _ _ ⟨.refl _,L,xs,ds,rfl,hL,hI,hn⟩⟩
 rintro σ H3 ⟨s3,L,xs,ds,rfl,hL,hI,hn⟩
 refine cut2 (fun σ H4=>Yd H3 H4∧∃ (T:Addr) (l:Bool),σ=[some (.ref a),some (.int bd),some (.ref L),o,some (.ref T),none,none,none,none,none,none,none,none]∧(if l then H4 T=some (.lst xs) else H4 T=some (.tup xs))) ?_ ?_
 rotate_left
 ·intro N hN
  walk_at "rd"
  refine ⟨xs,.inl (SqL.of hL),fun l hl'=>?_⟩
  have t0:=Yd.upd_new hl' (HO.lst xs)
  exact ⟨a,ns,0,rfl,((s1.trans s2).trans (s3.trans t0)).seq hS,hl,_,rfl,by decide,Xt (fun c=>⟨xs,.inl ⟨SqL.of (t0 _ _ hL),fun l2 hl2=>hN _ _ ⟨t0.trans (Yd.upd_new hl2 _),l2,false,rfl,Yc⟩⟩⟩) fun c=>hN _ _ ⟨t0,l,true,rfl,Yc⟩⟩
 rintro σ H4 ⟨s4,T,l,rfl,hT⟩
 have hI4:=hI.keep s4
 obtain ⟨d,hd,sh,dp,sz⟩:=Vl l hT hI4 hn
 have hsq:Sq g.K H4 (.ref T) xs:=by
  cases l with
  | true=>exact ⟨T,rfl,.inl hT⟩
  | false=>exact ⟨T,rfl,.inr hT⟩
 refine Xu (fun σ H5=>H5=H4∧σ=[some (.ref a),some (.int bd),some (.ref L),o,some (.ref T),some (.str d.shown),none,none,none,none,none,none,none]) ?_ ?_
 rotate_left
 ·intro N hN
  walk_at "rd"
  exact ⟨d,hd,sh,dp,sz,hN _ _ ⟨rfl,rfl⟩⟩
 rintro σ H5 ⟨rfl,rfl⟩
 refine Xu (fun σ H6=>Yd H5 H6∧∃ h p,σ=[some (.ref a),some (.int bd),some (.ref L),o,some (.ref T),some (.str d.shown),some (.ref h),none,none,none,none,none,none]∧H6 h=some (.tup [.str "here",.ref p])) ?_ ?_
 rotate_left
 ·intro N hN
  walk_at "rd"
  exact ⟨by decide,fun p hp=>⟨by decide,fun h hh=>hN _ _ ⟨(Yd.upd_new hp _).trans (Yd.upd_new hh _),h,p,rfl,Yc⟩⟩⟩
 rintro σ H6 ⟨s6,h,p,rfl,hh⟩
 refine Xu (fun σ H7=>Yd H6 H7∧∃ i,σ=[some (.ref a),some (.int bd),some (.ref L),o,some (.ref T),some (.str d.shown),some (.ref h),some (.ref i),none,none,none,none,none]∧W8 H7 h bd i) ?_ ?_
 rotate_left
 ·intro N hN
  walk_at "rd"
  refine ⟨by decide,fun q1 h1=>⟨by decide,fun q2 h2=>⟨by decide,fun q3 h3=>⟨by decide,fun q4 h4=>⟨by decide,fun q5 h5=>?_⟩⟩⟩⟩⟩
  have t1:=Yd.upd_new h1 (HO.tup [V.str (Str.ofString "num"),V.int bd])
  have t2:=Yd.upd_new h2 (HO.tup [V.ref h,V.ref q1])
  have t3:=Yd.upd_new h3 (HO.tup [V.str (Str.ofString "less"),V.ref q2])
  have t4:=Yd.upd_new h4 (HO.tup [V.ref h,V.ref q3])
  have t5:=Yd.upd_new h5 (HO.tup [V.str (Str.ofString "each"),V.ref q4])
  exact hN _ _ ⟨((t1.trans t2).trans (t3.trans t4)).trans t5,q5,rfl,q4,q3,q2,q1,Yc,t5 _ _ Yc,t5 _ _ (t4 _ _ Yc),t5 _ _ (t4 _ _ (t3 _ _ Yc)),t5 _ _ (t4 _ _ (t3 _ _ (t2 _ _ Yc)))⟩
 rintro σ H7 ⟨s7,i,rfl,hi⟩
 refine Xu (fun σ H8=>Yd H7 H8∧∃ f,σ=[some (.ref a),some (.int bd),some (.ref L),o,some (.ref T),some (.str d.shown),some (.ref h),some (.ref i),some (.ref f),none,none,none,none]∧W9 H8 h f) ?_ ?_
 rotate_left
 ·intro N hN
  walk_at "rd"
  refine ⟨by decide,fun q1 h1=>⟨by decide,fun q2 h2=>⟨by decide,fun q3 h3=>⟨by decide,fun q4 h4=>?_⟩⟩⟩⟩
  have t1:=Yd.upd_new h1 (HO.tup [V.str (Str.ofString "count"),V.ref h])
  have t2:=Yd.upd_new h2 (HO.tup [V.str (Str.ofString "num"),V.int 4])
  have t3:=Yd.upd_new h3 (HO.tup [V.ref q1,V.ref q2])
  have t4:=Yd.upd_new h4 (HO.tup [V.str (Str.ofString "less"),V.ref q3])
  exact hN _ _ ⟨(t1.trans t2).trans (t3.trans t4),q4,rfl,q3,q1,q2,Yc,t4 _ _ Yc,t4 _ _ (t3 _ _ (t2 _ _ Yc)),t4 _ _ (t3 _ _ Yc)⟩
 rintro σ H8 ⟨s8,f,rfl,hf⟩
 refine Xu (fun σ H9=>Yd H8 H9∧∃ DL,σ=[some (.ref a),some (.int bd),some (.ref L),o,some (.ref T),some (.str d.shown),some (.ref h),some (.ref i),some (.ref f),some (.ref DL),none,none,none]∧H9 DL=some (.lst [oV (du (p1 bd) ds),oV (du p2 ds)])) ?_ ?_
 rotate_left
 ·intro N hN
  walk_at "rd"
  have T8:=s4.trans (s6.trans (s7.trans s8))
  have hI8:=hI.keep T8
  have hL8:=T8 _ _ hL
  exact ⟨L,xs,ds,bd,.non,p1 bd,rfl,SqL.of hL8,hI8,.inl ⟨rfl,rfl⟩,fun Hx sx=>⟨L,xs,ds,bd,.int 4,p2,rfl,SqL.of (sx _ _ hL8),hI8.keep sx,.inr ⟨rfl,rfl⟩,fun Hy sy=>⟨by decide,fun p hp=>hN _ _ ⟨(sx.trans sy).trans (Yd.upd_new hp _),p,rfl,Yc⟩⟩⟩⟩
 rintro σ H9 ⟨s9,DL,rfl,hDL⟩
 refine Xu (fun σ Ha=>Yd H9 Ha∧∃ TL t1 t2 b1 b2:Addr,σ=[some (.ref a),some (.int bd),some (.ref L),o,some (.ref T),some (.str d.shown),some (.ref h),some (.ref i),some (.ref f),some (.ref DL),some (.ref TL),none,none]∧Ha TL=some (.lst [.ref t1,.ref t2])∧Ha t1=some (.tup [.str "each",.ref b1])∧Ha b1=some (.tup [.ref h,.ref i])∧Ha t2=some (.tup [.str "each",.ref b2])∧Ha b2=some (.tup [.ref h,.ref f])) ?_ ?_
 rotate_left
 ·intro N hN
  walk_at "rd"
  refine ⟨by decide,fun q1 h1=>⟨by decide,fun q2 h2=>⟨by decide,fun q3 h3=>⟨by decide,fun q4 h4=>⟨by decide,fun q5 h5=>?_⟩⟩⟩⟩⟩
  have t1:=Yd.upd_new h1 (HO.tup [V.ref h,V.ref i])
  have t2:=Yd.upd_new h2 (HO.tup [V.str (Str.ofString "each"),V.ref q1])
  have t3:=Yd.upd_new h3 (HO.tup [V.ref h,V.ref f])
  have t4:=Yd.upd_new h4 (HO.tup [V.str (Str.ofString "each"),V.ref q3])
  have t5:=Yd.upd_new h5 (HO.lst [V.ref q2,V.ref q4])
  exact hN _ _ ⟨((t1.trans t2).trans (t3.trans t4)).trans t5,q5,q2,q4,q1,q3,rfl,Yc,t5 _ _ (t4 _ _ (t3 _ _ Yc)),t5 _ _ (t4 _ _ (t3 _ _ (t2 _ _ Yc))),t5 _ _ Yc,t5 _ _ (t4 _ _ Yc)⟩
 rintro σ Ha ⟨sa,TL,t1,t2,b1,b2,rfl,hTL,c1,c2,c3,c4⟩
 have S8:=s8.trans (s9.trans sa)
 have S7:=s7.trans S8
 have S6:=s6.trans S7
 have E1:=Yae (S7 _ _ hh) (hi.keep S8) c1 c2 (hsq.keep S6) (hI4.keep S6)
 have E2:=Yaf (S7 _ _ hh) (hf.keep (s9.trans sa)) c3 c4 (hsq.keep S6) (hI4.keep S6)
 have hDa:=sa _ _ hDL
 have hda:=hd.keep S6
 refine Xu (fun σ Hb=>Yd Ha Hb∧∃ o1 o2,σ=[some (.ref a),some (.int bd),some (.ref L),o,some (.ref T),some (.str d.shown),some (.ref h),some (.ref i),some (.ref f),some (.ref DL),some (.ref TL),o1,o2]) ?_ ?_
 rotate_left
 ·intro N hN
  refine Vd (n:=2) (fun j σ Hb=>Yd Ha Hb∧∃ o1 o2,σ=[some (.ref a),some (.int bd),some (.ref L),o,some (.ref T),some (.str d.shown),some (.ref h),some (.ref i),some (.ref f),some (.ref DL),some (.ref TL),o1,o2]) (fun R r=>r) (by decide) ⟨.refl _,none,none,rfl⟩ (fun j σ Hb hj z=>?_) fun σ Hb z=>hN _ _ z
  obtain ⟨sb,o1,o2,rfl⟩:=z
  obtain ⟨t,mk,ob,ht,hm,ho,hE⟩:∃ t mk ob,[V.ref t1,V.ref t2][j]?=some (.ref t)∧[V.str "each",V.str "count"][j]?=some (.str mk)∧[oV (du (p1 bd) ds),oV (du p2 ds)][j]?=some (oV ob)∧Ev g.K Hb 4 (.ref t) (.ref T) (oR mk ob)∧PyData.strOk mk=true:=by
   match j,hj with
   | 0,_=>exact ⟨t1,"each",_,rfl,rfl,rfl,E1.keep sb,by decide +kernel⟩
   | 1,_=>exact ⟨t2,"count",_,rfl,rfl,rfl,E2.keep sb,by decide +kernel⟩
  obtain ⟨hE,hok⟩:=hE
  walk_at "rd"
  refine ⟨_,SqL.of (sb _ _ hTL),_,Xy ht,_,_,mk,ob,rfl,hE,fun q Hc sc hq=>?_⟩
  refine ⟨_,SqL.of (sc _ _ (sb _ _ hDa)),_,Xy ho,?_⟩
  cases ob with
  | none =>
   refine XR rfl ?_
   refine ⟨by decide,fun p hp=>⟨_,SqL.of Yc,_,Xy hm,by decide,fun p1 hp1=>?_⟩⟩
   have t1:=Yd.upd_new hp (HO.lst [V.str (Str.ofString "each"),V.str (Str.ofString "count")])
   have t2:=Yd.upd_new hp1 (HO.tup [V.str (Str.ofString "astray"),V.str mk])
   have oka:PyData.strOk (Str.ofString "astray")=true:=by decide +kernel
   refine ⟨.tuple [.str "astray",.str mk],.tup (SqT.of (t2 _ _ (t1 _ _ hq))) (.cons (.str _ oka) (.cons (.str _ hok) .nil)),.tuple [.str "astray",.str mk],.tup (SqT.of Yc) (.cons (.str _ oka) (.cons (.str _ hok) .nil)),?_,YT ?_ ((sb.trans sc).trans (t1.trans t2))⟩
   ·simp [PyData.depth,PyData.depthAll]
   ·simp [PyData.eqv,PyData.eqvAll]
  | some b =>
   refine YT (by intro z;cases z) ?_
   exact ⟨q,rfl,_,SqT.of hq,_,rfl,rfl,YT (fun z=>z rfl) ⟨q,rfl,_,SqT.of hq,_,rfl,_,rfl,_,.bl b,true,rfl,YT (by decide) ⟨q,rfl,_,SqT.of hq,_,rfl,_,SqL.of (sc _ _ (sb _ _ hDa)),_,Xy ho,rfl,YT (fun z=>z rfl) (sb.trans sc)⟩⟩⟩
 rintro σ Hb ⟨sb,o1,o2,rfl⟩
 walk_at "rd"
 refine ⟨d,hda.keep sb,sh,dp,sz,?_⟩
 rw [decide_eq_true rfl]
 exact hQ _
theorem us1 {α:Type} {us:List α} (h:us.length=1):∃ a0,us=[a0]:=by
 match us,h with
 | [a0],_=>exact ⟨_,rfl⟩
theorem us2 {α:Type} {us:List α} (h:us.length=2):∃ a0 a1,us=[a0,a1]:=by
 match us,h with
 | [a0,a1],_=>exact ⟨_,_,rfl⟩
theorem us3 {α:Type} {us:List α} (h:us.length=3):∃ a0 a1 a2,us=[a0,a1,a2]:=by
 match us,h with
 | [a0,a1,a2],_=>exact ⟨_,_,_,rfl⟩
theorem us4 {α:Type} {us:List α} (h:us.length=4):∃ a0 a1 a2 a3,us=[a0,a1,a2,a3]:=by
 match us,h with
 | [a0,a1,a2,a3],_=>exact ⟨_,_,_,_,rfl⟩
structure Top (K:PySem.W.Frag) (mg:Str→Option Value) (Z0:Addr) (Z1:Addr):Prop where
 f_copied:∀ P w base,(Gx.mk P w K mg base).Raw "copied" "copied" X9 ["thing"]
 Zi:∀ P w base,(Gx.mk P w K mg base).Raw "is_whole_number" "is_whole_number" Zg ["thing"]
 ZJ:∀ P w base,(Gx.mk P w K mg base).Raw "is_truth" "is_truth" ZD ["thing"]
 Zf:∀ P w base,(Gx.mk P w K mg base).Raw "is_list_or_tuple" "is_list_or_tuple" Ze ["thing"]
 Z7:∀ P w base,(Gx.mk P w K mg base).Raw "is_list_tuple_or_text" "is_list_tuple_or_text" Z6 ["thing"]
 Zv:∀ P w base,(Gx.mk P w K mg base).Raw "taken" "taken" Wv ["mark","term","thing","can_take"]
 Z5:∀ P w base,(Gx.mk P w K mg base).Raw "numbers_told" "numbers_told" Zo ["mark","body","thing"]
 Zc:∀ P w base,(Gx.mk P w K mg base).Raw "each_told" "each_told" ZA ["body","thing"]
 f_told:∀ P w base,(Gx.mk P w K mg base).Raw "told" "told" W5 ["term","thing"]
 f_said:∀ P w base,(Gx.mk P w K mg base).Raw "said" "said" W6 ["term","thing"]
 Zs:∀ P w base,(Gx.mk P w K mg base).Raw "_law_cell_at" "_law_cell_at" Zr ["_law_script","_law_k"]
 ZV:∀ P w base,(Gx.mk P w K mg base).Raw "_law_due" "_law_due" ZQ ["_law_rows_here","_law_bound","_law_most"]
 ZK:∀ P w base,(Gx.mk P w K mg base).Raw "_law_said" "_law_said" ZG ["_law_term","_law_thing"]
 ZL:∀ P w base,(Gx.mk P w K mg base).Raw "_law_rows" "_law_rows" ZE ["_law_script"]
 b_bool:mg "bool"=none
 b_dict:mg "dict"=none
 Zk:mg "enumerate"=none
 b_int:mg "int"=none
 Z2:mg "isinstance"=none
 b_len:mg "len"=none
 b_list:mg "list"=none
 ZC:mg "range"=none
 b_repr:mg "repr"=none
 b_str:mg "str"=none
 Z3:mg "tuple"=none
 x_CountError:mg "CountError"=some (.ref Z0)
 x_Astray:mg "Astray"=some (.ref Z1)
 t_Astray:ExcT K Z1
 xi_Astray:∀ P w base,(Gx.mk P w K mg base).RawX "Astray" Z1 "Astray.__init__" Zh ["self","mark"]
 xf_Astray:ExFl K Z1 Z0
 xn_Astray_mark:PySem.W.findIn K (.ref Z1) "mark"=some none
 bi_CountError:∀ P w base,BInit (Gx.mk P w K mg base) "CountError" Z0
 m_Astray_Astray:PySem.W.exmOne K (.ref Z1) (.ref Z1)=some true
theorem U7 {K:PySem.W.Frag} {mg:Str→Option Value} {Z0 Z1:Addr}  (t:Top K mg Z0 Z1) (P:Program) (w:World) (base:Heap) :
  WY (Gx.mk P w K mg base) 16 ["_law_script","_law_bound","_law_rows_here","_law_at","_law_thing","_law_kept","_law_here","_law_inner","_law_fewer","_law_due_here","_law_terms","_law_k","_law_found"] "law" WQ (We K):=by
 have Za:=ZS (g:=Gx.mk P w K mg base) (t.xi_Astray P w base) (t.bi_CountError P w base) t.xf_Astray t.xn_Astray_mark
 have G_copied:=UB (g:=Gx.mk P w K mg base) (Z0:=Z0) (Z1:=Z1) (t.f_copied P w base) t.b_dict t.Z2 t.b_list t.Z3
 have Zb:=ZT (g:=Gx.mk P w K mg base) (Z0:=Z0) (Z1:=Z1) (t.Zi P w base) t.b_bool t.b_int t.Z2
 have Zu:=Vi (g:=Gx.mk P w K mg base) (Z0:=Z0) (Z1:=Z1) (t.ZJ P w base) t.b_bool t.Z2
 have Z9:=ZN (g:=Gx.mk P w K mg base) (Z0:=Z0) (Z1:=Z1) (t.Zf P w base) t.Z2 t.b_list t.Z3
 have Z4:=Zx (g:=Gx.mk P w K mg base) (Z0:=Z0) (Z1:=Z1) (t.Z7 P w base) t.Z2 t.b_list t.b_str t.Z3
 have ZW:=ZI (g:=Gx.mk P w K mg base) (m:=0) (k:=2) (Z0:=Z0) (Z1:=Z1) (t.Zv P w base) ((t.f_told P w base).noneX (fun _ _ _ _ h=>QN h)) (by decide) Za (by decide)
 have Z04:=Zd (g:=Gx.mk P w K mg base) (m:=0) (k:=3) (Z0:=Z0) (Z1:=Z1) (t.Z5 P w base) (Zb.mono (by decide)) (ZW.mono (by decide)) (by decide)
 have G_each_told_0:=Zn (g:=Gx.mk P w K mg base) (m:=0) (k:=3) (Z0:=Z0) (Z1:=Z1) (t.Zc P w base) (Zu.mono (by decide)) (Z9.mono (by decide)) (ZW.mono (by decide)) (by decide)
 have G_told_1:=X1 (g:=Gx.mk P w K mg base) (m:=0) (k:=4) (Z0:=Z0) (Z1:=Z1) (t.f_told P w base) (Z4.mono (by decide)) (ZW.mono (by decide)) (Z04.mono (by decide)) (G_each_told_0.mono (by decide)) (by decide) t.b_len
 have ZX:=ZI (g:=Gx.mk P w K mg base) (m:=1) (k:=5) (Z0:=Z0) (Z1:=Z1) (t.Zv P w base) (G_told_1.mono (by decide)) (by decide) Za (by decide)
 have Z05:=Zd (g:=Gx.mk P w K mg base) (m:=1) (k:=6) (Z0:=Z0) (Z1:=Z1) (t.Z5 P w base) (Zb.mono (by decide)) (ZX.mono (by decide)) (by decide)
 have G_each_told_1:=Zn (g:=Gx.mk P w K mg base) (m:=1) (k:=6) (Z0:=Z0) (Z1:=Z1) (t.Zc P w base) (Zu.mono (by decide)) (Z9.mono (by decide)) (ZX.mono (by decide)) (by decide)
 have G_told_2:=X1 (g:=Gx.mk P w K mg base) (m:=1) (k:=7) (Z0:=Z0) (Z1:=Z1) (t.f_told P w base) (Z4.mono (by decide)) (ZX.mono (by decide)) (Z05.mono (by decide)) (G_each_told_1.mono (by decide)) (by decide) t.b_len
 have ZY:=ZI (g:=Gx.mk P w K mg base) (m:=2) (k:=8) (Z0:=Z0) (Z1:=Z1) (t.Zv P w base) (G_told_2.mono (by decide)) (by decide) Za (by decide)
 have Z06:=Zd (g:=Gx.mk P w K mg base) (m:=2) (k:=9) (Z0:=Z0) (Z1:=Z1) (t.Z5 P w base) (Zb.mono (by decide)) (ZY.mono (by decide)) (by decide)
 have G_each_told_2:=Zn (g:=Gx.mk P w K mg base) (m:=2) (k:=9) (Z0:=Z0) (Z1:=Z1) (t.Zc P w base) (Zu.mono (by decide)) (Z9.mono (by decide)) (ZY.mono (by decide)) (by decide)
 have G_told_3:=X1 (g:=Gx.mk P w K mg base) (m:=2) (k:=10) (Z0:=Z0) (Z1:=Z1) (t.f_told P w base) (Z4.mono (by decide)) (ZY.mono (by decide)) (Z06.mono (by decide)) (G_each_told_2.mono (by decide)) (by decide) t.b_len
 have ZZ:=ZI (g:=Gx.mk P w K mg base) (m:=3) (k:=11) (Z0:=Z0) (Z1:=Z1) (t.Zv P w base) (G_told_3.mono (by decide)) (by decide) Za (by decide)
 have Z07:=Zd (g:=Gx.mk P w K mg base) (m:=3) (k:=12) (Z0:=Z0) (Z1:=Z1) (t.Z5 P w base) (Zb.mono (by decide)) (ZZ.mono (by decide)) (by decide)
 have G_each_told_3:=Zn (g:=Gx.mk P w K mg base) (m:=3) (k:=12) (Z0:=Z0) (Z1:=Z1) (t.Zc P w base) (Zu.mono (by decide)) (Z9.mono (by decide)) (ZZ.mono (by decide)) (by decide)
 have G_told:=X1 (g:=Gx.mk P w K mg base) (m:=3) (k:=13) (Z0:=Z0) (Z1:=Z1) (t.f_told P w base) (Z4.mono (by decide)) (ZZ.mono (by decide)) (Z07.mono (by decide)) (G_each_told_3.mono (by decide)) (by decide) t.b_len
 have G_said:=QO (g:=Gx.mk P w K mg base) (k:=14) (Z0:=Z0) (Z1:=Z1) (t.f_said P w base) (G_copied.mono (by decide)) (G_told.mono (by decide))
 have G_law_cell_at:=Z0b (g:=Gx.mk P w K mg base) (Z0:=Z0) (Z1:=Z1) (t.Zs P w base) t.b_len
 have G_law_due:=V0 (g:=Gx.mk P w K mg base) (Z0:=Z0) (Z1:=Z1) (t.ZV P w base) t.Z2 t.b_len t.b_list t.Z3
 have G_law_said:=Vj (g:=Gx.mk P w K mg base) (k:=15) (Z0:=Z0) (Z1:=Z1) (t.ZK P w base) (G_said.mono (by decide)) t.xn_Astray_mark t.x_Astray t.t_Astray t.m_Astray_Astray
 have G_law_rows:=Vk (g:=Gx.mk P w K mg base) (Z0:=Z0) (Z1:=Z1) (t.ZL P w base) t.Zk t.b_len t.Z3
 exact U6 (g:=Gx.mk P w K mg base) (k:=16) (Z0:=Z0) (Z1:=Z1) (G_law_cell_at.mono (by decide)) (G_law_rows.mono (by decide)) (G_law_due.mono (by decide)) (G_law_said.mono (by decide)) t.b_bool t.Z2 t.b_len t.b_list t.ZC t.b_repr t.Z3
end KW
theorem PySem.W.Fast.tw13588011666479778391:True:=trivial
theorem PySem.W.Fast.tw9345278074937083781:True:=trivial
theorem PySem.W.Fast.tw5851877863312515613:True:=trivial
theorem PySem.W.Fast.tw4663412734961883224:True:=trivial
theorem PySem.W.Fast.tw2267111029549235466:True:=trivial
theorem PySem.W.Fast.tw2016030214502696260:True:=trivial
theorem PySem.W.Fast.tw2319575389073183930:True:=trivial
theorem PySem.W.Fast.tw13812579666781066945:True:=trivial
theorem PySem.W.Fast.tw1713186402194010454:True:=trivial
theorem PySem.W.Fast.tw7778569768407068198:True:=trivial
theorem PySem.W.Fast.tw3585448045878860751:True:=trivial
theorem PySem.W.Fast.tw17852473094322635507:True:=trivial
theorem PySem.W.Fast.tw10522525405844877568:True:=trivial
theorem PySem.W.Fast.tw5862814945911126666:True:=trivial
open PySem PySem.W PyProof.Rows
set_option maxRecDepth 100000 in
set_option maxHeartbeats 0 in
theorem PySem.Challenge.cw_countgen_k54_each_said_holds : PySem.Challenge.rw_countgen_k54_each_said.Holds := by
 w_on;o_law;k_head;(case hw=>w_witness2)
 k_fill
 refine L2.Qy (l:=PySem.Challenge.rw_countgen_k54_each_said) 16 "_law_script" KW.WQ ["_law_script","_law_bound","_law_rows_here","_law_at","_law_thing","_law_kept","_law_here","_law_inner","_law_fewer","_law_due_here","_law_terms","_law_k","_law_found"] rfl rfl ⟨rfl,by decide,by decide,rfl⟩ KW.YD (fun w h Y=>by first | exact PySem.W.kIn_of Y | exact PySem.W.km_in_of Y) ?F
 case F =>
  intro w mg h KX G
  refine' ⟨L2.Ut KX G ?a ?l ?c ?k (fun _ _ _ _ _ _ _ _ => .of_eq rfl),fun base=>KW.U7 ⟨?f_copied,?Zi,?ZJ,?Zf,?Z7,?Zv,?Z5,?Zc,?f_told,?f_said,?Zs,?ZV,?ZK,?ZL,?b_bool,?b_dict,?Zk,?b_int,?Z2,?b_len,?b_list,?ZC,?b_repr,?b_str,?Z3,?x_CountError,?x_Astray,?t_Astray,?xi_Astray,?xf_Astray,?xn_Astray_mark,?bi_CountError,?m_Astray_Astray⟩ _ w base⟩
  (case a=>k_is)
  (case l=>k_is)
  (case c=>k_is)
  (case k=>k_is)
  case f_copied =>
   refine' L2.YI KX G ["thing"] ?a ?l ?c ?k (fun _ _ _ _ _ _ us hl=>by obtain ⟨_,rfl⟩:=KW.us1 hl;rfl)
   (case a=>k_is)
   (case l=>k_is)
   (case c=>k_is)
   (case k=>k_is)
  case Zi =>
   refine' L2.YI KX G ["thing"] ?a ?l ?c ?k (fun _ _ _ _ _ _ us hl=>by obtain ⟨_,rfl⟩:=KW.us1 hl;rfl)
   (case a=>k_is)
   (case l=>k_is)
   (case c=>k_is)
   (case k=>k_is)
  case ZJ =>
   refine' L2.YI KX G ["thing"] ?a ?l ?c ?k (fun _ _ _ _ _ _ us hl=>by obtain ⟨_,rfl⟩:=KW.us1 hl;rfl)
   (case a=>k_is)
   (case l=>k_is)
   (case c=>k_is)
   (case k=>k_is)
  case Zf =>
   refine' L2.YI KX G ["thing"] ?a ?l ?c ?k (fun _ _ _ _ _ _ us hl=>by obtain ⟨_,rfl⟩:=KW.us1 hl;rfl)
   (case a=>k_is)
   (case l=>k_is)
   (case c=>k_is)
   (case k=>k_is)
  case Z7 =>
   refine' L2.YI KX G ["thing"] ?a ?l ?c ?k (fun _ _ _ _ _ _ us hl=>by obtain ⟨_,rfl⟩:=KW.us1 hl;rfl)
   (case a=>k_is)
   (case l=>k_is)
   (case c=>k_is)
   (case k=>k_is)
  case Zv =>
   refine' L2.YI KX G ["mark","term","thing","can_take"] ?a ?l ?c ?k (fun _ _ _ _ _ _ us hl=>by obtain ⟨_,_,_,_,rfl⟩:=KW.us4 hl;rfl)
   (case a=>k_is)
   (case l=>k_is)
   (case c=>k_is)
   (case k=>k_is)
  case Z5 =>
   refine' L2.YI KX G ["mark","body","thing"] ?a ?l ?c ?k (fun _ _ _ _ _ _ us hl=>by obtain ⟨_,_,_,rfl⟩:=KW.us3 hl;rfl)
   (case a=>k_is)
   (case l=>k_is)
   (case c=>k_is)
   (case k=>k_is)
  case Zc =>
   refine' L2.YI KX G ["body","thing"] ?a ?l ?c ?k (fun _ _ _ _ _ _ us hl=>by obtain ⟨_,_,rfl⟩:=KW.us2 hl;rfl)
   (case a=>k_is)
   (case l=>k_is)
   (case c=>k_is)
   (case k=>k_is)
  case f_told =>
   refine' L2.YI KX G ["term","thing"] ?a ?l ?c ?k (fun _ _ _ _ _ _ us hl=>by obtain ⟨_,_,rfl⟩:=KW.us2 hl;rfl)
   (case a=>k_is)
   (case l=>k_is)
   (case c=>k_is)
   (case k=>k_is)
  case f_said =>
   refine' L2.YI KX G ["term","thing"] ?a ?l ?c ?k (fun _ _ _ _ _ _ us hl=>by obtain ⟨_,_,rfl⟩:=KW.us2 hl;rfl)
   (case a=>k_is)
   (case l=>k_is)
   (case c=>k_is)
   (case k=>k_is)
  case Zs =>
   refine' L2.YI KX G ["_law_script","_law_k"] ?a ?l ?c ?k (fun _ _ _ _ _ _ us hl=>by obtain ⟨_,_,rfl⟩:=KW.us2 hl;rfl)
   (case a=>k_is)
   (case l=>k_is)
   (case c=>k_is)
   (case k=>k_is)
  case ZV =>
   refine' L2.YI KX G ["_law_rows_here","_law_bound","_law_most"] ?a ?l ?c ?k (fun _ _ _ _ _ _ us hl=>by obtain ⟨_,_,_,rfl⟩:=KW.us3 hl;rfl)
   (case a=>k_is)
   (case l=>k_is)
   (case c=>k_is)
   (case k=>k_is)
  case ZK =>
   refine' L2.YI KX G ["_law_term","_law_thing"] ?a ?l ?c ?k (fun _ _ _ _ _ _ us hl=>by obtain ⟨_,_,rfl⟩:=KW.us2 hl;rfl)
   (case a=>k_is)
   (case l=>k_is)
   (case c=>k_is)
   (case k=>k_is)
  case ZL =>
   refine' L2.YI KX G ["_law_script"] ?a ?l ?c ?k (fun _ _ _ _ _ _ us hl=>by obtain ⟨_,rfl⟩:=KW.us1 hl;rfl)
   (case a=>k_is)
   (case l=>k_is)
   (case c=>k_is)
   (case k=>k_is)
  case b_bool =>
   refine' PySem.W.mg_none_of KX G ?a
   (case a=>k_is)
  case b_dict =>
   refine' PySem.W.mg_none_of KX G ?a
   (case a=>k_is)
  case Zk =>
   refine' PySem.W.mg_none_of KX G ?a
   (case a=>k_is)
  case b_int =>
   refine' PySem.W.mg_none_of KX G ?a
   (case a=>k_is)
  case Z2 =>
   refine' PySem.W.mg_none_of KX G ?a
   (case a=>k_is)
  case b_len =>
   refine' PySem.W.mg_none_of KX G ?a
   (case a=>k_is)
  case b_list =>
   refine' PySem.W.mg_none_of KX G ?a
   (case a=>k_is)
  case ZC =>
   refine' PySem.W.mg_none_of KX G ?a
   (case a=>k_is)
  case b_repr =>
   refine' PySem.W.mg_none_of KX G ?a
   (case a=>k_is)
  case b_str =>
   refine' PySem.W.mg_none_of KX G ?a
   (case a=>k_is)
  case Z3 =>
   refine' PySem.W.mg_none_of KX G ?a
   (case a=>k_is)
  case x_CountError =>
   refine' PySem.W.mg_of KX G ?a
   (case a=>k_is)
  case x_Astray =>
   refine' PySem.W.mg_of KX G ?a
   (case a=>k_is)
  case xi_Astray =>
   refine' L2.QI KX G ["self","mark"] ?aC ?a ?o ?i ?l ?c ?k (fun _ _ _ _ _ _ us hl=>by obtain ⟨_,_,rfl⟩:=KW.us2 hl;rfl)
   (case aC=>k_is)
   (case a=>k_is)
   (case o=>kernel_rfl)
   (case i=>k_is)
   (case l=>k_is)
   (case c=>k_is)
   (case k=>k_is)
  case xf_Astray =>
   refine' ⟨?a,?b,?c⟩
   (case a=>k_is)
   (case b=>kernel_rfl)
   (case c=>k_is)
  case xn_Astray_mark=>k_is
  case bi_CountError =>
   refine' L2.U1 KX G ?a ?b ?c ?d
   (case a=>k_is)
   (case b=>k_is)
   (case c=>k_is)
   (case d=>k_is)
  case t_Astray =>
   refine' ⟨?a,?b,?c,?d,?e,?f⟩
   (case a=>k_is)
   (case b=>k_is)
   (case c=>k_is)
   (case d=>k_is)
   (case e=>k_is)
   (case f=>k_is)
  case m_Astray_Astray=>kts_exm
